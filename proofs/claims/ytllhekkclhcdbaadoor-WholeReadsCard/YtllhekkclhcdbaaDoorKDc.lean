/- 'Decode'. -/
import Derived.Test.YtllhekkclhcdbaaDoorKGn
import Derived.Test.YtllhekkclhcdbaaDoorKEn
import Derived.Laws.MakeOwn
namespace Go.Proofs.YtllhekkclhcdbaaDoor
open Go.RowKit

theorem takeD_xlen (B : List Nat) (base size : Nat) (o : De) (v x : Nat) : ∀ n, (takeD B base size n (o, v) x).2.1.x.length = o.x.length
  | 0 => rfl
  | n + 1 => by
    rw [takeD_snoc]
    have := takeD_xlen B base size o v x n
    show (getP B (takeD B base size n (o, v) x).2.1 _).x.length = _
    simp [getP, this]

/-- What a number leaves. -/
theorem numD_ok {B : List Nat} {o : De} (base : Nat) (h : Eok B o) (hm : o.made + 38 ≤ 16777216) : Eok B (numD B base (o, 1)).2.2.1 ∧ (numD B base (o, 1)).2.2.1.made ≤ o.made + 38 ∧ (numD B base (o, 1)).2.2.1.x.length = o.x.length ∧ (numD B base (o, 1)).1 < 2 ∧ (numD B base (o, 1)).2.1 < 18446744073709551616 := by
  obtain ⟨a1, a2⟩ := takeD_ok base 512 h 1 0 1 (by omega)
  have x1 := takeD_xlen B base 512 o 1 0 1
  have l1 := takeD_lt (B := B) base 512 o 1 1
  unfold numD
  dsimp only
  generalize takeD B base 512 1 (o, 1) 0 = r1 at *
  obtain ⟨sg, d1, u1⟩ := r1
  dsimp only at a1 a2 x1 l1 ⊢
  have hk := headK_lt B base 512 (d1, u1)
  generalize headK B base 512 (d1, u1) = k at *
  obtain ⟨s1, s2, s3⟩ := rowK_small hk
  obtain ⟨b1, b2⟩ := takeD_ok base 512 a1 u1 0 (rowX k) (by omega)
  have x2 := takeD_xlen B base 512 d1 u1 0 (rowX k)
  generalize takeD B base 512 (rowX k) (d1, u1) 0 = r2 at *
  obtain ⟨hd, d2, u2⟩ := r2
  dsimp only at b1 b2 x2 ⊢
  obtain ⟨c1, c2⟩ := takeD_ok base 512 b1 u2 0 (rowW k) (by omega)
  have x3 := takeD_xlen B base 512 d2 u2 0 (rowW k)
  have l3 := takeD_lt (B := B) base 512 d2 u2 (rowW k)
  have p3 : 2 ^ rowW k ≤ 2 ^ 32 := Nat.pow_le_pow_right (by decide) s2
  exact ⟨c1, by omega, by omega, by omega, by omega⟩

/-- The decoder behind n numbers. -/
def dN (B : List Nat) : Nat → De
  | 0 => newD B 512
  | n + 1 => (numD B 0 (dN B n, 1)).2.2.1
def sgN (B : List Nat) (i : Nat) : Nat := (numD B 0 (dN B i, 1)).1
def amN (B : List Nat) (i : Nat) : Nat := (numD B 0 (dN B i, 1)).2.1
theorem dN_ok {B : List Nat} (hB : ∀ y ∈ B, y < 256) : ∀ i, i ≤ 400 → Eok B (dN B i) ∧ (dN B i).made ≤ 38 * i ∧ (dN B i).x.length = 512
  | 0, _ => ⟨newD_ok (by omega) (by omega) hB, Nat.zero_le _, List.length_replicate⟩
  | i + 1, hi => by
    obtain ⟨a, b, c⟩ := dN_ok hB i (by omega)
    obtain ⟨d, e, f, _, _⟩ := numD_ok 0 a (by omega)
    exact ⟨d, by show (numD B 0 (dN B i, 1)).2.2.1.made ≤ _; omega, f.trans c⟩

/-- Numbers that are being written. -/
structure NArr (w : World) (g n : Nat) (V : Nat → Int) (N : Nat → Bool) (i : Nat) : Prop where
  arr : ∃ a : Array Value, w.heap[g]? = some (.cells a 46 (0, 0)) ∧ a.size = n * 2 ∧ ∀ j, j < i → a[j * 2]? = some (.int .i64 (V j)) ∧ a[j * 2 + 1]? = some (.bool (N j))
theorem NArr.lt {w : World} {g n : Nat} {V : Nat → Int} {N : Nat → Bool} {i : Nat} (h : NArr w g n V N i) : g < w.heap.size := by
  obtain ⟨a, h1, _, _⟩ := h.arr
  exact lt_of_block h1
theorem NArr.kept {w w' : World} {g n : Nat} {V : Nat → Int} {N : Nat → Bool} {i : Nat} {S : Nat → Prop} (h : NArr w g n V N i) (f : Fr S w w') (h1 : ¬ S g) : NArr w' g n V N i := by
  obtain ⟨a, e1, e2, e3⟩ := h.arr
  exact ⟨a, (f.block g h.lt h1).trans e1, e2, e3⟩
theorem NArr.room {w : World} {g n : Nat} {V : Nat → Int} {N : Nat → Bool} {i : Nat} (h : NArr w g n V N i) {k : Nat} (hk : k < n) : (∃ u, w.cell? ⟨g, k * 2, none⟩ = some u) ∧ (∃ u, w.cell? ⟨g, k * 2 + 1, none⟩ = some u) ∧ w.frozen? ⟨g, k * 2, none⟩ = false ∧ w.frozen? ⟨g, k * 2 + 1, none⟩ = false := by
  obtain ⟨a, e1, e2, _⟩ := h.arr
  refine ⟨⟨a[k * 2]'(by omega), ?_⟩, ⟨a[k * 2 + 1]'(by omega), ?_⟩, ?_, ?_⟩
  · simp only [World.cell?, e1]; exact Array.getElem?_eq_getElem (by omega)
  · simp only [World.cell?, e1]; exact Array.getElem?_eq_getElem (by omega)
  · simp [World.frozen?, e1]
  · simp [World.frozen?, e1]
theorem NArr.set {w : World} {g n : Nat} {V : Nat → Int} {N : Nat → Bool} {i : Nat} (h : NArr w g n V N i) (hi : i < n) : NArr ((w.setCell ⟨g, i * 2, none⟩ (.int .i64 (V i))).setCell ⟨g, i * 2 + 1, none⟩ (.bool (N i))) g n V N (i + 1) := by
  obtain ⟨a, e1, e2, e3⟩ := h.arr
  have s1 := seven_set (j := i * 2) (u := .int .i64 (V i)) e1
  have s2 := seven_set (j := i * 2 + 1) (u := .bool (N i)) s1
  refine ⟨_, s2, by simp [e2], fun j hj => ?_⟩
  by_cases e : j = i
  · subst e
    refine ⟨?_, ?_⟩
    · rw [Array.getElem?_setIfInBounds_ne (by omega), Array.getElem?_setIfInBounds_self_of_lt (by omega)]
    · rw [Array.getElem?_setIfInBounds_self_of_lt (by simp; omega)]
  · obtain ⟨q1, q2⟩ := e3 j (by omega)
    refine ⟨?_, ?_⟩
    · rw [Array.getElem?_setIfInBounds_ne (by omega), Array.getElem?_setIfInBounds_ne (by omega)]; exact q1
    · rw [Array.getElem?_setIfInBounds_ne (by omega), Array.getElem?_setIfInBounds_ne (by omega)]; exact q2
theorem NArr.nums {w : World} {g n : Nat} {V : Nat → Int} {N : Nat → Bool} (h : NArr w g n V N n) (hn : n ≤ 200) : NumsAt w (some ⟨g, 0, none⟩) n V N := by
  obtain ⟨a, e1, e2, e3⟩ := h.arr
  refine ⟨by omega, fun _ => ⟨g, 0, rfl, fun j hj => ?_⟩⟩
  obtain ⟨q1, q2⟩ := e3 j hj
  refine ⟨?_, ?_⟩
  · simp only [World.cell?, e1, Nat.zero_add]; exact q1
  · simp only [World.cell?, e1, Nat.zero_add]; exact q2

theorem Tryd.info46 : (Tryd.prog.info? 46).map (fun i => (i.zero, i.size, i.bytes)) = some (some (.agg #[.int .i64 0, .bool false]), 2, 16) := by kernel_rfl
theorem make_nums (n : Nat) (hn : n ≤ 65536) (w : World) : (Instr.makeSlice 22 (.int .i64 (n : Int)) (.int .i64 (n : Int))).run Tryd.prog w = .ok (.slice (some ⟨w.heap.size, 0, none⟩) n n) (w.alloc (.cells (madeCells #[.int .i64 0, .bool false] (n * 2)) 46)) := by
  obtain ⟨i, hi, hzz⟩ := Option.map_eq_some_iff.1 Tryd.info46
  simp only [Prod.mk.injEq] at hzz
  obtain ⟨hz, hs, hb⟩ := hzz
  have := run_makeSlice (P := Tryd.prog) w 22 46 i _ Tryd.underlying22 hi hz .i64 .i64 (n : Int) (n : Int) (by omega) (Int.le_refl _) (by rw [hs]; omega) (by rw [hb]; omega) (by omega)
  rw [hs] at this
  exact this

set_option maxRecDepth 100000 in
set_option maxHeartbeats 1000000 in
theorem wdecode_range (w : World) (v : Value) (n : Int) (h : n < 0 ∨ 65536 < n) :
    Calls Tryd.prog 15 #[v, .int .i64 n] w fun e w' => e = .returned (.tuple #[.slice none 0 0, .int .i64 50]) ∧ w' = w := by
  by_cases h1 : n < 0
  · have hd : decide (n < 0) = true := decide_eq_true h1
    clear h h1
    go_enter Tryd.func15, Tryd.ntmps15
    go_wp2_with fail
    go_ret2
    exact ⟨rfl, rfl⟩
  · have hd : decide (n < 0) = false := decide_eq_false h1
    have hd2 : decide (65536 < n) = true := decide_eq_true (by omega)
    clear h h1
    go_enter Tryd.func15, Tryd.ntmps15
    go_wp2_with fail
    go_ret2
    exact ⟨rfl, rfl⟩

set_option maxRecDepth 100000 in
set_option maxHeartbeats 4000000 in
theorem wdecode_any (w : World) (v : Value) (B : List Nat) (n : Nat) (hn : n ≤ 200) (hv : SeenAt w v B) (hnil : v = .slice none 0 0 ∨ ∃ a n c, v = .slice (some a) n c) (hB : ∀ y ∈ B, y < 256) (hr : RowsAt w) :
    Calls Tryd.prog 15 #[v, .int .i64 (n : Int)] w fun e w' => Fr (fun _ => False) w w' ∧ (((∀ j, j < n → amN B j ≤ 2147483648) ∧ ∃ g, e = .returned (.tuple #[.slice (some ⟨g, 0, none⟩) n n, .int .i64 0]) ∧ NumsAt w' (some ⟨g, 0, none⟩) n (fun j => joinI (sgN B j) (amN B j)) (fun j => joinN (sgN B j) (amN B j)) ∧ w.heap.size ≤ g) ∨
      ((∃ j, j < n ∧ 2147483648 < amN B j) ∧ e = .returned (.tuple #[.slice none 0 0, .int .i64 50]))) := by
  have HV : Hid (SeenAt w v B ∧ (v = .slice none 0 0 ∨ ∃ a n c, v = .slice (some a) n c) ∧ (∀ y ∈ B, y < 256) ∧ RowsAt w ∧ n ≤ 200) := ⟨hv, hnil, hB, hr, hn⟩
  have hd : decide ((n : Int) < 0) = false := decide_eq_false (by omega)
  have hd2 : decide ((65536 : Int) < (n : Int)) = false := decide_eq_false (by omega)
  have hmk := make_nums n (by omega)
  clear hv hnil hB hr hn
  go_enter Tryd.func15, Tryd.ntmps15
  go_wp2_with fail
  refine (newDecoder_any _ v B 512 (by omega) (by omega) HV.out.1 HV.out.2.1 HV.out.2.2.1).mono ?_
  rintro e w1 ⟨bd, gc, vb, rfl, hde, f1, l1, l2, l3⟩
  have HD : Hid (DeAt w1 bd gc 512 vb B (newD B 512) ∧ w.heap.size ≤ bd ∧ w.heap.size ≤ gc ∧ (∀ k, vb.ownBlock = some k → w.heap.size ≤ k)) := ⟨hde, l1, l2, l3⟩
  have F1 : Hid (Fr (fun _ => False) w w1) := f1
  clear hde f1 l1 l2 l3
  go_wp2_with fail
  have hal : Fr (fun _ => False) w1 (w1.alloc (.cells (madeCells #[.int .i64 0, .bool false] (n * 2)) 46)) := (Fr.refl _ _).alloc _
  have hna : NArr (w1.alloc (.cells (madeCells #[.int .i64 0, .bool false] (n * 2)) 46)) w1.heap.size n (fun j => joinI (sgN B j) (amN B j)) (fun j => joinN (sgN B j) (amN B j)) 0 := ⟨_, heap_alloc_new w1 _, size_madeCells _ _, fun j hj => absurd hj (by omega)⟩
  have F2 : Hid (Fr (fun _ => False) w (w1.alloc (.cells (madeCells #[.int .i64 0, .bool false] (n * 2)) 46))) := Fr.trans F1.out hal (fun _ _ h => h)
  have HD2 : Hid (DeAt (w1.alloc (.cells (madeCells #[.int .i64 0, .bool false] (n * 2)) 46)) bd gc 512 vb B (newD B 512)) := HD.out.1.keptAll hal
  have HL : Hid (w.heap.size ≤ bd ∧ w.heap.size ≤ gc ∧ w.heap.size ≤ w1.heap.size ∧ bd < w1.heap.size ∧ gc < w1.heap.size ∧ (∀ k, vb.ownBlock = some k → k < w1.heap.size) ∧ 0 < w.heap.size) := ⟨HD.out.2.1, HD.out.2.2.1, F1.out.size, HD.out.1.lt, HD.out.1.xlt, fun k e => (HD.out.1.bs.lt k e).2, HV.out.2.2.2.1.lt⟩
  generalize w1.alloc (.cells (madeCells #[.int .i64 0, .bool false] (n * 2)) 46) = w2 at *
  generalize w1.heap.size = g at *
  have HNA : Hid (NArr w2 g n (fun j => joinI (sgN B j) (amN B j)) (fun j => joinN (sgN B j) (amN B j)) 0) := hna
  clear hna hal hmk HD
  go_loopw [27] (fun p wr => ∃ i : Nat, i ≤ n ∧ p = .int .i64 (i : Int) ∧ (∀ j, j < i → amN B j ≤ 2147483648) ∧ DeAt wr bd gc 512 vb B (dN B i) ∧ NArr wr g n (fun j => joinI (sgN B j) (amN B j)) (fun j => joinN (sgN B j) (amN B j)) i ∧ Fr (fun _ => False) w wr)
    (fun p _ => ((n : Int) - intOf p).toNat)
  case atStart => exact ⟨0, Nat.zero_le _, rfl, fun j hj => absurd hj (by omega), HD2.out, HNA.out, F2.out⟩
  case round =>
    obtain ⟨i, hi, rfl, hall, hde, hna, hfr⟩ := hrel
    clear HD2 HNA F2
    have hvv := HV.out
    have hll := HL.out
    by_cases hin : i < n
    · have hdec : decide (i < n) = true := decide_eq_true hin
      obtain ⟨ok1, mk1, xl1⟩ := dN_ok hvv.2.2.1 i (by omega)
      have hget := get_ok wr bd gc 512 0 vb B (dN B i) hde ok1 (hvv.2.2.2.1.kept hfr (fun h => h)) (by omega) (by omega) ⟨by omega, by omega⟩ 0 rfl
      have HA : Hid (∀ j, j < i → amN B j ≤ 2147483648) := hall
      have HF : Hid (Fr (fun _ => False) w wr) := hfr
      have HNa : Hid (NArr wr g n (fun j => joinI (sgN B j) (amN B j)) (fun j => joinN (sgN B j) (amN B j)) i) := hna
      have k2 : IntKind.i64.wrap ((i : Int) + 1) = (i : Int) + 1 := by rw [IntKind.wrap_i64]; omega
      obtain ⟨ji, eji⟩ : ∃ ji, joinI (sgN B i) (amN B i) = ji := ⟨_, rfl⟩
      obtain ⟨jn, ejn⟩ : ∃ jn, joinN (sgN B i) (amN B i) = jn := ⟨_, rfl⟩
      have hge2 : Calls Tryd.prog 33 #[.pointer (some ⟨bd, 0, none⟩), .int .i64 0] wr fun e w' => e = .returned (.tuple #[.agg #[.int .i64 ji, .bool jn], .int .i64 (joinE (amN B i))]) ∧ DeAt w' bd gc 512 vb B (dN B (i + 1)) ∧ DStep bd gc wr w' := by
        rw [← eji, ← ejn]; exact hget
      have HG : Hid (Calls Tryd.prog 33 #[.pointer (some ⟨bd, 0, none⟩), .int .i64 0] wr fun e w' => e = .returned (.tuple #[.agg #[.int .i64 ji, .bool jn], .int .i64 (joinE (amN B i))]) ∧ DeAt w' bd gc 512 vb B (dN B (i + 1)) ∧ DStep bd gc wr w') := hge2
      have HJ : Hid (joinI (sgN B i) (amN B i) = ji ∧ joinN (sgN B i) (amN B i) = jn ∧ i < n) := ⟨eji, ejn, hin⟩
      clear hi hall hde hna hfr hvv ok1 mk1 xl1 hget hge2 eji ejn hll
      go_wp2_with fail
      refine HG.out.mono ?_
      rintro e w3 ⟨rfl, hde3, hst3⟩
      have hll := HL.out
      have hna3 := HNa.out.kept hst3 (by omega)
      have F3 : Hid (Fr (fun _ => False) w w3) := Fr.trans HF.out hst3 (fun k hk h => by omega)
      have HD3 : Hid (DeAt w3 bd gc 512 vb B (dN B (i + 1))) := hde3
      by_cases ham : amN B i ≤ 2147483648
      · have hje : joinE (amN B i) = 0 := by unfold joinE; rw [if_neg (by omega)]
        rw [hje]
        have HAM : Hid (amN B i ≤ 2147483648) := ham
        have hal3 : Fr (fun _ => False) w3 (w3.alloc (.cells #[.int .i64 ji, .bool jn] 46)) := (Fr.refl _ _).alloc _
        have hna4 := hna3.kept hal3 (fun h => h)
        have hns := hna4.set hin
        rw [HJ.out.1, HJ.out.2.1] at hns
        obtain ⟨⟨y0, r0⟩, ⟨y1, r1⟩, r2, r3⟩ := hna4.room hin
        have HNS : Hid (NArr (((w3.alloc (.cells #[.int .i64 ji, .bool jn] 46)).setCell ⟨g, i * 2, none⟩ (.int .i64 ji)).setCell ⟨g, i * 2 + 1, none⟩ (.bool jn)) g n (fun j => joinI (sgN B j) (amN B j)) (fun j => joinN (sgN B j) (amN B j)) (i + 1)) := hns
        clear hje ham hns hna3 hna4 hst3 hde3 hal3 hll
        go_wp2_with fail
        go_roundw
        case rel =>
          have hll := HL.out
          have fe : Fr (fun k => k = g) w3 (((w3.alloc (.cells #[.int .i64 ji, .bool jn] 46)).setCell ⟨g, i * 2, none⟩ (.int .i64 ji)).setCell ⟨g, i * 2 + 1, none⟩ (.bool jn)) :=
            Fr.setCell (S := fun k => k = g) (Fr.setCell (S := fun k => k = g) (Fr.alloc (Fr.refl (fun k => k = g) w3) _) (p := ⟨g, i * 2, none⟩) (fun _ => rfl) _) (p := ⟨g, i * 2 + 1, none⟩) (fun _ => rfl) _
          refine ⟨i + 1, by have := HJ.out; omega, by push_cast; rfl, ?_, HD3.out.kept fe (by omega) (by omega) (fun k e h => by have := hll.2.2.2.2.2.1 k e; omega), HNS.out, Fr.trans F3.out fe (fun k hk e => by omega)⟩
          intro j hj
          rcases Nat.lt_or_ge j i with e | e
          · exact HA.out j e
          · obtain rfl : j = i := by omega
            exact HAM.out
        case measure => have := HJ.out; simp [intOf]; omega
      · have hje : joinE (amN B i) = 50 := by unfold joinE; rw [if_pos (by omega)]
        rw [hje]
        have HAM : Hid (2147483648 < amN B i) := by show _ < _; omega
        clear hje ham hna3 hst3 hde3 hll
        go_wp2_with fail
        go_ret2
        exact ⟨Fr.alloc F3.out _, .inr ⟨⟨i, HJ.out.2.2, HAM.out⟩, rfl⟩⟩
    · obtain rfl : i = n := by omega
      have hdec : decide (i < i) = false := decide_eq_false (by omega)
      have HA : Hid (∀ j, j < i → amN B j ≤ 2147483648) := hall
      have HF : Hid (Fr (fun _ => False) w wr) := hfr
      have HNa : Hid (NArr wr g i (fun j => joinI (sgN B j) (amN B j)) (fun j => joinN (sgN B j) (amN B j)) i) := hna
      clear hi hall hde hna hfr hin hvv hll
      go_wp2_with fail
      go_ret2
      exact ⟨HF.out, .inl ⟨HA.out, g, rfl, HNa.out.nums HV.out.2.2.2.2, HL.out.2.2.1⟩⟩

end Go.Proofs.YtllhekkclhcdbaaDoor
