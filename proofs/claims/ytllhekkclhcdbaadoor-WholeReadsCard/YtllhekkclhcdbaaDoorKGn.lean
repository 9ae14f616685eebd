/- 'walk.number', 'Get'. -/
import Derived.Test.YtllhekkclhcdbaaDoorKHe
namespace Go.Proofs.YtllhekkclhcdbaaDoor
open Go.RowKit

/-- A number got: its sign, its amount, and what is left. -/
def numD (B : List Nat) (base : Nat) (s : De × Nat) : Nat × Nat × (De × Nat) :=
  let r1 := takeD B base 512 1 s 0
  let k := headK B base 512 r1.2
  let r2 := takeD B base 512 (rowX k) r1.2 0
  let r3 := takeD B base 512 (rowW k) r2.2 0
  (r1.1, rowL k + r3.1, r3.2)

theorem rowK_small {k : Nat} (h : k < 6) : rowX k ≤ 5 ∧ rowW k ≤ 32 ∧ rowL k ≤ 4436 := by
  rcases (by omega : k = 0 ∨ k = 1 ∨ k = 2 ∨ k = 3 ∨ k = 4 ∨ k = 5) with rfl | rfl | rfl | rfl | rfl | rfl <;> decide

/-- Two cells in memory. -/
structure PAt (w : World) (b : Nat) (x : Int) (y : Bool) : Prop where
  blk : w.heap[b]? = some (.cells #[.int .i64 x, .bool y] 46 (0, 0))
theorem PAt.cells {w : World} {b : Nat} {x : Int} {y : Bool} (h : PAt w b x y) : w.cell? ⟨b, 0, none⟩ = some (.int .i64 x) ∧ w.cell? ⟨b, 1, none⟩ = some (.bool y) ∧ w.frozen? ⟨b, 0, none⟩ = false ∧ w.frozen? ⟨b, 1, none⟩ = false := by
  have hb := h.blk
  refine ⟨?_, ?_, ?_, ?_⟩ <;> simp [World.cell?, World.frozen?, hb]
theorem PAt.lt {w : World} {b : Nat} {x : Int} {y : Bool} (h : PAt w b x y) : b < w.heap.size := lt_of_block h.blk
theorem PAt.kept {w w' : World} {b : Nat} {x : Int} {y : Bool} {S : Nat → Prop} (h : PAt w b x y) (f : Fr S w w') (h1 : ¬ S b) : PAt w' b x y := ⟨(f.block b h.lt h1).trans h.blk⟩
theorem PAt.set {w : World} {b : Nat} {x : Int} {y : Bool} (h : PAt w b x y) (x' : Int) (y' : Bool) : PAt ((w.setCell ⟨b, 0, none⟩ (.int .i64 x')).setCell ⟨b, 1, none⟩ (.bool y')) b x' y' :=
  ⟨seven_set (j := 1) (u := .bool y') (seven_set (j := 0) (u := .int .i64 x') h.blk)⟩
theorem Fr.set2 {a b : World} {g : Nat} (h : Fr (fun k => k = g) a b) (x0 x1 : Value) : Fr (fun k => k = g) a ((b.setCell ⟨g, 0, none⟩ x0).setCell ⟨g, 1, none⟩ x1) :=
  Fr.setCell (Fr.setCell h (p := ⟨g, 0, none⟩) (fun _ => rfl) _) (p := ⟨g, 1, none⟩) (fun _ => rfl) _

set_option maxRecDepth 100000 in
set_option maxHeartbeats 4000000 in
theorem number_any (w : World) (bk base : Nat) (bd gc cc : Nat) (vb : Value) (B : List Nat) (o : De) (hwk : WkAt w bk base 512 1) (h : DeAt w bd gc cc vb B o) (hok : Eok B o) (hm : o.made + 38 ≤ 16777216) (hr : RowsAt w)
    (hbase : base ≤ 131072) (hk : bk ≠ bd ∧ bk ≠ gc ∧ vb.ownBlock ≠ some bk) (h0 : 0 ≠ bd ∧ 0 ≠ gc ∧ 0 ≠ bk) :
    Calls Tryd.prog 57 #[.pointer (some ⟨bk, 0, none⟩), .pointer (some ⟨bd, 0, none⟩)] w fun e w' => e = .returned (.tuple #[.agg #[.int .i64 (joinI (numD B base (o, 1)).1 (numD B base (o, 1)).2.1), .bool (joinN (numD B base (o, 1)).1 (numD B base (o, 1)).2.1)], .int .i64 (joinE (numD B base (o, 1)).2.1)]) ∧ DeAt w' bd gc cc vb B (numD B base (o, 1)).2.2.1 ∧ Fr (fun k => k = bd ∨ k = gc ∨ k = bk) w w' := by
  have f0 : Fr (fun _ => False) w (w.alloc (.cells #[.int .i64 0, .bool false] 46)) := (Fr.refl _ _).alloc _
  have hp0 : PAt (w.alloc (.cells #[.int .i64 0, .bool false] 46)) w.heap.size 0 false := ⟨heap_alloc_new w _⟩
  have lbk := hwk.lt
  have lbd := h.lt
  have lgc := h.xlt
  have lvb : ∀ k, vb.ownBlock = some k → k < w.heap.size := fun k e => (h.bs.lt k e).2
  have HK : Hid ((bk ≠ bd ∧ bk ≠ gc ∧ vb.ownBlock ≠ some bk) ∧ bk < w.heap.size ∧ bd < w.heap.size ∧ gc < w.heap.size ∧ (∀ k, vb.ownBlock = some k → k < w.heap.size) ∧ 0 ≠ bd ∧ 0 ≠ gc ∧ 0 ≠ bk) := ⟨hk, lbk, lbd, lgc, lvb, h0⟩
  have HR : Hid (RowsAt w) := hr
  have HB : Hid (base ≤ 131072) := hbase
  have ht1 := take_any _ bk base 512 1 bd gc cc vb B o (hwk.kept f0 (fun h => h)) (h.keptAll f0) hok 1 (by omega) (by omega) (.inr (by decide)) ⟨by omega, .inr (by omega)⟩ hbase hk 1 rfl
  obtain ⟨ok1, mk1⟩ := takeD_ok base 512 hok 1 0 1 (by omega)
  have hv1 := takeD_v (B := B) base (size := 512) (by omega) (by decide) o (v := 1) (by omega) 0 1
  have hsg := takeD_lt (B := B) base 512 o 1 1
  have Hnum : Hid (numD B base (o, 1) = ((takeD B base 512 1 (o, 1) 0).1, rowL (headK B base 512 (takeD B base 512 1 (o, 1) 0).2) + (takeD B base 512 (rowW (headK B base 512 (takeD B base 512 1 (o, 1) 0).2)) (takeD B base 512 (rowX (headK B base 512 (takeD B base 512 1 (o, 1) 0).2)) (takeD B base 512 1 (o, 1) 0).2 0).2 0).1, (takeD B base 512 (rowW (headK B base 512 (takeD B base 512 1 (o, 1) 0).2)) (takeD B base 512 (rowX (headK B base 512 (takeD B base 512 1 (o, 1) 0).2)) (takeD B base 512 1 (o, 1) 0).2 0).2 0).2)) := rfl
  generalize takeD B base 512 1 (o, 1) 0 = r1 at *
  obtain ⟨sg, d1, u1⟩ := r1
  dsimp only at ok1 mk1 hv1 hsg ht1
  have HT1 : Hid (Calls Tryd.prog 56 #[.pointer (some ⟨bk, 0, none⟩), .pointer (some ⟨bd, 0, none⟩), .int .i64 1] (w.alloc (.cells #[.int .i64 0, .bool false] 46)) fun e w' => e = .returned (.tuple #[.int .u64 (sg : Int), .int .i64 0]) ∧ DeAt w' bd gc cc vb B d1 ∧ WkAt w' bk base 512 u1 ∧ Fr (fun k => k = bd ∨ k = gc ∨ k = bk) (w.alloc (.cells #[.int .i64 0, .bool false] 46)) w') := ht1
  have H1 : Hid (Eok B d1 ∧ d1.made = o.made + 1 ∧ u1 < 512 ∧ sg < 2 ^ 1 ∧ o.made + 38 ≤ 16777216) := ⟨ok1, mk1, hv1, hsg, hm⟩
  have HP0 : Hid (PAt (w.alloc (.cells #[.int .i64 0, .bool false] 46)) w.heap.size 0 false) := hp0
  clear f0 hp0 lbk lbd lgc lvb hwk h hok hm hr hbase hk h0 ht1 ok1 mk1 hv1 hsg
  go_enter Tryd.func57, Tryd.ntmps57
  go_wp2_with fail
  refine HT1.out.mono ?_
  rintro e w1 ⟨rfl, hd1, hwk1, f1⟩
  have hkk := HK.out
  obtain ⟨okd1, mkd1, hu1, _, hm38⟩ := H1.out
  have hp1 := HP0.out.kept f1 (by omega)
  have F1 : Hid (Fr (fun k => k = bd ∨ k = gc ∨ k = bk) w w1) := Fr.trans ((Fr.refl _ _).alloc _) f1 (fun _ _ h => h)
  have hrow1 : RowsAt w1 := HR.out.kept F1.out (by omega)
  have hh1 := head_any w1 bk base 512 u1 bd gc cc vb B d1 hwk1 hd1 okd1 (by omega) hrow1 (by decide) hu1 HB.out hkk.1
  have HP1 : Hid (PAt w1 w.heap.size 0 false) := hp1
  obtain ⟨k, ek⟩ : ∃ k, headK B base 512 (d1, u1) = k := ⟨_, rfl⟩
  have hk6 : k < 6 := by rw [← ek]; exact headK_lt _ _ _ _
  obtain ⟨s1, s2, s3⟩ := rowK_small hk6
  obtain ⟨ok2, mk2⟩ := takeD_ok base 512 okd1 u1 0 (rowX k) (by omega)
  have hv2 := takeD_v (B := B) base (size := 512) (by omega) (by decide) d1 (v := u1) hu1 0 (rowX k)
  rw [ek] at hh1
  have Hnum2 := Hnum.out
  rw [ek] at Hnum2
  generalize takeD B base 512 (rowX k) (d1, u1) 0 = r2 at *
  obtain ⟨hd2w, d2, u2⟩ := r2
  dsimp only at ok2 mk2 hv2 hh1 Hnum2
  have HH : Hid (Calls Tryd.prog 72 #[.pointer (some ⟨bk, 0, none⟩), .pointer (some ⟨bd, 0, none⟩)] w1 fun e w' => e = .returned (.tuple #[.agg (wRow k), .int .i64 0]) ∧ DeAt w' bd gc cc vb B d2 ∧ WkAt w' bk base 512 u2 ∧ Fr (fun k => k = bd ∨ k = gc ∨ k = bk) w1 w') := hh1
  have H2 : Hid (Eok B d2 ∧ d2.made = d1.made + rowX k ∧ u2 < 512 ∧ k < 6) := ⟨ok2, mk2, hv2, hk6⟩
  have Hn2 : Hid (numD B base (o, 1) = (sg, rowL k + (takeD B base 512 (rowW k) (d2, u2) 0).1, (takeD B base 512 (rowW k) (d2, u2) 0).2)) := Hnum2
  clear hd1 hwk1 f1 hkk okd1 mkd1 hu1 hm38 hp1 hrow1 hh1 ek hk6 s1 s2 s3 ok2 mk2 hv2 Hnum2 Hnum
  go_wp2_with fail
  refine HH.out.mono ?_
  rintro e w2 ⟨rfl, hd2, hwk2, f2⟩
  have hkk := HK.out
  have HP2 : Hid (PAt w2 w.heap.size 0 false) := HP1.out.kept f2 (by omega)
  have F2 : Hid (Fr (fun k => k = bd ∨ k = gc ∨ k = bk) w w2) := Fr.trans F1.out f2 (fun _ _ h => h)
  have HD2 : Hid (DeAt w2 bd gc cc vb B d2) := hd2
  have HW2 : Hid (WkAt w2 bk base 512 u2) := hwk2
  unfold wRow
  obtain ⟨l, el⟩ : ∃ l, rowL k = l := ⟨_, rfl⟩
  obtain ⟨hh, eh⟩ : ∃ h, rowH k = h := ⟨_, rfl⟩
  obtain ⟨x, ex⟩ : ∃ x, rowX k = x := ⟨_, rfl⟩
  obtain ⟨y, ey⟩ : ∃ y, rowW k = y := ⟨_, rfl⟩
  have H3 : Hid (rowL k = l ∧ rowX k = x ∧ rowW k = y ∧ l ≤ 4436 ∧ y ≤ 32 ∧ x ≤ 5) := by
    obtain ⟨s1, s2, s3⟩ := rowK_small H2.out.2.2.2
    exact ⟨el, ex, ey, by omega, by omega, by omega⟩
  rw [el, eh, ex, ey]
  clear hd2 hwk2 f2 hkk el eh ex ey
  go_wp2_with fail
  have hkk := HK.out
  obtain ⟨okd2, mkd2, hu2, hk6⟩ := H2.out
  obtain ⟨_, mkd1, _, hsg, hm38⟩ := H1.out
  obtain ⟨g1, g2, g3, g4, g5, g6⟩ := H3.out
  have hal : Fr (fun _ => False) w2 (w2.alloc (.cells #[.int .u64 (l : Int), .int .u64 (hh : Int), .int .i64 (x : Int), .int .i64 (y : Int)] 121)) := (Fr.refl _ _).alloc _
  have hfa : FAt (w2.alloc (.cells #[.int .u64 (l : Int), .int .u64 (hh : Int), .int .i64 (x : Int), .int .i64 (y : Int)] 121)) w2.heap.size l hh x y := ⟨heap_alloc_new w2 _⟩
  have hz2 := F2.out.size
  have hpl := HP2.out.lt
  refine (take_any _ bk base 512 u2 bd gc cc vb B d2 (HW2.out.kept hal (fun h => h)) (HD2.out.keptAll hal) okd2 y g5 (by omega) (.inr (by decide)) ⟨by omega, .inr hu2⟩ HB.out hkk.1 _ rfl).mono ?_
  rintro e w3 ⟨rfl, hd3, hwk3, f3⟩
  have hbd := HD2.out.lt
  have hgc := HD2.out.xlt
  have hbk := HW2.out.lt
  have hp3 := (HP2.out.kept hal (fun h => h)).kept f3 (by omega)
  have hf3 := hfa.kept f3 (by omega)
  have F3 : Hid (Fr (fun k => k = bd ∨ k = gc ∨ k = bk) w w3) := Fr.trans (Fr.trans F2.out hal (fun _ _ h => h.elim)) f3 (fun _ _ h => h)
  have hn := Hn2.out
  have hab := takeD_lt (B := B) base 512 d2 u2 y
  have hy32 : 2 ^ y ≤ 2 ^ 32 := Nat.pow_le_pow_right (by decide) g5
  rw [g1, g3] at hn
  generalize takeD B base 512 y (d2, u2) 0 = r3 at *
  obtain ⟨ab, d3, u3⟩ := r3
  dsimp only at hn hd3 hab ⊢
  obtain ⟨p0, p1, p2, p3⟩ := hp3.cells
  obtain ⟨q0, q1, q2, q3, _, _, _, _⟩ := hf3.cells
  have k1 : IntKind.u64.wrap ((l : Int) + (ab : Int)) = ((l + ab : Nat) : Int) := by rw [IntKind.wrap_u64]; omega
  obtain ⟨m, em⟩ : ∃ m, l + ab = m := ⟨_, rfl⟩
  rw [em] at k1 hn
  have Hm : Hid (numD B base (o, 1) = (sg, m, (d3, u3)) ∧ m < 18446744073709551616) := ⟨hn, by omega⟩
  have HP3 : Hid (PAt w3 w.heap.size 0 false) := hp3
  have HD3 : Hid (DeAt w3 bd gc cc vb B d3) := hd3
  clear hkk okd2 mkd2 hu2 hk6 mkd1 hsg hm38 g1 g2 g3 g4 g5 g6 hal hfa hz2 hpl hd3 hwk3 f3 hp3 hf3 hn hab hy32 em hbd hgc hbk
  go_wp2_with fail
  refine (joined_at _ sg m Hm.out.2).mono ?_
  rintro e w4 ⟨rfl, f4⟩
  have hp4 := HP3.out.kept f4 (fun h => h)
  have HP4 : Hid (PAt w4 w.heap.size 0 false) := hp4
  have HD4 : Hid (DeAt w4 bd gc cc vb B d3) := HD3.out.keptAll f4
  have F4 : Hid (Fr (fun k => k = bd ∨ k = gc ∨ k = bk) w w4) := Fr.trans F3.out f4 (fun _ _ h => h.elim)
  obtain ⟨ji, eji⟩ : ∃ ji, joinI sg m = ji := ⟨_, rfl⟩
  obtain ⟨jn, ejn⟩ : ∃ jn, joinN sg m = jn := ⟨_, rfl⟩
  obtain ⟨je, eje⟩ : ∃ je, joinE m = je := ⟨_, rfl⟩
  rw [eji, ejn, eje]
  have HJ : Hid (joinI sg m = ji ∧ joinN sg m = jn ∧ joinE m = je) := ⟨eji, ejn, eje⟩
  obtain ⟨t0, t1, t2, t3⟩ := hp4.cells
  clear hp4 f4 p0 p1 p2 p3 q0 q1 q2 q3 eji ejn eje
  go_wp2_with fail
  obtain ⟨v0, v1, _, _⟩ := (HP4.out.set ji jn).cells
  have hkk := HK.out
  have fe := Fr.set2 (g := w.heap.size) (Fr.refl _ w4) (.int .i64 ji) (.bool jn)
  refine bodyPost_ret (v := .tuple #[.agg #[.int .i64 ji, .bool jn], .int .i64 je]) (by simp [results, Tryd.results57, go_sem, v0, v1]) rfl ?_
  rw [Hm.out.1]
  dsimp only
  rw [HJ.out.1, HJ.out.2.1, HJ.out.2.2]
  refine ⟨rfl, HD4.out.kept fe (by omega) (by omega) (fun k e h => by have := hkk.2.2.2.2.1 k e; omega), Fr.trans F4.out fe (fun k hk e => by omega)⟩

set_option maxRecDepth 100000 in
set_option maxHeartbeats 1000000 in
theorem get_nil (w : World) (b : Int) :
    Calls Tryd.prog 33 #[.pointer none, .int .i64 b] w fun e w' => e = .returned (.tuple #[.agg #[.int .i64 0, .bool false], .int .i64 53]) ∧ Fr (fun _ => False) w w' := by
  go_enter Tryd.func33, Tryd.ntmps33
  go_wp2_with fail
  obtain ⟨q0, q1⟩ := two_cells (heap_alloc_new w (.cells #[.int .i64 0, .bool false] 46))
  exact bodyPost_ret (v := .tuple #[.agg #[.int .i64 0, .bool false], .int .i64 53]) (by simp [results, Tryd.results33, go_sem, q0, q1]) rfl ⟨rfl, (Fr.refl _ _).alloc _⟩

set_option maxRecDepth 100000 in
set_option maxHeartbeats 1000000 in
theorem get_base (w : World) (bd gc cc n : Nat) (e0 : w.cell? ⟨bd, 0, none⟩ = some (.slice (some ⟨gc, 0, none⟩) n cc)) (hn : n ≤ 131072) (b : Int) (hb : -9223372036854775808 ≤ b ∧ b ≤ 9223372036854775807) (hbad : ¬ (0 ≤ b ∧ b ≤ (n : Int) - 512)) :
    Calls Tryd.prog 33 #[.pointer (some ⟨bd, 0, none⟩), .int .i64 b] w fun e w' => e = .returned (.tuple #[.agg #[.int .i64 0, .bool false], .int .i64 51]) ∧ Fr (fun _ => False) w w' := by
  have H0 : Hid (w.cell? ⟨bd, 0, none⟩ = some (.slice (some ⟨gc, 0, none⟩) n cc)) := e0
  have HN : Hid (n ≤ 131072) := hn
  have HB : Hid ((-9223372036854775808 ≤ b ∧ b ≤ 9223372036854775807) ∧ ¬ (0 ≤ b ∧ b ≤ (n : Int) - 512)) := ⟨hb, hbad⟩
  clear hb hbad e0 hn
  go_enter Tryd.func33, Tryd.ntmps33
  go_wp2_with fail
  refine (contexts_at _ bd gc cc n (Fr.cell ((Fr.refl (fun _ => False) _).alloc _) H0.out (fun h => h)) HN.out).mono ?_
  rintro e w1 ⟨rfl, rfl⟩
  go_wp2_with fail
  refine (hasContexts_at _ b 512 n HB.out.1 (by omega) (by have := HN.out; omega) false (by rw [eq_comm, decide_eq_false_iff_not]; exact HB.out.2)).mono ?_
  rintro e w1 ⟨rfl, rfl⟩
  go_wp2_with fail
  obtain ⟨q0, q1⟩ := two_cells (heap_alloc_new w (.cells #[.int .i64 0, .bool false] 46))
  exact bodyPost_ret (v := .tuple #[.agg #[.int .i64 0, .bool false], .int .i64 51]) (by simp [results, Tryd.results33, go_sem, q0, q1]) rfl ⟨rfl, (Fr.refl _ _).alloc _⟩

set_option maxRecDepth 100000 in
set_option maxHeartbeats 1000000 in
theorem get_ok (w : World) (bd gc cc base : Nat) (vb : Value) (B : List Nat) (o : De) (h : DeAt w bd gc cc vb B o) (hok : Eok B o) (hr : RowsAt w) (hm : o.made + 38 ≤ 16777216) (hb : base + 512 ≤ o.x.length) (h0 : 0 ≠ bd ∧ 0 ≠ gc) (z : Int) (hz : z = base) :
    Calls Tryd.prog 33 #[.pointer (some ⟨bd, 0, none⟩), .int .i64 z] w fun e w' => e = .returned (.tuple #[.agg #[.int .i64 (joinI (numD B base (o, 1)).1 (numD B base (o, 1)).2.1), .bool (joinN (numD B base (o, 1)).1 (numD B base (o, 1)).2.1)], .int .i64 (joinE (numD B base (o, 1)).2.1)]) ∧ DeAt w' bd gc cc vb B (numD B base (o, 1)).2.2.1 ∧ DStep bd gc w w' := by
  subst hz
  have hlim := hok.lim
  have HN : Hid (o.x.length ≤ 131072 ∧ base + 512 ≤ o.x.length ∧ o.made + 38 ≤ 16777216) := ⟨hlim, hb, hm⟩
  have H0 : Hid (w.cell? ⟨bd, 0, none⟩ = some (.slice (some ⟨gc, 0, none⟩) o.x.length cc)) := (cell_of_seven h.blk).1
  have HD : Hid (DeAt w bd gc cc vb B o ∧ Eok B o ∧ RowsAt w ∧ 0 ≠ bd ∧ 0 ≠ gc) := ⟨h, hok, hr, h0⟩
  have HP0 : Hid (PAt (w.alloc (.cells #[.int .i64 0, .bool false] 46)) w.heap.size 0 false) := ⟨heap_alloc_new w _⟩
  clear hlim h hok hr hm hb h0
  go_enter Tryd.func33, Tryd.ntmps33
  go_wp2_with fail
  refine (contexts_at _ bd gc cc o.x.length (Fr.cell ((Fr.refl (fun _ => False) _).alloc _) H0.out (fun h => h)) HN.out.1).mono ?_
  rintro e w1 ⟨rfl, rfl⟩
  go_wp2_with fail
  refine (hasContexts_at _ (base : Int) 512 o.x.length (by have := HN.out; omega) (by omega) (by have := HN.out; omega) true (by rw [eq_comm, decide_eq_true_eq]; have := HN.out; omega)).mono ?_
  rintro e w1 ⟨rfl, rfl⟩
  go_wp2_with fail
  refine (startAt_at _ base 512 _ _ rfl rfl).mono ?_
  rintro e w1 ⟨bk, rfl, hwk, f1, l1⟩
  have HW : Hid (WkAt w1 bk base 512 1) := hwk
  have F1 : Hid (Fr (fun _ => False) w w1) := Fr.trans ((Fr.refl _ _).alloc _) f1 (fun _ _ h => h)
  have HP1 : Hid (PAt w1 w.heap.size 0 false) := HP0.out.kept f1 (fun h => h)
  have L1 : Hid (w.heap.size < bk) := Nat.lt_of_lt_of_le HP0.out.lt l1
  clear hwk f1 l1
  go_wp2_with fail
  have lbk := L1.out
  obtain ⟨hd, hok, hr, h01, h02⟩ := HD.out
  have hlt := hd.lt
  have hxl := hd.xlt
  have hvl : ∀ k, vb.ownBlock = some k → k < w.heap.size := fun k e => (hd.bs.lt k e).2
  refine (number_any w1 bk base bd gc cc vb B o HW.out (hd.keptAll F1.out) hok HN.out.2.2 (hr.kept F1.out (fun h => h)) (by have := HN.out; omega) ⟨by omega, by omega, fun e => by have := hvl _ e; omega⟩ ⟨h01, h02, by omega⟩).mono ?_
  rintro e w2 ⟨rfl, hd2, f2⟩
  have hp2 := HP1.out.kept f2 (by omega)
  have HP2 : Hid (PAt w2 w.heap.size 0 false) := hp2
  have F2 : Hid (Fr (fun k => k = bd ∨ k = gc) w w2) := Fr.trans (F1.out.mono (fun _ _ h => h.elim)) f2 (fun k hk h => by omega)
  have HV : Hid (bd < w.heap.size ∧ gc < w.heap.size ∧ ∀ k, vb.ownBlock = some k → k < w.heap.size) := ⟨hlt, hxl, hvl⟩
  obtain ⟨r, er⟩ : ∃ r, numD B base (o, 1) = r := ⟨_, rfl⟩
  rw [er] at hd2 ⊢
  obtain ⟨sg, m, d3, u3⟩ := r
  dsimp only at hd2 ⊢
  have HEr : Hid (numD B base (o, 1) = (sg, m, (d3, u3))) := er
  clear er
  have HD2 : Hid (DeAt w2 bd gc cc vb B d3) := hd2
  obtain ⟨ji, eji⟩ : ∃ ji, joinI sg m = ji := ⟨_, rfl⟩
  obtain ⟨jn, ejn⟩ : ∃ jn, joinN sg m = jn := ⟨_, rfl⟩
  obtain ⟨je, eje⟩ : ∃ je, joinE m = je := ⟨_, rfl⟩
  rw [eji, ejn, eje]
  have HJ : Hid (joinI sg m = ji ∧ joinN sg m = jn ∧ joinE m = je) := ⟨eji, ejn, eje⟩
  obtain ⟨t0, t1, t2, t3⟩ := hp2.cells
  clear hd hok hr h01 h02 hlt hxl hvl lbk hd2 f2 hp2 eji ejn eje
  go_wp2_with fail
  obtain ⟨v0, v1, _, _⟩ := (HP2.out.set ji jn).cells
  have hvv := HV.out
  have fe := Fr.set2 (g := w.heap.size) (Fr.refl _ w2) (.int .i64 ji) (.bool jn)
  refine bodyPost_ret (v := .tuple #[.agg #[.int .i64 ji, .bool jn], .int .i64 je]) (by simp [results, Tryd.results33, go_sem, v0, v1]) rfl ?_
  rw [HEr.out]
  dsimp only
  rw [HJ.out.1, HJ.out.2.1, HJ.out.2.2]
  exact ⟨rfl, HD2.out.kept fe (by omega) (by omega) (fun k e h => by have := hvv.2.2 k e; omega), Fr.trans F2.out fe (fun k hk e => by omega)⟩

end Go.Proofs.YtllhekkclhcdbaaDoor
