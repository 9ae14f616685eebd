/- Bytes as cells; lists that are seen; Eq, Lend and Back of bytes. -/
import Derived.WalkKit
import Derived.WalkSpells
import Derived.WalkLawsBesides
import Derived.BigQuiet
import Derived.Handy
import Derived.Great.BuildSlice
import Derived.Test.YtpfajkkjnobdlaaDoorGs
import Derived.Test.YtpfajkkjnobdlaaDoorLe
import Derived.Test.YtpfajkkjnobdlaaDoorEb
namespace Go.Proofs.YtpfajkkjnobdlaaDoor
open Go.RowKit

theorem Tryd.info5 : (Tryd.prog.info? 5).map (fun i => (i.zero, i.size, i.bytes)) = some (some (.int .u8 0), 1, 1) := by kernel_rfl

theorem Fr.cellv {S : Nat → Prop} {a b : World} (h : Fr S a b) {g j : Nat} {p : Option _} {v : Value} (hc : a.cell? ⟨g, j, p⟩ = some v) (hs : ¬ S g) : b.cell? ⟨g, j, p⟩ = some v := by
  have hlt : g < a.heap.size := by
    by_cases hg : g < a.heap.size
    · exact hg
    · rw [World.cell?, Array.getElem?_eq_none (by show a.heap.size ≤ g; omega)] at hc; cases hc
  rw [World.cell?, h.block g hlt hs]; exact hc
theorem Fr.frozen {S : Nat → Prop} {a b : World} (h : Fr S a b) {g j : Nat} {p : Option _} (hlt : g < a.heap.size) (hc : a.frozen? ⟨g, j, p⟩ = false) (hs : ¬ S g) : b.frozen? ⟨g, j, p⟩ = false := by
  rw [World.frozen?, h.block g hlt hs]; exact hc

/-- Bytes as cells. -/
def byteCells (l : List Nat) : List Value := l.map fun (x : Nat) => Value.int .u8 x
theorem length_byteCells (l : List Nat) : (byteCells l).length = l.length := by simp [byteCells]
theorem byteCells_get (l : List Nat) (j : Nat) : (byteCells l)[j]? = l[j]?.map fun (x : Nat) => Value.int .u8 x := by simp [byteCells]
theorem byteCells_set (l : List Nat) (j x : Nat) : (byteCells l).set j (Value.int .u8 (x : Int)) = byteCells (l.set j x) := by simp [byteCells, List.map_set]
theorem byteCells_append (a b : List Nat) : byteCells (a ++ b) = byteCells a ++ byteCells b := by simp [byteCells]
theorem byteCells_one (l : List Nat) : ∀ u ∈ byteCells l, u.oneCell' = true := by
  intro u hu
  simp only [byteCells, List.mem_map] at hu
  obtain ⟨x, _, rfl⟩ := hu
  rfl

theorem row_kept1 {w w' : World} {base e size n cap g m : Nat} {xs : List Value} {S : Nat → Prop} (h : w.ownsRow base e size (.slice (some ⟨g, 0, none⟩) m cap) n xs) (f : Fr S w w') (h2 : ¬ S g) : w'.ownsRow base e size (.slice (some ⟨g, 0, none⟩) m cap) n xs :=
  row_kept h f (fun k hk => by simp [Value.ownBlock] at hk; subst hk; exact h2)
/-- A row's block has the row's type. -/
theorem row_type {w : World} {base e size n cap g m : Nat} {xs : List Value} (h : w.ownsRow base e size (.slice (some ⟨g, 0, none⟩) m cap) n xs) : ∃ cur, w.heap[g]? = some (.cells cur e (0, 0)) := by
  rcases h.2 with ⟨e, _⟩ | ⟨g', cap', cur, e, _, hg, _⟩
  · cases e
  · simp only [Value.slice.injEq, Option.some.injEq, Addr.mk.injEq] at e
    obtain ⟨⟨rfl, _⟩, _⟩ := e
    exact ⟨cur, hg⟩

theorem row_form {w : World} {b e size n : Nat} {v : Value} {xs : List Value} (h : w.ownsRow b e size v n xs) (hn : 0 < n) : ∃ g cap, v = .slice (some ⟨g, 0, none⟩) n cap ∧ b ≤ g ∧ n ≤ cap ∧ cap ≤ maxLen := by
  rcases h.2 with ⟨_, e⟩ | ⟨g, cap, cur, rfl, hb, _, hc, hm, _⟩
  · omega
  · exact ⟨g, cap, rfl, hb, hc, hm⟩

theorem wpList_append_row {P : Program} (w : World) {ops : Array Oper} {rest : List Oper} {o : Oper} {a : Act} {Q : Exit → Act → World → Prop} (hgd : o.guard = none) (s x : Operand) (t : TypeId)
    (ho : o.op = Op.call { callee := Callee.builtin Builtin.append, args := #[s, x], argTypes := #[t, t] }) (e : TypeId) (i : TypeInfo) (z : Value) (size bytes : Nat)
    (ht : P.underlying t = some (TypeDesc.slice e)) (hi : P.info? e = some i) (hz : i.zero = some z) (hsize : i.size = size) (hby : i.bytes = bytes) (hzs : z.cells.size = size) (hsz : 0 < size)
    (v : Value) (n : Nat) (xs : List Value) (hs : a.eval s = v) (hown : w.ownsRow 0 e size v n xs) (ad : Addr) (m c : Nat) (news : List Value) (hx : a.eval x = Value.slice (some ad) m c) (hl : news.length = m * size)
    (hnews : ∀ (j : Nat) (u : Value), news[j]? = some u → w.cell? (ad.add j) = some u) (h1 : ∀ (u : Value), u ∈ news → u.oneCell' = true) (h63 : n + m ≤ maxLen) (hbytes : (n + m) * bytes ≤ 140737488355328) (hm : 0 < m)
    (h : ∀ (g' cap' : Nat) (w' : World), w'.ownsRow 0 e size (.slice (some ⟨g', 0, none⟩) (n + m) cap') (n + m) (xs ++ news) → w.grownBy w' v.ownBlock → (v.ownBlock = some g' ∨ w.heap.size ≤ g') → n + m ≤ cap' → cap' ≤ maxLen →
      wpList P ops Q rest (a.put o.dst (.slice (some ⟨g', 0, none⟩) (n + m) cap')) w') : wpList P ops Q (o :: rest) a w := by
  have hownc := hown
  rcases hown.2 with ⟨rfl, rfl⟩ | ⟨g, cap, cur, rfl, hb, hg, hc, hmx, hcs, htk⟩
  · have hxs : xs = [] := List.eq_nil_of_length_eq_zero (by have := hown.1; omega)
    subst hxs
    refine wpList_append_grows w hgd s x t ho e i z size bytes ht hi hz hsize hby hzs hsz none 0 0 [] hs (fun _ => ⟨rfl, rfl⟩) (by simp) (fun b hb => by cases hb) ad m c news hx hl hnews h1 (by omega) h63 hbytes ?_
    intro v' w' ho' hgr
    obtain ⟨g', cap', rfl, hb', hc', hm'⟩ := row_form ho' (by omega)
    exact h g' cap' w' (ownsRow_base ho' (fun _ _ => Nat.zero_le _)) hgr (Or.inr hb') hc' hm'
  · by_cases hroom : n + m ≤ cap
    · refine wpList_append_fits w hgd s x t ho 0 e i size ht hi hsize g n cap xs hs hownc ad m c news hx hl hnews h1 hroom ?_
      intro w' ho' hgr
      exact h g cap w' ho' hgr (Or.inl rfl) hroom hmx
    · refine wpList_append_grows w hgd s x t ho e i z size bytes ht hi hz hsize hby hzs hsz (some ⟨g, 0, none⟩) n cap xs hs (fun hh => by cases hh) hown.1 ?_ ad m c news hx hl hnews h1 (by omega) h63 hbytes ?_
      · intro b hb j u hu
        simp only [Option.some.injEq] at hb
        subst hb
        exact hownc.cells (g := g) rfl j u hu
      · intro v' w' ho' hgr
        obtain ⟨g', cap', rfl, hb', hc', hm'⟩ := row_form ho' (by omega)
        refine h g' cap' w' (ownsRow_base ho' (fun _ _ => Nat.zero_le _)) ?_ (Or.inr hb') hc' hm'
        exact ⟨hgr.os, hgr.tape, hgr.output, hgr.size, fun k hk _ => hgr.block k hk (by simp)⟩

/-- A block of seven cells. -/
theorem cell_of_seven {w : World} {b : Nat} {x0 x1 x2 x3 x4 x5 x6 : Value} {t : TypeId} (h : w.heap[b]? = some (.cells #[x0, x1, x2, x3, x4, x5, x6] t (0, 0))) :
    w.cell? ⟨b, 0, none⟩ = some x0 ∧ w.cell? ⟨b, 1, none⟩ = some x1 ∧ w.cell? ⟨b, 2, none⟩ = some x2 ∧ w.cell? ⟨b, 3, none⟩ = some x3 ∧ w.cell? ⟨b, 4, none⟩ = some x4 ∧ w.cell? ⟨b, 5, none⟩ = some x5 ∧ w.cell? ⟨b, 6, none⟩ = some x6 ∧ (∀ j, w.frozen? ⟨b, j, none⟩ = false) := by
  refine ⟨?_, ?_, ?_, ?_, ?_, ?_, ?_, fun j => ?_⟩ <;> simp [World.cell?, World.frozen?, h]
theorem seven_set {w : World} {b j : Nat} {xs : Array Value} {u : Value} {t : TypeId} (h : w.heap[b]? = some (.cells xs t (0, 0))) :
    (w.setCell ⟨b, j, none⟩ u).heap[b]? = some (.cells (xs.setIfInBounds j u) t (0, 0)) := by
  simp [World.setCell, Array.getElem?_modify, h]

/-- Bytes that can be read. -/
def SeenAt (w : World) (v : Value) (l : List Nat) : Prop :=
  ∃ ao cap, v = .slice ao l.length cap ∧ l.length ≤ 140737488355328 ∧ (l ≠ [] → ∃ b off, ao = some ⟨b, off, none⟩ ∧ ∀ j, j < l.length → w.cell? ⟨b, off + j, none⟩ = some (.int .u8 (l[j]?.getD 0 : Nat)))

theorem cell_one_new (w : World) (a : Value) (t : TypeId) (j : Nat) (u : Value) (h : [a][j]? = some u) : (w.alloc (.cells #[a] t)).cell? ((⟨w.heap.size, 0, none⟩ : Addr).add j) = some u :=
  (World.ownsRow_lit (base := 0) (e := t) (size := 1) w #[a] 1 (Nat.zero_le _) (by decide) rfl).cells rfl j u h

theorem SeenAt.kept {w w' : World} {v : Value} {l : List Nat} {S : Nat → Prop} (h : SeenAt w v l) (f : Fr S w w') (hs : ∀ k, v.ownBlock = some k → ¬ S k) : SeenAt w' v l := by
  obtain ⟨ao, cap, rfl, hl, hc⟩ := h
  refine ⟨ao, cap, rfl, hl, fun hne => ?_⟩
  obtain ⟨b, off, rfl, hcc⟩ := hc hne
  exact ⟨b, off, rfl, fun j hj => f.cellv (hcc j hj) (hs b rfl)⟩
theorem SeenAt.drewN {w : World} {v : Value} {l : List Nat} (h : SeenAt w v l) (q : Nat) : SeenAt (w.drewN q) v l := h
theorem SeenAt.of_row {w : World} {v : Value} {l : List Nat} (h : w.ownsRow 0 5 1 v l.length (byteCells l)) (hl : l.length ≤ 140737488355328) : SeenAt w v l := by
  rcases h.2 with ⟨rfl, e⟩ | ⟨g, cap, cur, rfl, _, hg, hc, hm, _, ht⟩
  · exact ⟨none, 0, by rw [e], hl, fun hn => absurd (List.eq_nil_of_length_eq_zero e) hn⟩
  · refine ⟨_, cap, rfl, hl, fun _ => ⟨g, 0, rfl, fun j hj => ?_⟩⟩
    rw [Nat.zero_add, h.cellAt j (by omega), byteCells_get, List.getElem?_eq_getElem hj]
    rfl

set_option maxRecDepth 100000 in
set_option maxHeartbeats 1000000 in
theorem eq_len (v u : Value) (la lb : List Nat) (w : World) (ha : SeenAt w v la) (hb : SeenAt w u lb) (hl : la.length ≠ lb.length) :
    Calls Tryd.prog 11 #[v, u] w fun e w' => e = .returned (.bool false) ∧ w' = w := by
  obtain ⟨ao, ca, rfl, hla, _⟩ := ha
  obtain ⟨bo, cb, rfl, hlb, _⟩ := hb
  have ht : ((la.length : Int) != (lb.length : Int)) = true := by rw [bne_iff_ne]; omega
  go_enter Tryd.func11, Tryd.ntmps11
  go_wp2
  go_ret
  exact ⟨rfl, rfl⟩

set_option maxRecDepth 100000 in
set_option maxHeartbeats 1000000 in
theorem eq_same (v u : Value) (la lb : List Nat) (w : World) (ha : SeenAt w v la) (hb : SeenAt w u lb) (hl : la.length = lb.length) (bb : Bool) (hbb : Hid (bb = decide (la = lb))) :
    Calls Tryd.prog 11 #[v, u] w fun e w' => e = .returned (.bool bb) ∧ ∃ q, w' = w.drewN q := by
  obtain ⟨ao, ca, rfl, hla, hca⟩ := ha
  obtain ⟨bo, cb, rfl, hlb, hcb⟩ := hb
  have HA : Hid (la ≠ [] → ∃ b off, ao = some ⟨b, off, none⟩ ∧ ∀ j, j < la.length → w.cell? ⟨b, off + j, none⟩ = some (.int .u8 (la[j]?.getD 0 : Nat))) := hca
  have HB : Hid (lb ≠ [] → ∃ b off, bo = some ⟨b, off, none⟩ ∧ ∀ j, j < lb.length → w.cell? ⟨b, off + j, none⟩ = some (.int .u8 (lb[j]?.getD 0 : Nat))) := hcb
  have HL : Hid (la.length = lb.length) := hl
  clear hca hcb hl hlb
  rw [← HL.out]
  obtain ⟨n, hn⟩ : ∃ n, n = la.length := ⟨_, rfl⟩
  rw [← hn] at hla ⊢
  have Hn : Hid (n = la.length) := hn
  clear hn
  have ht : ((n : Int) != (n : Int)) = false := by simp
  by_cases h0 : n = 0
  · have hbt : bb = true := by
      rw [hbb.out]
      have e1 : la = [] := List.eq_nil_of_length_eq_zero (by have := Hn.out; omega)
      have e2 : lb = [] := List.eq_nil_of_length_eq_zero (by have := Hn.out; have := HL.out; omega)
      simp [e1, e2]
    subst hbt; subst h0
    go_enter Tryd.func11, Tryd.ntmps11
    go_wp2
    refine wp_loop_rounds 1 ?_
    rw [rounds_succ]
    go_wp2
    go_ret
    exact ⟨rfl, 0, rfl⟩
  · obtain ⟨b, off, rfl, hca⟩ := HA.out (fun e => h0 (by have := Hn.out; rw [e] at this; simpa using this))
    obtain ⟨b2, off2, rfl, hcb⟩ := HB.out (fun e => h0 (by have := Hn.out; have h2 := HL.out; rw [e] at h2; simp at h2; rw [h2] at this; simpa using this))
    have KA : Hid (∀ j, j < n → w.cell? ⟨b, off + j, none⟩ = some (.int .u8 (la[j]?.getD 0 : Nat))) := fun j hj => hca j (by have := Hn.out; omega)
    have KB : Hid (∀ j, j < n → w.cell? ⟨b2, off2 + j, none⟩ = some (.int .u8 (lb[j]?.getD 0 : Nat))) := fun j hj => hcb j (by have := Hn.out; have := HL.out; omega)
    clear hca hcb HA HB
    go_enter Tryd.func11, Tryd.ntmps11
    go_wp2
    go_loopw [5] (fun i wr => ∃ (k q : Nat), k ≤ n ∧ i = .int .i64 k ∧ wr = w.drewN q ∧ Hid (la.take k = lb.take k)) (fun i _ => n - (intOf i).toNat)
    case atStart => exact ⟨0, 0, Nat.zero_le _, rfl, rfl, rfl⟩
    case round =>
      obtain ⟨k, q, hk, rfl, rfl, HT⟩ := hrel
      by_cases hlt : k < n
      · have c1 := KA.out k hlt
        have c2 := KB.out k hlt
        have HE : Hid (la[k]?.getD 0 = lb[k]?.getD 0 → la.take (k + 1) = lb.take (k + 1)) := fun he => take_succ_eq HT.out (by have := Hn.out; omega) (by have := Hn.out; have := HL.out; omega) he
        have HD : Hid (la[k]?.getD 0 ≠ lb[k]?.getD 0 → bb = false) := fun he => by
          rw [hbb.out]; simp; intro e; exact he (by rw [e])
        generalize la[k]?.getD 0 = x at *
        generalize lb[k]?.getD 0 = y at *
        by_cases hxy : x = y
        · subst hxy
          have HE2 : Hid (la.take (k + 1) = lb.take (k + 1)) := HE.out rfl
          clear HE HD
          have hne : ((x : Int) != (x : Int)) = false := by simp
          go_wp2
          go_quiet (fail)
          go_wp2
          go_roundw
          case rel => exact ⟨k + 1, _, by omega, congrArg (Value.int .i64) (by omega), rfl, HE2⟩
          case measure => simp [intOf]; omega
        · have hne : ((x : Int) != (y : Int)) = true := by rw [bne_iff_ne]; omega
          have hbf := HD.out hxy
          subst hbf
          clear HE HD
          go_wp2
          go_quiet (fail)
          go_wp2
          go_ret
          exact ⟨rfl, q + nq, World.drewN_drewN _ _ _⟩
      · have hkn : k = n := by omega
        have hbt : bb = true := by
          rw [hbb.out]
          have h1 := HT.out
          rw [List.take_of_length_le (by have := Hn.out; omega), List.take_of_length_le (by have := Hn.out; have := HL.out; omega)] at h1
          simp [h1]
        subst hbt; subst hkn
        go_wp2
        go_ret
        exact ⟨rfl, q, rfl⟩

/-- 'Eq' of any two. -/
theorem eq_any (v u : Value) (la lb : List Nat) (w : World) (ha : SeenAt w v la) (hb : SeenAt w u lb) :
    Calls Tryd.prog 11 #[v, u] w fun e w' => e = .returned (.bool (decide (la = lb))) ∧ ∃ q, w' = w.drewN q := by
  by_cases hl : la.length = lb.length
  · exact eq_same v u la lb w ha hb hl _ rfl
  · refine (eq_len v u la lb w ha hb hl).mono ?_
    rintro e w' ⟨rfl, rfl⟩
    exact ⟨by rw [decide_eq_false (fun e => hl (by rw [e]))], 0, rfl⟩

def marksY (l : List Nat) (k : Nat) : List Nat := l ++ List.replicate k 165
theorem marksY_zero (l : List Nat) : marksY l 0 = l := by simp [marksY]
theorem marksY_succ (l : List Nat) (k : Nat) : marksY l (k + 1) = marksY l k ++ [165] := by unfold marksY; rw [List.replicate_succ', List.append_assoc]
theorem length_marksY (l : List Nat) (k : Nat) : (marksY l k).length = l.length + k := by simp [marksY]

theorem byteCells_take (l : List Nat) (k : Nat) : (byteCells l).take k = byteCells (l.take k) := by simp [byteCells, List.map_take]
/-- Bytes that are lent, with marks behind them. -/
def LentY (w : World) (g : Nat) (l : List Nat) : Prop := w.ownsRow 0 5 1 (.slice (some ⟨g, 0, none⟩) (l.length + 7) (l.length + 7)) (l.length + 7) (byteCells (marksY l 7))
theorem LentY.kept {S : Nat → Prop} {w w' : World} {g : Nat} {l : List Nat} (h : LentY w g l) (f : Fr S w w') (h1 : ¬ S g) : LentY w' g l :=
  row_kept h f (fun k hk => by simp [Value.ownBlock] at hk; subst hk; exact h1)
theorem LentY.lt {w : World} {g : Nat} {l : List Nat} (h : LentY w g l) : g < w.heap.size := (World.ownsRow.lt h g rfl).2

set_option maxRecDepth 100000 in
set_option maxHeartbeats 2000000 in
theorem lendY_any (v : Value) (l : List Nat) (w : World) (hl : l.length ≤ 140737488351232) (hv : SeenAt w v l) (hnil : NilOK v) :
    Calls Tryd.prog 13 #[v] w fun e w' => ∃ g, e = .returned (.slice (some ⟨g, 0, none⟩) l.length (l.length + 7)) ∧ LentY w' g l ∧ w.heap.size ≤ g ∧ Fr (fun _ => False) w w' := by
  obtain ⟨i0, hi, hz0, hz1, hz2⟩ := info_parts Tryd.info5
  obtain ⟨ao, cap, rfl, _, hc⟩ := hv
  have HC : Hid (l ≠ [] → ∃ b off, ao = some ⟨b, off, none⟩ ∧ ∀ j, j < l.length → w.cell? ⟨b, off + j, none⟩ = some (.int .u8 (l[j]?.getD 0 : Nat))) := hc
  have HNO : Hid (ao = none → l.length = 0 ∧ cap = 0) := fun e => hnil _ _ (by rw [e])
  have HLE : Hid (∀ (u : World) (g n : Nat), n = l.length → u.ownsRow 0 5 1 (.slice (some ⟨g, 0, none⟩) (n + 7) (n + 7)) (n + 7) (byteCells (marksY l 7)) → LentY u g l) := fun u g n e h => by subst e; exact h
  clear hc hnil
  obtain ⟨n, hn⟩ : ∃ n, n = l.length := ⟨_, rfl⟩
  rw [← hn] at hl HNO ⊢
  have HN : Hid (n = l.length) := hn
  clear hn
  go_enter Tryd.func13, Tryd.ntmps13
  obtain ⟨B, hB⟩ : ∃ B, B = w.heap.size := ⟨_, rfl⟩
  rw [← hB]
  go_wp2_with (first | (at_make; refine wpList_make_own _ rfl _ _ 27 rfl B 5 i0 (.int .u8 0) 1 Tryd.underlying27 hi hz0 hz1 .i64 .i64 _ (n + 7) rfl rfl ?_ ?_ ?_ ?_ ?_))
  · omega
  · rw [hz2]; omega
  · unfold maxLen; omega
  · omega
  · intro w1 hown1 hgrow1
    have HB1 : Hid (Fr (fun _ => False) w w1) := (Fr.refl _ _).grown hgrow1 (fun k hk _ => by cases hk)
    rw [← hB] at hown1 ⊢
    have HBE : Hid (B = w.heap.size) := hB
    clear hgrow1 hB
    go_wp2_with (first | (at_builtin; refine wpList_append_fits_any _ rfl _ _ 27 rfl B 5 i0 1 Tryd.underlying27 hi hz1 B 0 (n + 7) [] rfl hown1 ao n cap (byteCells l) rfl ?_ ?_ ?_ ?_ ?_ ?_))
    · rw [length_byteCells, ← HN.out]; omega
    · intro e
      exact HNO.out e
    · intro ad e j u hu
      have hne : l ≠ [] := by intro e2; rw [e2] at hu; simp [byteCells] at hu
      obtain ⟨b, off, e3, hc⟩ := HC.out hne
      rw [e3] at e
      simp only [Option.some.injEq] at e
      subst e
      rw [byteCells_get] at hu
      have hj : j < l.length := by
        rcases Nat.lt_or_ge j l.length with h | h
        · exact h
        · rw [List.getElem?_eq_none h] at hu; simp at hu
      rw [List.getElem?_eq_getElem hj] at hu
      simp at hu
      subst hu
      rw [show (⟨b, off, none⟩ : Addr).add j = ⟨b, off + j, none⟩ from by unfold Addr.add; split <;> simp_all]
      have h1 := hc j hj
      rw [List.getElem?_eq_getElem hj] at h1
      exact HB1.out.cellv h1 (fun h => h)
    · exact byteCells_one l
    · omega
    · intro w2 hown2 hgrow2
      have HB2 : Hid (Fr (fun _ => False) w w2) := HB1.out.grown hgrow2 (fun k hk hlt => by simp at hk; have := HBE.out; omega)
      have HO2 : Hid (w2.ownsRow B 5 1 (.slice (some ⟨B, 0, none⟩) (n + 0) (n + 7)) (n + 0) (byteCells (marksY l 0))) := by
        rw [marksY_zero]
        exact hown2
      clear hown1 hown2 hgrow2
      go_wp2_with fail
      go_loopw [3, 4] (fun x i wr => ∃ k : Nat, k ≤ 7 ∧ i = .int .i64 k ∧ x = .slice (some ⟨B, 0, none⟩) (n + k) (n + 7) ∧ wr.ownsRow B 5 1 (.slice (some ⟨B, 0, none⟩) (n + k) (n + 7)) (n + k) (byteCells (marksY l k)) ∧ Fr (fun _ => False) w wr) (fun _ i _ => 7 - (intOf i).toNat)
      case atStart => exact ⟨0, by omega, rfl, by simp, HO2.out, HB2.out⟩
      case round =>
        obtain ⟨k, hk, rfl, rfl, hown, hbel⟩ := hrel
        have HO : Hid (wr.ownsRow B 5 1 (.slice (some ⟨B, 0, none⟩) (n + k) (n + 7)) (n + k) (byteCells (marksY l k))) := hown
        have HB3 : Hid (Fr (fun _ => False) w wr) := hbel
        have hs : B ≤ wr.heap.size := by have := hbel.size; have := HBE.out; omega
        clear hbel
        by_cases hlt : k < 7
        · go_wp2_with (first | (at_builtin; refine wpList_append_fits _ rfl _ _ 27 rfl B 5 i0 1 Tryd.underlying27 hi hz1 B (n + k) (n + 7) (byteCells (marksY l k)) rfl (hown.alloc _) ⟨wr.heap.size, 0, none⟩ 1 1 _ rfl rfl (cell_one_new _ _ _) ?_ ?_ ?_))
          · intro u hu; simp at hu; subst hu; rfl
          · omega
          · intro w3 hown3 hgrow3
            have HO3 : Hid (w3.ownsRow B 5 1 (.slice (some ⟨B, 0, none⟩) (n + (k + 1)) (n + 7)) (n + (k + 1)) (byteCells (marksY l (k + 1)))) := by
              rw [marksY_succ, byteCells_append, show n + (k + 1) = n + k + 1 from by omega]; exact hown3
            have HB4 : Hid (Fr (fun _ => False) w w3) := (HB3.out.alloc _).grown hgrow3 (fun k hk hlt => by simp at hk; have := HBE.out; omega)
            clear hown3 hgrow3 hown
            go_wp2_with fail
            go_roundw
            case rel => exact ⟨k + 1, by omega, congrArg (Value.int .i64) (by omega), by rw [show n + (k + 1) = n + k + 1 from by omega], HO3.out, HB4.out⟩
            case measure => simp [intOf]; omega
        · have hk7 : k = 7 := by omega
          subst hk7
          clear hown
          go_wp2_with fail
          go_ret
          exact ⟨B, rfl, HLE.out _ _ n HN.out (ownsRow_base HO.out (fun _ _ => Nat.zero_le _)), by have := HBE.out; omega, HB3.out⟩

theorem marksY_get (l : List Nat) (k : Nat) (h : k < 7) : (marksY l 7)[l.length + k]? = some 165 := by
  unfold marksY
  rw [List.getElem?_append_right (by omega), show l.length + k - l.length = k from by omega, List.getElem?_replicate, if_pos h]
theorem marksY_front (l : List Nat) : (marksY l 7).take l.length = l := by
  unfold marksY
  rw [List.take_left]

theorem LentY.seen {w : World} {g : Nat} {l : List Nat} (h : LentY w g l) (hl : l.length ≤ 140737488351232) : SeenAt w (.slice (some ⟨g, 0, none⟩) l.length (l.length + 7)) l := by
  have h1 := row_shrink (k := l.length) h (by omega)
  rw [byteCells_take, marksY_front] at h1
  exact SeenAt.of_row h1 (by omega)

set_option maxRecDepth 100000 in
set_option maxHeartbeats 2000000 in
theorem backY_any (g : Nat) (u : Value) (l : List Nat) (w : World) (hl : l.length ≤ 140737488351232) (hrow : LentY w g l) (hu : SeenAt w u l) :
    Calls Tryd.prog 16 #[.slice (some ⟨g, 0, none⟩) l.length (l.length + 7), u] w fun e w' => e = .returned (.bool true) ∧ Fr (fun k => k = g) w w' := by
  have HRW : Hid (w.ownsRow 0 5 1 (.slice (some ⟨g, 0, none⟩) (l.length + 7) (l.length + 7)) (l.length + 7) (byteCells (marksY l 7))) := hrow
  have HSU : Hid (SeenAt w u l) := hu
  have HSX : Hid (SeenAt w (.slice (some ⟨g, 0, none⟩) l.length (l.length + 7)) l) := hrow.seen hl
  obtain ⟨uo, ucap, rfl, _, _⟩ := hu
  clear hrow
  go_enter Tryd.func16, Tryd.ntmps16
  go_wp2_with fail
  refine (eq_same _ _ l l _ HSX.out HSU.out rfl true (by show true = _; simp)).mono ?_
  rintro e w1 ⟨rfl, q, hw1⟩
  have HR1 : Hid (w1.ownsRow 0 5 1 (.slice (some ⟨g, 0, none⟩) (l.length + 7) (l.length + 7)) (l.length + 7) (byteCells (marksY l 7))) := by rw [hw1]; exact row_kept HRW.out ((Fr.refl (fun _ => False) _).drewN q) (fun _ _ hh => hh)
  have HF1 : Hid (Fr (fun k => k = g) w w1) := by rw [hw1]; exact (Fr.refl _ _).drewN q
  clear hw1 HRW HSU HSX
  obtain ⟨n, hn⟩ : ∃ n, n = l.length := ⟨_, rfl⟩
  rw [← hn] at hl HR1 ⊢
  have HN : Hid (n = l.length) := hn
  clear hn
  go_wp2_with fail
  go_loop [5, 7] (fun ok i => ∃ k : Nat, k ≤ 7 ∧ ok = .bool true ∧ i = .int .i64 ((n : Int) + (k : Int))) (fun _ i => n + 7 - (intOf i).toNat)
  case atStart => exact ⟨0, by omega, rfl, by simp⟩
  case round =>
    obtain ⟨k, hk, rfl, rfl⟩ := hrel
    by_cases hlt : k < 7
    · have hcx : w1.cell? ⟨g, n + k, none⟩ = some (.int .u8 165) := by
        rw [HR1.out.cellAt (n + k) (by omega), byteCells_get, HN.out, marksY_get l k hlt]; rfl
      go_wp2_with fail
      go_round
      case rel => exact ⟨k + 1, by omega, rfl, congrArg (Value.int .i64) (by omega)⟩
      case measure => simp [intOf]; omega
    · have hk7 : k = 7 := by omega
      subst hk7
      go_wp2_with fail
      go_loopw [8] (fun i wr => ∃ (k : Nat) (ys : List Value), k ≤ n + 7 ∧ i = .int .i64 k ∧ wr.ownsRow 0 5 1 (.slice (some ⟨g, 0, none⟩) (n + 7) (n + 7)) (n + 7) ys ∧ Fr (fun k => k = g) w wr) (fun i _ => n + 7 - (intOf i).toNat)
      case atStart => exact ⟨0, _, Nat.zero_le _, rfl, HR1.out, HF1.out⟩
      case round =>
        obtain ⟨k, ys, hk, rfl, hown, hfr⟩ := hrel
        have HO2 : Hid (wr.ownsRow 0 5 1 (.slice (some ⟨g, 0, none⟩) (n + 7) (n + 7)) (n + 7) ys) := hown
        have HF2 : Hid (Fr (fun k => k = g) w wr) := hfr
        by_cases hlt : k < n + 7
        · have hcx : ∃ x, wr.cell? ⟨g, k, none⟩ = some x := by
            rw [hown.cellAt k (by omega)]
            have hl := hown.1
            exact ⟨_, List.getElem?_eq_getElem (by omega)⟩
          obtain ⟨x, hcx⟩ := hcx
          have hfx := hown.frozenAt k
          clear hown hfr
          go_wp2_with fail
          go_roundw
          case rel => exact ⟨k + 1, _, by omega, congrArg (Value.int .i64) (by omega), (HO2.out.stored k _).1, HF2.out.setCell (p := ⟨g, k, none⟩) (fun _ => rfl) _⟩
          case measure => simp [intOf]; omega
        · clear hown hfr
          go_wp2_with fail
          go_ret
          exact ⟨rfl, HF2.out⟩

end Go.Proofs.YtpfajkkjnobdlaaDoor
