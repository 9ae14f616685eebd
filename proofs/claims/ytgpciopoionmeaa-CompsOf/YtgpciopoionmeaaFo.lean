/- The forest in memory; 'root', 'unite'. -/
import Derived.WalkKit
import Derived.WalkSpells
import Derived.WalkLawsBesides
import Derived.Deep.Cut
import Derived.WalkMore
import Derived.ScopeJumps
import Derived.Test.YtgpciopoionmeaaProg
import Derived.Test.YtgpciopoionmeaaFrame
import Derived.Test.YtgpciopoionmeaaUf
namespace Go.Proofs.Ytgpciopoionmeaa
open Go.RowKit

def intCells (n : Nat) (f : Nat → Nat) : List Value := (List.range n).map fun i => Value.int .i64 (f i : Nat)
theorem length_intCells (n : Nat) (f : Nat → Nat) : (intCells n f).length = n := by simp [intCells]
theorem intCells_get {n : Nat} (f : Nat → Nat) {i : Nat} (h : i < n) : (intCells n f)[i]? = some (Value.int .i64 (f i : Nat)) := by
  unfold intCells; rw [List.getElem?_map, List.getElem?_range h]; rfl
theorem intCells_set {n : Nat} (f : Nat → Nat) {i : Nat} (h : i < n) (v : Nat) : (intCells n f).set i (Value.int .i64 (v : Nat)) = intCells n (upd f i v) := by
  apply List.ext_getElem?
  intro k
  by_cases hk : k < n
  · rw [intCells_get _ hk]
    by_cases e : k = i
    · subst e; rw [List.getElem?_set_self (by rw [length_intCells]; exact hk), upd_self]
    · rw [List.getElem?_set_ne (fun h => e h.symm), intCells_get _ hk, upd_ne _ _ e]
  · rw [List.getElem?_eq_none (by rw [List.length_set, length_intCells]; omega), List.getElem?_eq_none (by rw [length_intCells]; omega)]
/-- The forest in memory. -/
def FoAt (w : World) (g n : Nat) (f : Nat → Nat) : Prop := w.ownsRow 0 3 1 (.slice (some ⟨g, 0, none⟩) n n) n (intCells n f)
theorem FoAt.lt {w : World} {g n : Nat} {f : Nat → Nat} (h : FoAt w g n f) : g < w.heap.size := (World.ownsRow.lt h g rfl).2
theorem FoAt.cell {w : World} {g n : Nat} {f : Nat → Nat} (h : FoAt w g n f) {i : Nat} (hi : i < n) : w.cell? ⟨g, i, none⟩ = some (.int .i64 (f i : Nat)) :=
  (World.ownsRow.cellAt h i (by omega)).trans (intCells_get f hi)
theorem FoAt.frozenAt {w : World} {g n : Nat} {f : Nat → Nat} (h : FoAt w g n f) (i : Nat) : w.frozen? ⟨g, i, none⟩ = false := World.ownsRow.frozenAt h i
theorem FoAt.put {w : World} {g n : Nat} {f : Nat → Nat} (h : FoAt w g n f) {i : Nat} (hi : i < n) (v : Nat) : FoAt (w.setCell ⟨g, i, none⟩ (.int .i64 (v : Nat))) g n (upd f i v) := by
  have := (World.ownsRow.stored h i (.int .i64 (v : Nat))).1
  rw [intCells_set f hi] at this
  exact this
theorem FoAt.kept {S : Nat → Prop} {w w' : World} {g n : Nat} {f : Nat → Nat} (h : FoAt w g n f) (k : Fr S w w') (hs : ¬ S g) : FoAt w' g n f := row_kept h k (fun i hi => by cases hi; exact hs)

def natOf : Value → Nat | .int _ q => q.toNat | _ => 0

set_option maxRecDepth 100000 in
set_option maxHeartbeats 2000000 in
theorem root_any (g n i : Nat) (f : Nat → Nat) (w : World) (hi : i < n) (hd : Dn f) (ho : FoAt w g n f) :
    Calls Try.prog 56 #[.slice (some ⟨g, 0, none⟩) n n, .int .i64 i] w fun e w' => ∃ f', e = .returned (.int .i64 (rt f i : Nat)) ∧ FoAt w' g n f' ∧ Dn f' ∧ (∀ k, rt f' k = rt f k) ∧ Fr (fun k => k = g) w w' := by
  have HO0 : Hid (FoAt w g n f) := ho
  have HD0 : Hid (Dn f) := hd
  clear ho hd
  go_enter Try.func56, Try.ntmps56
  go_wp2_with fail
  refine wp_scope_jumps 0 (fun a' wr => ∃ (q : Nat) (f' : Nat → Nat) (u5 u6 u7 u8 u9 u10 u11 u12 u13 u14 u15 u16 u17 u18 u19 u20 u21 u22 u23 u24 u25 : Value), q < n ∧ FoAt wr g n f' ∧ Dn f' ∧ (∀ k, rt f' k = rt f k) ∧ rt f q = rt f i ∧ Fr (fun k => k = g) w wr ∧ a' = { tmps := #[.slice (some ⟨g, 0, none⟩) n n, .int .i64 (q : Nat), undef, undef, .int .i64 0, u5, u6, u7, u8, u9, u10, u11, u12, u13, u14, u15, u16, u17, u18, u19, u20, u21, u22, u23, u24, u25], defers := [] }) (fun a' _ => natOf (a'.tmps.getD 1 undef)) rfl ?_ ?_
  · go_wp2_with fail
    go_step3
    have c0 := HO0.out.cell hi
    by_cases hq0 : f i = i
    · have HR : Hid (rt f i = i) := rt_self hq0
      rw [hq0] at c0
      go_wp2_with fail
      simp only [Exit.jump]
      go_ret
      exact ⟨f, by rw [HR.out]; rfl, HO0.out, HD0.out, fun _ => rfl, Fr.refl _ _⟩
    · have hq1 : f i < n := by have := HD0.out i; omega
      have c1 := HO0.out.cell hq1
      have z0 := HO0.out.frozenAt i
      have HO2 : Hid (FoAt (w.setCell ⟨g, i, none⟩ (.int .i64 (f (f i) : Nat))) g n (upd f i (f (f i)))) := HO0.out.put hi _
      have c2 : (w.setCell ⟨g, i, none⟩ (.int .i64 (f (f i) : Nat))).cell? ⟨g, i, none⟩ = some (.int .i64 (f (f i) : Nat)) := by have := HO2.out.cell hi; rwa [upd_self] at this
      have hne : ¬ ((f i : Nat) : Int) = (i : Int) := by omega
      go_wp2_with fail
      go_step3
      exact ⟨rfl, f (f i), upd f i (f (f i)), _, _, _, _, _, _, _, _, _, _, _, _, _, _, _, _, _, _, _, _, _, by have := HD0.out i; have := HD0.out (f i); omega, HO2.out, dn_half HD0.out i, rt_half HD0.out i, by rw [rt_up HD0.out, rt_up HD0.out], (Fr.refl (fun k => k = g) w).setCell (p := ⟨g, i, none⟩) (fun _ => rfl) _, rfl⟩
  · rintro a' wr ⟨q, f', u5, u6, u7, u8, u9, u10, u11, u12, u13, u14, u15, u16, u17, u18, u19, u20, u21, u22, u23, u24, u25, hq, ho, hd, hrt, hri, hfr, rfl⟩
    have HO : Hid (FoAt wr g n f') := ho
    have HD : Hid (Dn f') := hd
    have HRT : Hid (∀ k, rt f' k = rt f k) := hrt
    have HRI : Hid (rt f q = rt f i) := hri
    have HF : Hid (Fr (fun k => k = g) w wr) := hfr
    clear ho hd hrt hri hfr HO0 HD0
    have c0 := HO.out.cell hq
    by_cases hq0 : f' q = q
    · have HR : Hid (rt f q = q) := by show _ = _; rw [← HRT.out q]; exact rt_self hq0
      rw [hq0] at c0
      go_wp2_with fail
      simp only [Exit.jump]
      go_ret
      exact ⟨f', by rw [← HRI.out, HR.out]; rfl, HO.out, HD.out, HRT.out, HF.out⟩
    · have hq1 : f' q < n := by have := HD.out q; omega
      have hq2 : f' q < q := by have := HD.out q; omega
      have c1 := HO.out.cell hq1
      have z0 := HO.out.frozenAt q
      have HO2 : Hid (FoAt (wr.setCell ⟨g, q, none⟩ (.int .i64 (f' (f' q) : Nat))) g n (upd f' q (f' (f' q)))) := HO.out.put hq _
      have c2 : (wr.setCell ⟨g, q, none⟩ (.int .i64 (f' (f' q) : Nat))).cell? ⟨g, q, none⟩ = some (.int .i64 (f' (f' q) : Nat)) := by have := HO2.out.cell hq; rwa [upd_self] at this
      have hne : ¬ ((f' q : Nat) : Int) = (q : Int) := by omega
      go_wp2_with fail
      go_step3
      refine ⟨rfl, ⟨f' (f' q), upd f' q (f' (f' q)), _, _, _, _, _, _, _, _, _, _, _, _, _, _, _, _, _, _, _, _, _, by have := HD.out (f' q); omega, HO2.out, dn_half HD.out q, fun k => (rt_half HD.out q k).trans (HRT.out k), ?_, HF.out.setCell (p := ⟨g, q, none⟩) (fun _ => rfl) _, rfl⟩, ?_⟩
      · rw [← HRI.out, ← HRT.out, ← HRT.out, rt_up HD.out, rt_up HD.out]
      · have := HD.out (f' q)
        simp [natOf]
        omega

/-- Two trees become one. -/
def unF (f : Nat → Nat) (i j : Nat) : Nat → Nat := fun k => if rt f k = max (rt f i) (rt f j) then min (rt f i) (rt f j) else rt f k

set_option maxRecDepth 100000 in
set_option maxHeartbeats 2000000 in
theorem unite_any (g n i j : Nat) (f : Nat → Nat) (w : World) (hi : i < n) (hj : j < n) (hd : Dn f) (ho : FoAt w g n f) :
    Calls Try.prog 72 #[.slice (some ⟨g, 0, none⟩) n n, .int .i64 i, .int .i64 j] w fun e w' => ∃ f', e = .returned (.tuple #[]) ∧ FoAt w' g n f' ∧ Dn f' ∧ (∀ k, rt f' k = unF f i j k) ∧ Fr (fun k => k = g) w w' := by
  have HO0 : Hid (FoAt w g n f) := ho
  have HD0 : Hid (Dn f) := hd
  clear ho hd
  go_enter Try.func72, Try.ntmps72
  go_wp2_with fail
  refine (root_any g n i f w hi HD0.out HO0.out).mono ?_
  rintro e w1 ⟨f1, rfl, o1, d1, r1, k1⟩
  have HO1 : Hid (FoAt w1 g n f1) := o1
  have HD1 : Hid (Dn f1) := d1
  have HR1 : Hid (∀ k, rt f1 k = rt f k) := r1
  have HF1 : Hid (Fr (fun k => k = g) w w1) := k1
  clear o1 d1 r1 k1
  go_wp2_with fail
  refine (root_any g n j f1 w1 hj HD1.out HO1.out).mono ?_
  rintro e w2 ⟨f2, rfl, o2, d2, r2, k2⟩
  rw [HR1.out]
  have HO2 : Hid (FoAt w2 g n f2) := o2
  have HD2 : Hid (Dn f2) := d2
  have HR2 : Hid (∀ k, rt f2 k = rt f k) := fun k => (r2 k).trans (HR1.out k)
  have HF2 : Hid (Fr (fun k => k = g) w w2) := HF1.out.trans k2 (fun _ _ h => h)
  clear o2 d2 r2 k2
  have ha : rt f i < n := Nat.lt_of_le_of_lt (rt_le f i) hi
  have hb : rt f j < n := Nat.lt_of_le_of_lt (rt_le f j) hj
  have HFA : Hid (f2 (rt f i) = rt f i) := by show _ = _; rw [← HR2.out]; exact rt_fix HD2.out i
  have HFB : Hid (f2 (rt f j) = rt f j) := by show _ = _; rw [← HR2.out]; exact rt_fix HD2.out j
  have HU : Hid (∀ k, unF f i j k = if rt f2 k = max (rt f i) (rt f j) then min (rt f i) (rt f j) else rt f2 k) := fun k => by rw [HR2.out]; rfl
  generalize rt f i = A at *
  generalize rt f j = B at *
  have cA := HO2.out.cell ha
  have cB := HO2.out.cell hb
  have zA := HO2.out.frozenAt A
  have zB := HO2.out.frozenAt B
  rw [HFA.out] at cA
  rw [HFB.out] at cB
  have F1 : Hid (A ≤ B → ∃ f', FoAt (w2.setCell ⟨g, B, none⟩ (.int .i64 A)) g n f' ∧ Dn f' ∧ (∀ k, rt f' k = unF f i j k) ∧ Fr (fun k => k = g) w (w2.setCell ⟨g, B, none⟩ (.int .i64 A))) := fun h =>
    ⟨upd f2 B A, HO2.out.put hb A, dn_join HD2.out h, fun k => by rw [HU.out, Nat.max_eq_right h, Nat.min_eq_left h]; exact rt_join HD2.out h HFA.out HFB.out k, HF2.out.setCell (p := ⟨g, B, none⟩) (fun _ => rfl) _⟩
  have F2 : Hid (B ≤ A → ∃ f', FoAt (w2.setCell ⟨g, A, none⟩ (.int .i64 B)) g n f' ∧ Dn f' ∧ (∀ k, rt f' k = unF f i j k) ∧ Fr (fun k => k = g) w (w2.setCell ⟨g, A, none⟩ (.int .i64 B))) := fun h =>
    ⟨upd f2 A B, HO2.out.put ha B, dn_join HD2.out h, fun k => by rw [HU.out, Nat.max_eq_left h, Nat.min_eq_right h]; exact rt_join HD2.out h HFB.out HFA.out k, HF2.out.setCell (p := ⟨g, A, none⟩) (fun _ => rfl) _⟩
  clear HFA HFB HU
  go_wp2_with fail
  all_goals first
    | (go_end0; obtain ⟨f', a, b, c, d⟩ := F1.out (by omega); exact ⟨rfl, f', a, b, c, d⟩)
    | (go_end0; obtain ⟨f', a, b, c, d⟩ := F2.out (by omega); exact ⟨rfl, f', a, b, c, d⟩)
    | (obtain rfl : A = B := by omega
       go_end0; obtain ⟨f', a, b, c, d⟩ := F2.out (by omega); exact ⟨rfl, f', a, b, c, d⟩)

end Go.Proofs.Ytgpciopoionmeaa
