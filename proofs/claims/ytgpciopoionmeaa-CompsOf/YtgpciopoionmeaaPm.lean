/- Pieces in memory; what the parts of the map are. -/
import Derived.Lib.SlKeysI
import Derived.Test.YtgpciopoionmeaaPo
import Derived.Test.YtgpciopoionmeaaGr
namespace Go.Proofs.Ytgpciopoionmeaa
open Go.RowKit Go.Maps

/-- A piece, the block of its words, that block's capacity. -/
abbrev PV := Pc × Nat × Nat
def cellsP (q : PV) : List Value := [.int .i64 (q.1.X : Nat), .int .i64 (q.1.Y : Nat), .int .i64 (q.1.W : Nat), .int .i64 (q.1.H : Nat), .slice (some ⟨q.2.1, 0, none⟩) (q.1.H * stride q.1.W) q.2.2]
def cellsPs (l : List PV) : List Value := l.flatMap cellsP
theorem cellsPs_append (a b : List PV) : cellsPs (a ++ b) = cellsPs a ++ cellsPs b := by simp [cellsPs]
structure OwnPs (w : World) (base : Nat) (v : Value) (L : List PV) : Prop where
  own : w.ownsRow base 34 5 v L.length (cellsPs L)
  at_ : ∀ q ∈ L, RowAt w q.2.1 q.2.2 q.1.W q.1.H q.1.Q ∧ base ≤ q.2.1
  sep : L.Pairwise fun p q => p.2.1 ≠ q.2.1

section
variable {W H : Nat} {P : Nat → Nat → Bool}
theorem pcOf_eq {pt : List Line} {Y0 YL a0 b0 al bl : Nat} (hne : 0 < pt.length) (h0 : pt[0] = (Y0, a0, b0)) (h1 : pt[pt.length - 1] = (YL, al, bl)) :
    pcOf pt = ⟨fmL a0 pt, Y0, tmL b0 pt - fmL a0 pt, YL + 1 - Y0, fun x y => onL pt (fmL a0 pt + x) (Y0 + y)⟩ := by
  have e0 : pt.headD (0, 0, 0) = (Y0, a0, b0) := by
    cases pt with
    | nil => simp at hne
    | cons x t => simpa using h0
  have e1 : pt.getLastD (0, 0, 0) = (YL, al, bl) := by
    have : pt ≠ [] := fun e => by rw [e] at hne; simp at hne
    rw [List.getLastD_eq_getLast?, List.getLast?_eq_some_getLast this, List.getLast_eq_getElem]
    exact h1
  unfold pcOf
  simp only [e0, e1]
theorem inside {r : Nat} {p : Pc} (h : IsPc (Bk W H P) (rep (rowsF W P) H r) p) : p.X + p.W ≤ W ∧ p.Y + p.H ≤ H := by
  obtain ⟨q, hq, e⟩ := h.r
  obtain ⟨q', hq', e'⟩ := h.b
  have := hq.right.1
  have := hq'.right.2.1
  omega
theorem Grown.part_ok {f : Nat → Nat} (g : Grown W H P f) (hW : 1 ≤ W) (hWH : W * H ≤ 1048576) {r : Nat} (hr : rt f r = r) (hn : r < offL (rowsF W P) H) (pt : List Line) (hpt : pt = partTo (ln (rowsF W P) H) (rt f) (offL (rowsF W P) H) r) :
    ∃ Y0 YL a0 b0 al bl, PtOK pt Y0 YL a0 b0 al bl ∧ pcOf pt = ⟨fmL a0 pt, Y0, tmL b0 pt - fmL a0 pt, YL + 1 - Y0, fun x y => onL pt (fmL a0 pt + x) (Y0 + y)⟩ := by
  obtain ⟨t, ht⟩ := partTo_head (ls := ln (rowsF W P) H) hr (rt_le f) hn
  have hpc := g.piece hr hn
  have hin := inside hpc
  have hlen := partTo_len (ln (rowsF W P) H) (rt f) r (offL (rowsF W P) H)
  have hoff := offL_le W P hW H
  have hso := partTo_sorted (ls := ln (rowsF W P) H) (ρ := rt f) (r := r) (n := offL (rowsF W P) H) (fun i j a b => by have := ln_order a b; omega)
  have hmem : ∀ l, l ∈ pt ↔ ∃ i, i < offL (rowsF W P) H ∧ rt f i = r ∧ l = ln (rowsF W P) H i := fun l => by rw [hpt]; exact mem_partTo
  rw [← hpt] at ht hpc hin hlen hso
  have hne : 0 < pt.length := by rw [ht]; simp
  have e := pcOf_eq (pt := pt) (Y0 := pt[0].1) (a0 := pt[0].2.1) (b0 := pt[0].2.2) (YL := pt[pt.length - 1].1) (al := pt[pt.length - 1].2.1) (bl := pt[pt.length - 1].2.2) hne rfl rfl
  have hHW : H ≤ 1048576 := Nat.le_trans (Nat.le_mul_of_pos_left H hW) hWH
  have hWW : pt[0].2.2 ≤ 1048576 := by
    obtain ⟨i, hi, _, e⟩ := (hmem pt[0]).1 (List.getElem_mem hne)
    rw [e]
    have := ln_wf hi
    have : 1 ≤ H := by omega
    exact Nat.le_trans (ln_wf hi).2.2 (Nat.le_trans (Nat.le_mul_of_pos_right W this) hWH)
  refine ⟨pt[0].1, pt[pt.length - 1].1, pt[0].2.1, pt[0].2.2, pt[pt.length - 1].2.1, pt[pt.length - 1].2.2, ⟨hne, fun i hi => ?_, rfl, rfl, by omega, ?_, ?_⟩, e⟩
  · obtain ⟨k, hk, _, ek⟩ := (hmem pt[i]).1 (List.getElem_mem hi)
    have w := ln_wf hk
    have h1 : 1 ≤ H := by omega
    have : W ≤ 1048576 := Nat.le_trans (Nat.le_mul_of_pos_right W h1) hWH
    have hp := List.pairwise_iff_getElem.1 hso
    refine ⟨by rw [ek]; exact w.2.1, by rw [ek]; omega, ?_, ?_⟩
    · by_cases e : i = 0
      · subst e; exact Nat.le_refl _
      · exact hp 0 i hne hi (by omega)
    · by_cases e : i = pt.length - 1
      · subst e; exact Nat.le_refl _
      · exact hp i (pt.length - 1) hi (by omega) (by omega)
  · obtain ⟨k, hk, _, ek⟩ := (hmem pt[pt.length - 1]).1 (List.getElem_mem (by omega))
    have w := ln_wf hk
    rw [ek]; omega
  · rw [e] at hin
    simp only at hin
    exact Nat.le_trans (Nat.mul_le_mul (by omega) (by omega)) hWH
end

/-- The keys, sorted. -/
theorem keys_sorted {w : World} {b m : Nat} {D : DataW Value} {ρ : Nat → Nat} {n : Nat} {ks : List Nat} (hown : w.ownsMap Try.prog 3 heldR b m D) (hk : Roots ρ n ks) (hd : ∀ i, ρ (ρ i) = ρ i) (hle : ∀ i, ρ i ≤ i) (hkeys : ∀ l, has D l = true ↔ ∃ k, k < n ∧ l = kI (ρ k)) {ss : List Int} (hp : ss.Perm (intKeys D)) :
    ss.mergeSort (fun x y => decide (x ≤ y)) = ks.map (fun (r : Nat) => (r : Int)) := by
  have hcol : CollectedI D (fun _ => false) (ks.map (fun (r : Nat) => (r : Int))) := by
    refine ⟨?_, fun x => ?_⟩
    · refine List.pairwise_map.2 (hk.sorted.imp fun h => ?_)
      omega
    · rw [List.mem_map, hkeys]
      constructor
      · rintro ⟨r, hr, rfl⟩
        obtain ⟨h1, h2⟩ := (hk.mem r).1 hr
        exact ⟨⟨r, h1, by rw [h2]; rfl⟩, rfl⟩
      · rintro ⟨⟨k, h1, e⟩, _⟩
        refine ⟨ρ k, (hk.mem _).2 ⟨by have := hle k; omega, hd k⟩, ?_⟩
        unfold kI at e
        simp at e
        omega
  have hperm := hp.trans (hcol.perm hown Try.keyed Try.underlying3 (fun _ => rfl)).symm
  refine List.Perm.eq_of_pairwise (le := fun a b => decide (a ≤ b) = true) (fun a b _ _ h1 h2 => by simp only [decide_eq_true_eq] at h1 h2; omega) (List.pairwise_mergeSort (fun a b c h1 h2 => by simp only [decide_eq_true_eq] at *; omega) (fun a b => by simp only [Bool.or_eq_true, decide_eq_true_eq]; omega) ss) ?_ ((List.mergeSort_perm ss _).trans hperm)
  refine List.pairwise_map.2 (hk.sorted.imp fun h => ?_)
  simp only [decide_eq_true_eq]; omega

theorem RowAt.grown {w w' : World} {g cap W H : Nat} {P : Nat → Nat → Bool} {row : Option Nat} (h : RowAt w g cap W H P) (hg : w.grownBy w' row) (hr : row ≠ some g) : RowAt w' g cap W H P := World.ownsRow.kept h hg (Or.inr (fun e => hr e.symm))
theorem OwnPs.kept {S : Nat → Prop} {w w' : World} {base : Nat} {v : Value} {L : List PV} (h : OwnPs w base v L) (f : Fr S w w') (hs : ∀ k, base ≤ k → ¬ S k) : OwnPs w' base v L :=
  ⟨row_kept h.own f (fun k hk => hs k (h.own.lt k hk).1), fun q hq => ⟨(h.at_ q hq).1.kept f (hs _ (h.at_ q hq).2), (h.at_ q hq).2⟩, h.sep⟩
theorem OwnPs.step {w w1 w2 w3 : World} {base g2 cap2 g' cap' : Nat} {v : Value} {L : List PV} {p : Pc} (h : OwnPs w base v L) (hb : base ≤ w.heap.size) (f01 : Fr (fun _ => False) w w1) (hr : RowAt w1 g2 cap2 p.W p.H p.Q) (hg2 : w.heap.size ≤ g2) (f12 : Fr (fun _ => False) w1 w2)
    (ho3 : w3.ownsRow 0 34 5 (.slice (some ⟨g', 0, none⟩) (L.length + 1) cap') (L.length + 1) (cellsPs L ++ cellsP (p, g2, cap2))) (h23 : w2.grownBy w3 v.ownBlock) (hloc : v.ownBlock = some g' ∨ w2.heap.size ≤ g') :
    OwnPs w3 base (.slice (some ⟨g', 0, none⟩) (L.length + 1) cap') (L ++ [(p, g2, cap2)]) := by
  have s1 := f01.size
  have s2 := f12.size
  have hrow : ∀ {w' : World} {g cap W H : Nat} {Q : Nat → Nat → Bool}, w'.ownsRow base 34 5 v L.length (cellsPs L) → RowAt w' g cap W H Q → v.ownBlock ≠ some g := fun a b e => own_ne a b (by decide) e
  have hv2 : w2.ownsRow base 34 5 v L.length (cellsPs L) := row_kept (row_kept h.own f01 (fun _ _ x => x)) f12 (fun _ _ x => x)
  refine ⟨?_, fun q hq => ?_, ?_⟩
  · rw [List.length_append, cellsPs_append]
    refine ownsRow_base (by simpa [cellsPs] using ho3) (fun k hk => ?_)
    simp [Value.ownBlock] at hk
    subst hk
    rcases hloc with e | e
    · exact (h.own.lt _ e).1
    · omega
  · rcases List.mem_append.1 hq with hq | hq
    · have r2 := ((h.at_ q hq).1.kept f01 (fun x => x)).kept f12 (fun x => x)
      exact ⟨r2.grown h23 (hrow hv2 r2), (h.at_ q hq).2⟩
    · simp at hq
      subst hq
      have r2 := hr.kept f12 (fun x => x)
      exact ⟨r2.grown h23 (hrow hv2 r2), by simp only; omega⟩
  · rw [List.pairwise_append]
    refine ⟨h.sep, by simp, fun a ha b hb => ?_⟩
    simp at hb
    subst hb
    have := (h.at_ a ha).1.lt
    simp only
    omega
/-- The roots. -/
def rootsL (ρ : Nat → Nat) (n : Nat) : List Nat := (List.range n).filter fun r => ρ r == r
theorem rootsL_ok (ρ : Nat → Nat) (n : Nat) : Roots ρ n (rootsL ρ n) := by
  refine ⟨List.Pairwise.filter _ List.pairwise_lt_range, fun r => ?_⟩
  unfold rootsL
  rw [List.mem_filter, List.mem_range]
  simp
theorem rootsL_len (ρ : Nat → Nat) (n : Nat) : (rootsL ρ n).length ≤ n := by
  have := List.length_filter_le (fun r => ρ r == r) (List.range n)
  rwa [List.length_range] at this
theorem Grown.pcs {W H : Nat} {P : Nat → Nat → Bool} {f : Nat → Nat} (g : Grown W H P f) : Pcs (Bk W H P) ((rootsL (rt f) (offL (rowsF W P) H)).map (rep (rowsF W P) H)) ((rootsL (rt f) (offL (rowsF W P) H)).map fun r => pcOf (partTo (ln (rowsF W P) H) (rt f) (offL (rowsF W P) H) r)) := by
  refine Pcs.of (by simp) (fun k p q hp hq => ?_)
  rw [List.getElem?_map] at hp hq
  cases hr : (rootsL (rt f) (offL (rowsF W P) H))[k]? with
  | none => rw [hr] at hp; simp at hp
  | some r =>
    rw [hr] at hp hq
    simp at hp hq
    subst hp; subst hq
    have hm := ((rootsL_ok (rt f) (offL (rowsF W P) H)).mem r).1 (List.mem_of_getElem? hr)
    exact g.piece hm.2 hm.1

end Go.Proofs.Ytgpciopoionmeaa
