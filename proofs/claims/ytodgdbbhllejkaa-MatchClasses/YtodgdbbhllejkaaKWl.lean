/- What 'wakes' asks: three pixels, two classes; two sizes, sorted. -/
import Derived.Test.YtodgdbbhllejkaaKOt
import Derived.Test.YtodgdbbhllejkaaKEi
import Derived.Test.YtodgdbbhllejkaaKWz
namespace Go.Proofs.Ytodgdbbhllejkaa
open Go.RowKit

theorem Mat.kept {S : Nat → Prop} {w w' : World} {base : Nat} {cv rv : Value} {A : Nat → Bp} {C R : List Nat} {U : Nat → Value} (h : Mat w base cv rv A C R U) (f : Fr S w w') (hs : ∀ k, base ≤ k → ¬ S k) : Mat w' base cv rv A C R U :=
  ⟨row_kept h.cls f (fun k hk => hs k (h.cls.lt k hk).1), row_kept h.reps f (fun k hk => hs k (h.reps.lt k hk).1), fun c hc => row_kept (h.words c hc) f (fun k hk => hs k ((h.words c hc).lt k hk).1), h.wsep⟩
theorem Mat.base {w : World} {base b' : Nat} {cv rv : Value} {A : Nat → Bp} {C R : List Nat} {U : Nat → Value} (h : Mat w base cv rv A C R U) (hb : b' ≤ base) : Mat w b' cv rv A C R U :=
  ⟨ownsRow_base h.cls (fun k hk => Nat.le_trans hb (h.cls.lt k hk).1), ownsRow_base h.reps (fun k hk => Nat.le_trans hb (h.reps.lt k hk).1), fun c hc => ownsRow_base (h.words c hc) (fun k hk => Nat.le_trans hb ((h.words c hc).lt k hk).1), h.wsep⟩

theorem leB_zero {n d : Nat} (hn : n ≤ 1048576) (h1 : 1 ≤ d) (hd : d ≤ 1048576) : leB (shW n d) 0 = decide (n = 0) := by
  obtain ⟨a, b, c, e⟩ := sh_sk hn h1 hd
  unfold leB
  rw [a, show isN 0 = false by decide +kernel, sk_zero]
  by_cases h : n = 0
  · rw [decide_eq_true h, decide_eq_true (by omega)]; rfl
  · have : sk (shW n d) ≠ 0 := fun h' => h (e.1 h')
    rw [decide_eq_false h, decide_eq_false (by omega)]; rfl

/-- The three bitmaps. -/
def bOne (v : Value) : Bp := ⟨1, 1, v, [9223372036854775808]⟩
def bNil (v : Value) : Bp := ⟨1, 1, v, [0]⟩
def A3 (g gW : Nat) : Nat → Bp := fun j => if j = 1 then bNil (.slice (some ⟨gW, 0, none⟩) 1 1) else bOne (.slice (some ⟨g, 0, none⟩) 1 1)
theorem a3_01 (g gW : Nat) : nrA 0 (A3 g gW) 0 1 = false := by
  show (decide ((1 : Int) = 1 ∧ (1 : Int) = 1) && leB (shW (unl 1 1 (pixOf 1 [9223372036854775808]) (pixOf 1 [0])) (1 * 1)) 0) = false
  rw [show unl 1 1 (pixOf 1 [9223372036854775808]) (pixOf 1 [0]) = 1 by decide +kernel, leB_zero (by omega) (by omega) (by omega)]; rfl
theorem a3_02 (g gW : Nat) : nrA 0 (A3 g gW) 0 2 = true := by
  show (decide ((1 : Int) = 1 ∧ (1 : Int) = 1) && leB (shW (unl 1 1 (pixOf 1 [9223372036854775808]) (pixOf 1 [9223372036854775808])) (1 * 1)) 0) = true
  rw [show unl 1 1 (pixOf 1 [9223372036854775808]) (pixOf 1 [9223372036854775808]) = 0 by decide +kernel, leB_zero (by omega) (by omega) (by omega)]; rfl
theorem a3_cl (g gW : Nat) : clR (nrA 0 (A3 g gW)) 3 = [0, 1] ∧ clC (nrA 0 (A3 g gW)) 3 = [0, 1, 0] := by
  have h01 := a3_01 g gW
  have h02 := a3_02 g gW
  generalize nrA 0 (A3 g gW) = nr at *
  have f0 : fnd nr [] 0 = none := rfl
  have r1 : clR nr 1 = [0] := clR_succ_none (i := 0) f0
  have f1 : fnd nr (clR nr 1) 1 = none := by
    rw [r1]
    show (List.range 1).find? _ = none
    rw [show List.range 1 = [0] from rfl, List.find?_cons]
    show (match nr 0 1 with | true => _ | false => _) = _
    rw [h01]; rfl
  have r2 : clR nr 2 = [0, 1] := by rw [clR_succ_none f1, r1]; rfl
  have f2 : fnd nr (clR nr 2) 2 = some 0 := by
    rw [r2]
    show (List.range 2).find? _ = _
    rw [show List.range 2 = [0, 1] from rfl, List.find?_cons]
    show (match nr 0 2 with | true => _ | false => _) = _
    rw [h02]
  have c1 : clC nr 1 = [0] := clC_succ_none (i := 0) f0
  have c2 : clC nr 2 = [0, 1] := by rw [clC_succ_none f1, c1, r1]; rfl
  exact ⟨by rw [clR_succ_some f2, r2], by rw [clC_succ_some f2, c2]; rfl⟩
theorem ok_one (v : Value) : okB (bOne v) = true := by show validB 1 1 [9223372036854775808] = true; decide +kernel
theorem ok_nil (v : Value) : okB (bNil v) = true := by show validB 1 1 [0] = true; decide +kernel
theorem lt_one : ∀ j : Nat, ([9223372036854775808] : List Nat)[j]?.getD 0 < 18446744073709551616 := fun j => by
  match j with
  | 0 => decide
  | j + 1 => simp
theorem lt_nil : ∀ j : Nat, ([0] : List Nat)[j]?.getD 0 < 18446744073709551616 := fun j => by
  match j with
  | 0 => decide
  | j + 1 => simp
theorem cap_some (g n c : Nat) (h : n ≤ c) (hc : c ≤ 100) : CapOK (.slice (some ⟨g, 0, none⟩) n c) := fun ao n' c' e => by
  cases e
  exact ⟨h, by unfold maxLen; omega⟩
theorem nil_some (g n c : Nat) : NilOK (.slice (some ⟨g, 0, none⟩) n c) := fun n' c' e => by cases e

theorem wk_classes (w : World) (kb g gW : Nat) (s0 : Seen w (.slice (some ⟨g, 0, none⟩) 1 1) [9223372036854775808]) (s1 : Seen w (.slice (some ⟨gW, 0, none⟩) 1 1) [0])
    (hb : w.heap[kb]? = some (.cells #[.int .i64 1, .int .i64 1, .slice (some ⟨g, 0, none⟩) 1 1, .int .i64 1, .int .i64 1, .slice (some ⟨gW, 0, none⟩) 1 1, .int .i64 1, .int .i64 1, .slice (some ⟨g, 0, none⟩) 1 1] 48 (0, 0))) :
    Calls Try.prog 14 #[.slice (some ⟨kb, 0, none⟩) 3 3, .float .f64 0] w fun e w' => ∃ cv rv U, e = .returned (.tuple #[.agg #[cv, rv], .int .i64 0]) ∧ Mat w' w.heap.size cv rv (A3 g gW) [0, 1, 0] [0, 1] U ∧ Fr (fun _ => False) w w' := by
  obtain ⟨e1, e2⟩ := a3_cl g gW
  have hB : BpsAt w (some ⟨kb, 0, none⟩) 3 (A3 g gW) := by
    refine ⟨by omega, fun _ => ⟨kb, 0, rfl, fun j hj => ?_⟩, fun j hj => ?_⟩
    · have hj' : j = 0 ∨ j = 1 ∨ j = 2 := by omega
      rcases hj' with rfl | rfl | rfl <;> (unfold World.cell?; simp only [hb]; exact ⟨rfl, rfl, rfl⟩)
    · have hj' : j = 0 ∨ j = 1 ∨ j = 2 := by omega
      rcases hj' with rfl | rfl | rfl
      · exact ⟨by show (-9223372036854775808 : Int) ≤ 1 ∧ (1 : Int) ≤ 9223372036854775807; omega, by show (-9223372036854775808 : Int) ≤ 1 ∧ (1 : Int) ≤ 9223372036854775807; omega, s0, cap_some _ _ _ (Nat.le_refl _) (by omega), nil_some _ _ _, lt_one⟩
      · exact ⟨by show (-9223372036854775808 : Int) ≤ 1 ∧ (1 : Int) ≤ 9223372036854775807; omega, by show (-9223372036854775808 : Int) ≤ 1 ∧ (1 : Int) ≤ 9223372036854775807; omega, s1, cap_some _ _ _ (Nat.le_refl _) (by omega), nil_some _ _ _, lt_nil⟩
      · exact ⟨by show (-9223372036854775808 : Int) ≤ 1 ∧ (1 : Int) ≤ 9223372036854775807; omega, by show (-9223372036854775808 : Int) ≤ 1 ∧ (1 : Int) ≤ 9223372036854775807; omega, s0, cap_some _ _ _ (Nat.le_refl _) (by omega), nil_some _ _ _, lt_one⟩
  have := classes_ok (some ⟨kb, 0, none⟩) 3 3 0 (A3 g gW) w hB (by omega) (by decide +kernel) (decide_eq_true (fun j hj => by
    have hj' : j = 0 ∨ j = 1 ∨ j = 2 := by omega
    rcases hj' with rfl | rfl | rfl
    · exact ok_one _
    · exact ok_nil _
    · exact ok_one _)) (by rw [e1]; decide)
  rw [e1, e2] at this
  exact this

theorem made_ints (w : World) (l : List Nat) (h : l.length ≤ 1000) : SeenI (w.alloc (.cells (intCells l).toArray 3)) (.slice (some ⟨w.heap.size, 0, none⟩) l.length l.length) l := by
  refine ⟨some ⟨w.heap.size, 0, none⟩, l.length, rfl, by omega, fun _ => ⟨w.heap.size, 0, rfl, fun j hj => ?_⟩⟩
  have hb := heap_alloc_new w (.cells (intCells l).toArray 3)
  unfold World.cell?
  simp only [Nat.zero_add, hb]
  show (intCells l).toArray[j]? = _
  rw [List.getElem?_toArray, intCells_get l hj, List.getD_eq_getElem?_getD]

def A2 (g gW : Nat) : Nat → Bp := fun j => if j = 0 then ⟨2, 1, .slice (some ⟨g, 0, none⟩) 1 1, [0]⟩ else bNil (.slice (some ⟨gW, 0, none⟩) 1 1)
theorem wk_order (w : World) (kb g gW : Nat) (s0 : Seen w (.slice (some ⟨g, 0, none⟩) 1 1) [0]) (s1 : Seen w (.slice (some ⟨gW, 0, none⟩) 1 1) [0])
    (hb : w.heap[kb]? = some (.cells #[.int .i64 2, .int .i64 1, .slice (some ⟨g, 0, none⟩) 1 1, .int .i64 1, .int .i64 1, .slice (some ⟨gW, 0, none⟩) 1 1] 48 (0, 0))) :
    Calls Try.prog 19 #[.slice (some ⟨kb, 0, none⟩) 2 2] w fun e w' => ∃ v, e = .returned (.tuple #[v, .int .i64 0]) ∧ w'.ownsRow 0 3 1 v 2 (intCells [1, 0]) ∧ Fr (fun _ => False) w w' := by
  have hB : BpsAt w (some ⟨kb, 0, none⟩) 2 (A2 g gW) := by
    refine ⟨by omega, fun _ => ⟨kb, 0, rfl, fun j hj => ?_⟩, fun j hj => ?_⟩
    · have hj' : j = 0 ∨ j = 1 := by omega
      rcases hj' with rfl | rfl <;> (unfold World.cell?; simp only [hb]; exact ⟨rfl, rfl, rfl⟩)
    · have hj' : j = 0 ∨ j = 1 := by omega
      rcases hj' with rfl | rfl
      · exact ⟨by show (-9223372036854775808 : Int) ≤ 2 ∧ (2 : Int) ≤ 9223372036854775807; omega, by show (-9223372036854775808 : Int) ≤ 1 ∧ (1 : Int) ≤ 9223372036854775807; omega, s0, cap_some _ _ _ (Nat.le_refl _) (by omega), nil_some _ _ _, lt_nil⟩
      · exact ⟨by show (-9223372036854775808 : Int) ≤ 1 ∧ (1 : Int) ≤ 9223372036854775807; omega, by show (-9223372036854775808 : Int) ≤ 1 ∧ (1 : Int) ≤ 9223372036854775807; omega, s1, cap_some _ _ _ (Nat.le_refl _) (by omega), nil_some _ _ _, lt_nil⟩
  refine (order_ok (some ⟨kb, 0, none⟩) 2 2 (A2 g gW) w hB (by omega) (decide_eq_true (fun j hj => by
    have hj' : j = 0 ∨ j = 1 := by omega
    rcases hj' with rfl | rfl
    · show validB 2 1 [0] = true; decide +kernel
    · exact ok_nil _))).mono ?_
  rintro e w' ⟨v, O, he, ho, hp, hs, hf⟩
  have hO : O = [1, 0] := by
    have hl := hp.length_eq
    match O, hl with
    | [a, b], _ =>
      have ha : a ∈ List.range 2 := hp.subset (by simp)
      have hb' : b ∈ List.range 2 := hp.subset (by simp)
      have hnd := hp.nodup_iff.2 List.nodup_range
      simp at ha hb' hnd
      have hq : ltO (A2 g gW) b a = false := by simpa using hs
      have ha' : a = 0 ∨ a = 1 := by omega
      rcases ha' with rfl | rfl
      · have : b = 1 := by omega
        subst this
        have : ltO (A2 g gW) 1 0 = true := by
          unfold ltO
          rw [decide_eq_true_eq]
          exact Or.inr ⟨rfl, Or.inl (by show (1 : Int) < 2; decide)⟩
        rw [this] at hq; cases hq
      · have : b = 0 := by omega
        subst this; rfl
  subst hO
  exact ⟨v, he, ownsRow_base ho (fun _ _ => Nat.zero_le _), hf⟩

end Go.Proofs.Ytodgdbbhllejkaa
