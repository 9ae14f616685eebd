/- Rows of runs that are handed in; 'mayBe'. -/
import Derived.Test.YthliacfkmpijmaaOf
namespace Go.Proofs.Ythliacfkmpijmaa
open Go.RowKit

/-- Runs that a slice shows. -/
def SeenR (w : World) (v : Value) (l : List (Int × Int)) : Prop := ∃ ao cap, v = .slice ao l.length cap ∧ l.length ≤ 9223372036854775807 ∧ (l ≠ [] → ∃ b off, ao = some ⟨b, off, none⟩ ∧ ∀ j, j < l.length → w.cell? ⟨b, off + j * 2, none⟩ = some (.int .i64 (l[j]?.getD (0, 0)).1) ∧ w.cell? ⟨b, off + j * 2 + 1, none⟩ = some (.int .i64 (l[j]?.getD (0, 0)).2))
theorem SeenR.kept {w w' : World} {v : Value} {l : List (Int × Int)} (h : SeenR w v l) (f : Fr (fun _ => False) w w') : SeenR w' v l := by
  obtain ⟨ao, cap, e, hl, hc⟩ := h
  refine ⟨ao, cap, e, hl, fun hn => ?_⟩
  obtain ⟨b, off, e2, hcc⟩ := hc hn
  refine ⟨b, off, e2, fun j hj => ?_⟩
  obtain ⟨h0, h1⟩ := hcc j hj
  rw [f.cellEq (seen_lt h0) (fun h => h), f.cellEq (seen_lt h1) (fun h => h)]
  exact ⟨h0, h1⟩
/-- Rows of runs that a slice shows. -/
def SeenRR (w : World) (v : Value) (L : List (List (Int × Int))) : Prop := ∃ ao cap, v = .slice ao L.length cap ∧ L.length ≤ 9223372036854775807 ∧ (L ≠ [] → ∃ b off, ao = some ⟨b, off, none⟩ ∧ ∀ j, j < L.length → ∃ u, w.cell? ⟨b, off + j, none⟩ = some u ∧ SeenR w u (L[j]?.getD []))
theorem SeenRR.kept {w w' : World} {v : Value} {L : List (List (Int × Int))} (h : SeenRR w v L) (f : Fr (fun _ => False) w w') : SeenRR w' v L := by
  obtain ⟨ao, cap, e, hl, hc⟩ := h
  refine ⟨ao, cap, e, hl, fun hn => ?_⟩
  obtain ⟨b, off, e2, hcc⟩ := hc hn
  refine ⟨b, off, e2, fun j hj => ?_⟩
  obtain ⟨u, h0, h1⟩ := hcc j hj
  exact ⟨u, by rw [f.cellEq (seen_lt h0) (fun h => h)]; exact h0, h1.kept f⟩

/-- Whether runs rise and are apart, within 0 to W. -/
def mayFrom (W : Int) : Int → List (Int × Int) → Bool
  | _, [] => true
  | e, r :: t => decide (r.1 < r.2) && decide (e < r.1) && decide (r.2 ≤ W) && mayFrom W r.2 t
theorem drop_cons {α : Type} {l : List α} {k : Nat} (h : k < l.length) (d : α) : l.drop k = l[k]?.getD d :: l.drop (k + 1) := by
  rw [List.drop_eq_getElem_cons h, List.getElem?_eq_getElem h]; rfl

set_option maxRecDepth 100000 in
set_option maxHeartbeats 2000000 in
theorem mayBe_any (v : Value) (l : List (Int × Int)) (W : Int) (w : World) (hv : SeenR w v l) :
    Calls Try.prog 30 #[v, .int .i64 W] w fun e w' => e = .returned (.bool (mayFrom W (-1) l)) ∧ Fr (fun _ => False) w w' := by
  obtain ⟨ao, cap, rfl, hl, hc⟩ := hv
  have HC : Hid (∀ w', Fr (fun _ => False) w w' → ∀ j, j < l.length → ∃ b off, ao = some ⟨b, off, none⟩ ∧ w'.cell? ⟨b, off + j * 2, none⟩ = some (.int .i64 (l[j]?.getD (0, 0)).1) ∧ w'.cell? ⟨b, off + j * 2 + 1, none⟩ = some (.int .i64 (l[j]?.getD (0, 0)).2)) := fun w' f j hj => by
    obtain ⟨b, off, e, hcc⟩ := hc (by intro e; rw [e] at hj; simp at hj)
    obtain ⟨h0, h1⟩ := hcc j hj
    refine ⟨b, off, e, ?_, ?_⟩
    · rw [f.cellEq (seen_lt h0) (fun h => h)]; exact h0
    · rw [f.cellEq (seen_lt h1) (fun h => h)]; exact h1
  clear hc
  obtain ⟨n, hn⟩ : ∃ n, n = l.length := ⟨_, rfl⟩
  have HN : Hid (n = l.length) := hn
  rw [← hn] at hl HC ⊢
  clear hn
  go_enter Try.func30, Try.ntmps30
  go_wp2_with fail
  go_loopg [5, 7, 10] n (fun q e p i wr => ∃ (k : Nat) (E : Int), k + q = n ∧ i = .int .i64 k ∧ e = .int .i64 E ∧ Hid (mayFrom W (-1) l = mayFrom W E (l.drop k)) ∧ Fr (fun _ => False) w wr)
  case atStart => exact ⟨0, -1, by omega, rfl, rfl, rfl, Fr.refl _ _⟩
  case round =>
    obtain ⟨k, E, hkq, rfl, rfl, HM, hfr⟩ := hrel
    have HFr : Hid (Fr (fun _ => False) w wr) := hfr
    clear hfr
    by_cases hkn : k < n
    · obtain ⟨b, off, rfl, k0, k1⟩ := HC.out wr HFr.out k hkn
      have hdk : decide (k < n) = true := decide_eq_true hkn
      have HM2 : Hid (mayFrom W (-1) l = (decide ((l[k]?.getD (0, 0)).1 < (l[k]?.getD (0, 0)).2) && decide (E < (l[k]?.getD (0, 0)).1) && decide ((l[k]?.getD (0, 0)).2 ≤ W) && mayFrom W (l[k]?.getD (0, 0)).2 (l.drop (k + 1)))) := by
        show _ = _
        rw [HM.out, drop_cons (d := (0, 0)) (by have := HN.out; omega)]
        rfl
      clear HM
      generalize (l[k]?.getD (0, 0)).1 = A at *
      generalize (l[k]?.getD (0, 0)).2 = B at *
      have HFA : Hid (Fr (fun _ => False) w (wr.alloc (.cells #[.int .i64 A, .int .i64 B] 35))) := HFr.out.alloc _
      have HB : Hid (∀ w', Fr (fun _ => False) (wr.alloc (.cells #[.int .i64 A, .int .i64 B] 35)) w' → w'.cell? ⟨wr.heap.size, 0, none⟩ = some (.int .i64 A) ∧ w'.cell? ⟨wr.heap.size, 1, none⟩ = some (.int .i64 B)) := fun w' hf => by
        obtain ⟨c0, c1, _⟩ := cell_of_two ((hf.block wr.heap.size (by simp) (fun hh => hh)).trans (heap_alloc_new wr _))
        exact ⟨c0, c1⟩
      go_wp2_with fail
      refine (isEmpty_any A B _).mono ?_
      rintro e w1 ⟨rfl, hf1⟩
      have HF1 : Hid (Fr (fun _ => False) w w1) := HFA.out.trans hf1 (fun _ _ h => h)
      obtain ⟨c0, c1⟩ := HB.out _ hf1
      clear hf1 k0 k1
      by_cases hA : B ≤ A
      · have dA : decide (B ≤ A) = true := decide_eq_true hA
        have HE : Hid (mayFrom W (-1) l = false) := by
          show _ = _
          rw [HM2.out, decide_eq_false (show ¬ A < B by omega)]; rfl
        rw [dA]
        go_wp2_with fail
        go_ret
        exact ⟨HE.out ▸ rfl, HF1.out⟩
      · have dA : decide (B ≤ A) = false := decide_eq_false hA
        rw [dA]
        by_cases hE : A ≤ E
        · have dE : decide (A ≤ E) = true := decide_eq_true hE
          have HE : Hid (mayFrom W (-1) l = false) := by
            show _ = _
            rw [HM2.out, decide_eq_false (show ¬ E < A by omega), Bool.and_false]; rfl
          go_wp2_with fail
          go_ret
          exact ⟨HE.out ▸ rfl, HF1.out⟩
        · have dE : decide (A ≤ E) = false := decide_eq_false hE
          by_cases hW : W < B
          · have dW : decide (W < B) = true := decide_eq_true hW
            have HE : Hid (mayFrom W (-1) l = false) := by
              show _ = _
              rw [HM2.out, decide_eq_false (show ¬ B ≤ W by omega), Bool.and_false]; rfl
            go_wp2_with fail
            go_ret
            exact ⟨HE.out ▸ rfl, HF1.out⟩
          · have dW : decide (W < B) = false := decide_eq_false hW
            have HE : Hid (mayFrom W (-1) l = mayFrom W B (l.drop (k + 1))) := by
              show _ = _
              rw [HM2.out, decide_eq_true (show A < B by omega), decide_eq_true (show E < A by omega), decide_eq_true (show B ≤ W by omega)]; rfl
            go_wp2_with fail
            go_roundg (n - (k + 1))
            case measure => omega
            case rel => exact ⟨k + 1, B, by omega, congrArg (Value.int .i64) (by omega), rfl, HE.out, HF1.out⟩
    · have hke : k = n := by omega
      have hdk : decide (k < n) = false := decide_eq_false hkn
      have HE : Hid (mayFrom W (-1) l = true) := by
        show _ = _
        rw [HM.out, List.drop_eq_nil_of_le (by have := HN.out; omega)]
        rfl
      go_wp2_with fail
      go_ret
      exact ⟨by rw [HE.out]; rfl, HFr.out⟩

end Go.Proofs.Ythliacfkmpijmaa
