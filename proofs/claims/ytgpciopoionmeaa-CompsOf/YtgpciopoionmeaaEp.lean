/- 'EqPieces' of pieces that are the same. -/
import Derived.Test.YtgpciopoionmeaaCb
import Derived.Test.YtgpciopoionmeaaLe
namespace Go.Proofs.Ytgpciopoionmeaa
open Go.RowKit

/-- The same to see. -/
def alikeR (a b : Rp) : Prop := a.X = b.X ∧ a.Y = b.Y ∧ a.x = b.x ∧ a.y = b.y ∧ a.l = b.l

set_option maxRecDepth 100000 in
set_option maxHeartbeats 4000000 in
theorem eqPieces_same (va vb : Value) (A B : List Rp) (w : World) (ha : SeenPs w va A) (hb : SeenPs w vb B) (hl : A.length = B.length) (he : ∀ (i : Nat) (h : i < A.length) (h' : i < B.length), alikeR A[i] B[i]) :
    Calls Try.prog 13 #[va, vb] w fun e w' => e = .returned (.bool true) ∧ Fr (fun _ => False) w w' := by
  have HSA : Hid (∀ w', Fr (fun _ => False) w w' → SeenPs w' va A) := fun w' f => ha.kept f
  have HSB : Hid (∀ w', Fr (fun _ => False) w w' → SeenPs w' vb B) := fun w' f => hb.kept f
  obtain ⟨aoA, cA, rfl, hlA, -, -⟩ := ha
  obtain ⟨aoB, cB, rfl, hlB, -, -⟩ := hb
  have HE : Hid (∀ (i : Nat) (h : i < A.length) (h' : i < B.length), alikeR A[i] B[i]) := he
  have HL : Hid (A.length = B.length) := hl
  clear he
  rw [← hl] at HSB hlB
  rw [← hl]
  clear hl
  go_enter Try.func13, Try.ntmps13
  go_wp2_with fail
  go_loopg [5] A.length (fun q ii wr => ∃ I : Nat, I + q = A.length ∧ ii = .int .i64 I ∧ Fr (fun _ => False) w wr)
  case atStart => exact ⟨0, by omega, rfl, Fr.refl _ _⟩
  case round =>
    obtain ⟨I, hq, rfl, hfr⟩ := hrel
    have HF : Hid (Fr (fun _ => False) w wr) := hfr
    clear hfr
    by_cases hin : I < A.length
    · have dI : decide (I < A.length) = true := decide_eq_true hin
      have hiA : I < A.length := hin
      have hiB : I < B.length := by have := HL.out; omega
      obtain ⟨ao', c', e', _, hoA, hcA⟩ := HSA.out wr HF.out
      simp only [Value.slice.injEq] at e'
      obtain ⟨rfl, -, rfl⟩ := e'
      obtain ⟨bA, oA, rfl, hcA2⟩ := hcA (fun e => by rw [e] at hiA; simp at hiA)
      obtain ⟨ao', c', e', _, hoB, hcB⟩ := HSB.out wr HF.out
      simp only [Value.slice.injEq] at e'
      obtain ⟨rfl, -, rfl⟩ := e'
      obtain ⟨bB, oB, rfl, hcB2⟩ := hcB (fun e => by rw [e] at hiB; simp at hiB)
      obtain ⟨x1, x2, x3, x4, x5⟩ := HE.out I hiA hiB
      have hrA := hoA _ (List.getElem_mem hiA)
      have hrB := hoB _ (List.getElem_mem hiB)
      have cA' := hcA2 I hiA
      have cB' := hcB2 I hiB
      rw [← x1, ← x2, ← x3, ← x4] at cB'
      have hsB := hrB.seen
      rw [← x5] at hsB
      have hsA := hrA.seen
      have eA := hsA
      have eB := hsB
      obtain ⟨aoX, cX, eX, _⟩ := eA
      obtain ⟨aoY, cY, eY, _⟩ := eB
      rw [eX] at cA' hsA
      rw [eY] at cB' hsB
      have HCL : Hid (∀ w', Fr (fun _ => False) wr w' → (w'.cell? ⟨bA, oA + I * 5, none⟩ = some (.int .i64 A[I].X) ∧ w'.cell? ⟨bA, oA + I * 5 + 1, none⟩ = some (.int .i64 A[I].Y) ∧ w'.cell? ⟨bA, oA + I * 5 + 2, none⟩ = some (.int .i64 A[I].x) ∧ w'.cell? ⟨bA, oA + I * 5 + 3, none⟩ = some (.int .i64 A[I].y) ∧ w'.cell? ⟨bA, oA + I * 5 + 4, none⟩ = some (.slice aoX A[I].l.length cX)) ∧ (w'.cell? ⟨bB, oB + I * 5, none⟩ = some (.int .i64 A[I].X) ∧ w'.cell? ⟨bB, oB + I * 5 + 1, none⟩ = some (.int .i64 A[I].Y) ∧ w'.cell? ⟨bB, oB + I * 5 + 2, none⟩ = some (.int .i64 A[I].x) ∧ w'.cell? ⟨bB, oB + I * 5 + 3, none⟩ = some (.int .i64 A[I].y) ∧ w'.cell? ⟨bB, oB + I * 5 + 4, none⟩ = some (.slice aoY A[I].l.length cY))) := fun w' f => by
        have k : ∀ {b j : Nat} {u : Value}, wr.cell? ⟨b, j, none⟩ = some u → w'.cell? ⟨b, j, none⟩ = some u := fun h => by rw [f.cellEq (seen_lt h) (fun h => h)]; exact h
        exact ⟨⟨k cA'.1, k cA'.2.1, k cA'.2.2.1, k cA'.2.2.2.1, k cA'.2.2.2.2⟩, ⟨k cB'.1, k cB'.2.1, k cB'.2.2.1, k cB'.2.2.2.1, k cB'.2.2.2.2⟩⟩
      have HEQ : Hid (∀ w', Fr (fun _ => False) wr w' → Calls Try.prog 20 #[.agg #[.int .i64 A[I].x, .int .i64 A[I].y, .slice aoX A[I].l.length cX], .agg #[.int .i64 A[I].x, .int .i64 A[I].y, .slice aoY A[I].l.length cY]] w' fun e w'' => e = .returned (.bool true) ∧ Fr (fun _ => False) w' w'') := fun w' f => eqBitmap_int _ _ _ _ _ w' (hsA.kept f) (hsB.kept f)
      clear hsA hsB hrA hrB hcA hcB hcA2 hcB2 hoA hoB eX eY x1 x2 x3 x4 x5 cA' cB'
      generalize A[I].X = aX at *
      generalize A[I].Y = aY at *
      generalize A[I].x = ax at *
      generalize A[I].y = ay at *
      generalize A[I].l.length = al at *
      go_wp2_with fail
      go_region_held3 (fun w' => (w'.cell? ⟨bA, oA + I * 5, none⟩ = some (.int .i64 aX) ∧ w'.cell? ⟨bA, oA + I * 5 + 1, none⟩ = some (.int .i64 aY) ∧ w'.cell? ⟨bA, oA + I * 5 + 2, none⟩ = some (.int .i64 ax) ∧ w'.cell? ⟨bA, oA + I * 5 + 3, none⟩ = some (.int .i64 ay) ∧ w'.cell? ⟨bA, oA + I * 5 + 4, none⟩ = some (.slice aoX al cX)) ∧ (w'.cell? ⟨bB, oB + I * 5, none⟩ = some (.int .i64 aX) ∧ w'.cell? ⟨bB, oB + I * 5 + 1, none⟩ = some (.int .i64 aY) ∧ w'.cell? ⟨bB, oB + I * 5 + 2, none⟩ = some (.int .i64 ax) ∧ w'.cell? ⟨bB, oB + I * 5 + 3, none⟩ = some (.int .i64 ay) ∧ w'.cell? ⟨bB, oB + I * 5 + 4, none⟩ = some (.slice aoY al cY))) (exact HCL.out _ (by repeat (first | with_reducible exact Fr.refl _ _ | with_reducible refine Fr.drew ?_ | with_reducible exact hf9))) (first | (go_at_call 20; refine (HEQ.out _ (Fr.refl _ _).drew).mono ?_; rintro e w9 ⟨rfl, hf9'⟩; have hf9 : Fr (fun _ => False) wr w9 := (Fr.refl _ _).drew.trans hf9' (fun _ _ h => h)))
      have HF9 : Hid (Fr (fun _ => False) w w9) := HF.out.trans hf9 (fun _ _ h => h)
      clear hf9 hf9'
      go_wp2_with fail
      go_roundg (A.length - (I + 1))
      case measure => omega
      case rel => exact ⟨I + 1, by omega, rfl, HF9.out⟩
    · have dI : decide (I < A.length) = false := decide_eq_false hin
      go_wp2_with fail
      go_ret
      exact ⟨rfl, HF.out⟩

end Go.Proofs.Ytgpciopoionmeaa
