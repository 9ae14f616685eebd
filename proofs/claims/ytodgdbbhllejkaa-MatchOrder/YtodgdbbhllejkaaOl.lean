/- 'MatchOrder': the order by height, width and number, or the refusal. -/
import Derived.Test.YtodgdbbhllejkaaRp
namespace Go.Proofs.Ytodgdbbhllejkaa
open Go.RowKit

set_option maxRecDepth 100000 in
set_option maxHeartbeats 4000000 in
theorem orderLaw_any (ao : Option Addr) (n cap : Nat) (A : Nat → Bp) (w : World) (hB : BpsAt w ao n A) :
    Calls Try.prog 4 #[.slice ao n cap] w fun e w' => e = .returned (.bool true) ∧ Fr (fun _ => False) w w' := by
  have HBP : Hid (∀ w', Fr (fun _ => False) w w' → BpsAt w' ao n A) := fun w' f => hB.kept f
  have hn := hB.len
  clear hB
  go_enter Try.func4, Try.ntmps4
  go_wp2_with fail
  refine (light_any ao n cap A _ (HBP.out _ (Fr.refl _ _))).mono ?_
  rintro e w1 ⟨bb, rfl, hbb, rfl⟩
  cases bb
  · go_wp2_with fail
    refine (wakes_any _).mono ?_
    rintro e w2 ⟨rfl, hf2⟩
    have HF2 : Hid (Fr (fun _ => False) w1 w2) := hf2
    clear hf2
    go_wp2_with fail
    go_ret
    exact ⟨rfl, HF2.out⟩
  · have hn40 := hbb rfl
    have HPR : Hid (∃ (er : Int) (O : List Nat), O.length ≤ n ∧ (∀ w', Fr (fun _ => False) w1 w' → Calls Try.prog 19 #[.slice ao n cap] w' fun e w'' => ∃ v, e = .returned (.tuple #[v, .int .i64 er]) ∧ SeenI w'' v O ∧ Fr (fun _ => False) w' w'') ∧ (∀ w', Fr (fun _ => False) w1 w' → Calls Try.prog 20 #[.slice ao n cap] w' fun e w'' => ∃ v, e = .returned (.tuple #[v, .int .i64 er]) ∧ SeenI w'' v O ∧ Fr (fun _ => False) w' w'')) := by
      have hnl : ∀ w : World, SeenI w (.slice none 0 0) [] := fun w => ⟨none, 0, rfl, by decide, fun h => absurd rfl h⟩
      cases hall : allB A n
      · exact ⟨110, [], Nat.zero_le _, fun w' f => (order_bad ao n cap A w' (HBP.out w' f) hall).mono (fun e w'' h => ⟨_, h.1, hnl _, h.2⟩), fun w' f => (rorder_bad ao n cap A w' (HBP.out w' f) hall).mono (fun e w'' h => ⟨_, h.1, hnl _, h.2⟩)⟩
      · have hex : ∃ O : List Nat, O.Perm (List.range n) ∧ O.Pairwise (fun i k => ltO A k i = false) := by
          refine ⟨(List.range n).mergeSort (fun x y => !ltO A y x), List.mergeSort_perm _ _, ?_⟩
          have h1 := List.pairwise_mergeSort (le := fun x y => !ltO A y x) (fun a b c h1 h2 => by
            simp only [Bool.not_eq_true'] at *
            exact ltO_ntr h2 h1) (fun a b => by
            cases h : ltO A b a with
            | false => rfl
            | true => rw [ltO_asym h]; rfl) (List.range n)
          refine h1.imp ?_
          intro a b h
          simpa using h
        obtain ⟨O, hp, hs⟩ := hex
        have hl : O.length = n := by rw [hp.length_eq, List.length_range]
        refine ⟨0, O, by omega, fun w' f => ?_, fun w' f => ?_⟩
        · refine (order_ok ao n cap A w' (HBP.out w' f) (by omega) hall).mono ?_
          rintro e w'' ⟨v, O', he, ho, hp', hs', hf⟩
          rw [sorted_one (hp'.trans hp.symm) hs' hs] at ho
          exact ⟨v, he, SeenI.of_row ho (by omega), hf⟩
        · refine (rorder_ok ao n cap A w' (HBP.out w' f) (by omega) hall).mono ?_
          rintro e w'' ⟨v, O', he, ho, hp', hs', hf⟩
          rw [sorted_one (hp'.trans hp.symm) hs' hs] at ho
          exact ⟨v, he, SeenI.of_row ho (by omega), hf⟩
    obtain ⟨er, O, hO, h19, h20⟩ := HPR.out
    have H19 : Hid _ := h19
    have H20 : Hid _ := h20
    have hee : (er == er) = true := by simp
    clear hbb HPR h19 h20
    go_wp2_with fail
    refine Calls.mono (H19.out _ (Fr.refl _ _)) ?_
    rintro e w2 ⟨v, rfl, hs2, hf2⟩
    obtain ⟨av, cv, hv, -⟩ := id hs2
    subst hv
    have HF2 : Hid (Fr (fun _ => False) w1 w2) := hf2
    have HS2 : Hid (∀ w', Fr (fun _ => False) w2 w' → SeenI w' (.slice av O.length cv) O) := fun w' f => hs2.kept f
    clear hs2 hf2
    go_wp2_with fail
    refine Calls.mono (H20.out _ HF2.out) ?_
    rintro e w3 ⟨v, rfl, hs3, hf3⟩
    obtain ⟨bv, cv', hv, -⟩ := id hs3
    subst hv
    have HF3 : Hid (Fr (fun _ => False) w1 w3) := HF2.out.trans hf3 (fun _ _ h => h)
    have HEQ : Hid (Calls Try.prog 21 #[.slice av O.length cv, .slice bv O.length cv'] w3 fun e w' => e = .returned (.bool true) ∧ Fr (fun _ => False) w3 w') := by
      have := eqInts_any _ _ O O w3 (HS2.out w3 hf3) hs3
      rwa [decide_eq_true rfl] at this
    clear hs3 hf3
    generalize O.length = nO at *
    go_wp2_with fail
    refine Calls.mono HEQ.out ?_
    rintro e w4 ⟨rfl, hf4⟩
    have HF4 : Hid (Fr (fun _ => False) w1 w4) := HF3.out.trans hf4 (fun _ _ h => h)
    clear hf4
    go_wp2_with fail
    refine (wakes_any _).mono ?_
    rintro e w5 ⟨rfl, hf5⟩
    have HF5 : Hid (Fr (fun _ => False) w1 w5) := HF4.out.trans hf5 (fun _ _ h => h)
    clear hf5
    go_wp2_with fail
    go_ret
    exact ⟨rfl, HF5.out⟩
end Go.Proofs.Ytodgdbbhllejkaa
