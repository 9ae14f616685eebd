/- 'BitmapEqual' by contracts. -/
import Derived.Test.YtcopbjinnegfoabWakes
import Derived.Deep.RegionHeld3
namespace Go.Proofs.Ytcopbjinnegfoab
open Go.RowKit

/-- Bitmaps that a slice shows: sizes and words. -/
structure BmAt (w : World) (ao : Option Addr) (n : Nat) (X Y : Nat → Int) (V : Nat → Value) : Prop where
  len : n ≤ 9223372036854775807
  cells : 0 < n → ∃ b off, ao = some ⟨b, off, none⟩ ∧ ∀ j, j < n → w.cell? ⟨b, off + j * 3, none⟩ = some (.int .i64 (X j)) ∧ w.cell? ⟨b, off + j * 3 + 1, none⟩ = some (.int .i64 (Y j)) ∧ w.cell? ⟨b, off + j * 3 + 2, none⟩ = some (V j)

theorem cell_lt' {w : World} {b o : Nat} {v : Value} (h : w.cell? ⟨b, o, none⟩ = some v) : b < w.heap.size := by
  unfold World.cell? at h
  rcases Nat.lt_or_ge b w.heap.size with h1 | h1
  · exact h1
  · rw [Array.getElem?_eq_none h1] at h; simp at h

set_option maxRecDepth 100000 in
set_option maxHeartbeats 16000000 in
theorem equal_law (ao : Option Addr) (n cap : Nat) (X Y : Nat → Int) (V : Nat → Value) (M : Nat → Bool) (E Q : Nat → Nat → Bool) (w : World) (ha : BmAt w ao n X Y V)
    (hQ : ∀ (w' : World) (i k : Nat), i < n → k < n → Fr (fun _ => False) w w' → Calls Try.prog 14 #[.agg #[.int .i64 (X i), .int .i64 (Y i), V i], .agg #[.int .i64 (X k), .int .i64 (Y k), V k]] w' fun e w'' => e = .returned (.bool (Q i k)) ∧ Fr (fun _ => False) w' w'')
    (hM : ∀ (w' : World) (i : Nat), i < n → Fr (fun _ => False) w w' → Calls Try.prog 5 #[.agg #[.int .i64 (X i), .int .i64 (Y i), V i]] w' fun e w'' => e = .returned (.bool (M i)) ∧ Fr (fun _ => False) w' w'')
    (hE : ∀ (w' : World) (i k : Nat), i < n → k < n → Fr (fun _ => False) w w' → Calls Try.prog 15 #[.agg #[.int .i64 (X i), .int .i64 (Y i), V i], .agg #[.int .i64 (X k), .int .i64 (Y k), V k]] w' fun e w'' => e = .returned (.bool (E i k)) ∧ Fr (fun _ => False) w' w'')
    (hqe : ∀ i k, i < n → k < n → Q i k = (M i && E i k)) (hsy : ∀ i k, i < n → k < n → Q i k = Q k i) :
    Calls Try.prog 4 #[.slice ao n cap] w fun e w' => e = .returned (.bool true) ∧ Fr (fun _ => False) w w' := by
  have HA : Hid (BmAt w ao n X Y V) := ha
  have HQ : Hid (∀ (w' : World) (i k : Nat), i < n → k < n → Fr (fun _ => False) w w' → Calls Try.prog 14 #[.agg #[.int .i64 (X i), .int .i64 (Y i), V i], .agg #[.int .i64 (X k), .int .i64 (Y k), V k]] w' fun e w'' => e = .returned (.bool (Q i k)) ∧ Fr (fun _ => False) w' w'') := hQ
  have HM : Hid (∀ (w' : World) (i : Nat), i < n → Fr (fun _ => False) w w' → Calls Try.prog 5 #[.agg #[.int .i64 (X i), .int .i64 (Y i), V i]] w' fun e w'' => e = .returned (.bool (M i)) ∧ Fr (fun _ => False) w' w'') := hM
  have HE : Hid (∀ (w' : World) (i k : Nat), i < n → k < n → Fr (fun _ => False) w w' → Calls Try.prog 15 #[.agg #[.int .i64 (X i), .int .i64 (Y i), V i], .agg #[.int .i64 (X k), .int .i64 (Y k), V k]] w' fun e w'' => e = .returned (.bool (E i k)) ∧ Fr (fun _ => False) w' w'') := hE
  have HQE : Hid (∀ i k, i < n → k < n → Q i k = (M i && E i k)) := hqe
  have HSY : Hid (∀ i k, i < n → k < n → Q i k = Q k i) := hsy
  have hn1 := ha.len
  clear ha hQ hM hE hqe hsy
  go_enter Try.func4, Try.ntmps4
  go_wp2_with fail
  go_loopw [3, 4] (fun i _ wr => ∃ j : Nat, j ≤ n ∧ j ≤ 6 ∧ i = .int .i64 j ∧ Fr (fun _ => False) w wr) (fun i _ _ => 6 - (intOf i).toNat)
  case atStart => exact ⟨0, Nat.zero_le _, Nat.zero_le _, rfl, Fr.refl _ _⟩
  case round =>
    obtain ⟨j, hj1, hj2, rfl, hfr⟩ := hrel
    have HF : Hid (Fr (fun _ => False) w wr) := hfr
    clear hfr
    by_cases hlt : j < n ∧ j < 6
    · obtain ⟨hl1, hl2⟩ := hlt
      obtain ⟨b0, off, rfl, hcell⟩ := HA.out.cells (by omega)
      have HCL : Hid (∀ i, i < n → w.cell? ⟨b0, off + i * 3, none⟩ = some (.int .i64 (X i)) ∧ w.cell? ⟨b0, off + i * 3 + 1, none⟩ = some (.int .i64 (Y i)) ∧ w.cell? ⟨b0, off + i * 3 + 2, none⟩ = some (V i)) := hcell
      clear hcell
      have hd5 : ((j : Int) < 6) := by omega
      have hd6 : decide ((j : Int) < 6) = true := decide_eq_true hd5
      have hd7 : decide (j < 6) = true := decide_eq_true hl2
      go_wp2_with fail
      go_loopw [4] (fun kk wr => ∃ k : Nat, k ≤ j + 1 ∧ kk = .int .i64 k ∧ Fr (fun _ => False) w wr) (fun kk _ => j + 1 - (intOf kk).toNat)
      case atStart => exact ⟨0, Nat.zero_le _, rfl, HF.out⟩
      case round =>
        obtain ⟨k, hk, rfl, hfq⟩ := hrel
        have HG : Hid (Fr (fun _ => False) w wr) := hfq
        clear hfq
        by_cases hkj : k ≤ j
        · have hkn : k < n := by omega
          have HK : Hid (∀ w' : World, Fr (fun _ => False) w w' → (w'.cell? ⟨b0, off + j * 3, none⟩ = some (.int .i64 (X j)) ∧ w'.cell? ⟨b0, off + j * 3 + 1, none⟩ = some (.int .i64 (Y j)) ∧ w'.cell? ⟨b0, off + j * 3 + 2, none⟩ = some (V j)) ∧ (w'.cell? ⟨b0, off + k * 3, none⟩ = some (.int .i64 (X k)) ∧ w'.cell? ⟨b0, off + k * 3 + 1, none⟩ = some (.int .i64 (Y k)) ∧ w'.cell? ⟨b0, off + k * 3 + 2, none⟩ = some (V k))) := fun w' hf => by
            obtain ⟨a1, a2, a3⟩ := HCL.out j hl1
            obtain ⟨a4, a5, a6⟩ := HCL.out k hkn
            have hb := cell_lt' a1
            refine ⟨⟨?_, ?_, ?_⟩, ?_, ?_, ?_⟩ <;> rw [hf.cell hb (fun hh => hh)] <;> assumption
          have g1 : (0 : Int) ≤ (j : Int) := by omega
          have g2 : (j : Int) < (n : Int) := by omega
          have g3 : (0 : Int) ≤ (k : Int) := by omega
          have g4 : (k : Int) < (n : Int) := by omega
          rcases hMb : M j with _ | _
          · have HQ1 : Hid (∀ w' : World, Fr (fun _ => False) w w' → Calls Try.prog 14 #[.agg #[.int .i64 (X j), .int .i64 (Y j), V j], .agg #[.int .i64 (X k), .int .i64 (Y k), V k]] w' fun e w'' => e = .returned (.bool false) ∧ Fr (fun _ => False) w' w'') := fun w' hf => by have h := HQ.out w' j k hl1 hkn hf; rw [HQE.out j k hl1 hkn, hMb, Bool.false_and] at h; exact h
            have HQ2 : Hid (∀ w' : World, Fr (fun _ => False) w w' → Calls Try.prog 14 #[.agg #[.int .i64 (X k), .int .i64 (Y k), V k], .agg #[.int .i64 (X j), .int .i64 (Y j), V j]] w' fun e w'' => e = .returned (.bool false) ∧ Fr (fun _ => False) w' w'') := fun w' hf => by have h := HQ.out w' k j hkn hl1 hf; rw [← HSY.out j k hl1 hkn, HQE.out j k hl1 hkn, hMb, Bool.false_and] at h; exact h
            have HM1 : Hid (∀ w' : World, Fr (fun _ => False) w w' → Calls Try.prog 5 #[.agg #[.int .i64 (X j), .int .i64 (Y j), V j]] w' fun e w'' => e = .returned (.bool false) ∧ Fr (fun _ => False) w' w'') := fun w' hf => by have h := HM.out w' j hl1 hf; rw [hMb] at h; exact h
            clear hMb HQ HM HE HQE HSY HA HCL HF
            generalize X j = xj at *
            generalize Y j = yj at *
            generalize V j = vj at *
            generalize X k = xk at *
            generalize Y k = yk at *
            generalize V k = vk at *
            go_wp2_with fail
            refine wp_region_noPanic ?_
            refine wp_region_held_drew (S := (fun w' => (w'.cell? ⟨b0, off + j * 3, none⟩ = some (.int .i64 xj) ∧ w'.cell? ⟨b0, off + j * 3 + 1, none⟩ = some (.int .i64 yj) ∧ w'.cell? ⟨b0, off + j * 3 + 2, none⟩ = some vj) ∧ (w'.cell? ⟨b0, off + k * 3, none⟩ = some (.int .i64 xk) ∧ w'.cell? ⟨b0, off + k * 3 + 1, none⟩ = some (.int .i64 yk) ∧ w'.cell? ⟨b0, off + k * 3 + 2, none⟩ = some vk))) (by kernel_rfl) (HK.out _ HG.out.drew) (fun hHeld => ?_)
            refine wpAnyH_take (i := 0) (oi := _) (v := ?vv0) rfl (by kernel_rfl) (by kernel_rfl) (by kernel_rfl) (fun _ _ _ h => h) (Or.inl ⟨by kernel_rfl, ?hy0⟩) (by assumption) ?_
            case hy0 => (intro w hSw; (try dsimp only at hSw); go_simp; all_goals (with_reducible rfl))
            (try simp only [Act.put, List.setIfInBounds_toArray])
            refine wpAnyH_take (i := 1) (oi := _) (v := ?vv1) rfl (by kernel_rfl) (by kernel_rfl) (by kernel_rfl) (fun _ _ _ h => h) (Or.inl ⟨by kernel_rfl, ?hy1⟩) (by assumption) ?_
            case hy1 => (intro w hSw; (try dsimp only at hSw); go_simp; all_goals (with_reducible rfl))
            (try simp only [Act.put])
            refine wpAnyH_take (i := 2) (oi := _) (v := ?vv2) rfl (by kernel_rfl) (by kernel_rfl) (by kernel_rfl) (fun _ _ _ h => h) (Or.inl ⟨by kernel_rfl, ?hy2⟩) (by assumption) ?_
            case hy2 => (intro w hSw; (try dsimp only at hSw); go_simp; all_goals (with_reducible rfl))
            (try simp only [Act.put])
            refine wpAnyH_take (i := 3) (oi := _) (v := ?vv3) rfl (by kernel_rfl) (by kernel_rfl) (by kernel_rfl) (fun _ _ _ h => h) (Or.inl ⟨by kernel_rfl, ?hy3⟩) (by assumption) ?_
            case hy3 => (intro w hSw; (try dsimp only at hSw); go_simp; all_goals (with_reducible rfl))
            (try simp only [Act.put])
            refine wpAnyH_take (i := 4) (oi := _) (v := ?vv4) rfl (by kernel_rfl) (by kernel_rfl) (by kernel_rfl) (fun _ _ _ h => h) (Or.inl ⟨by kernel_rfl, ?hy4⟩) (by assumption) ?_
            case hy4 => (intro w hSw; (try dsimp only at hSw); go_simp; all_goals (with_reducible rfl))
            (try simp only [Act.put])
            refine wpAnyH_take (i := 5) (oi := _) (v := ?vv5) rfl (by kernel_rfl) (by kernel_rfl) (by kernel_rfl) (fun _ _ _ h => h) (Or.inl ⟨by kernel_rfl, ?hy5⟩) (by assumption) ?_
            case hy5 => (intro w hSw; (try dsimp only at hSw); go_simp; all_goals (with_reducible rfl))
            (try simp only [Act.put])
            refine wpAnyH_take (i := 6) (oi := _) (v := ?vv6) rfl (by kernel_rfl) (by kernel_rfl) (by kernel_rfl) (fun _ _ _ h => h) (Or.inl ⟨by kernel_rfl, ?hy6⟩) (by assumption) ?_
            case hy6 => (intro w hSw; (try dsimp only at hSw); go_simp; all_goals (with_reducible rfl))
            (try simp only [Act.put])
            refine wpAnyH_take (i := 7) (oi := _) (v := ?vv7) rfl (by kernel_rfl) (by kernel_rfl) (by kernel_rfl) (fun _ _ _ h => h) (Or.inl ⟨by kernel_rfl, ?hy7⟩) (by assumption) ?_
            case hy7 => (intro w hSw; (try dsimp only at hSw); go_simp; all_goals (with_reducible rfl))
            (try simp only [Act.put])
            refine wpAnyH_take (i := 9) (oi := _) (v := ?vv9) rfl (by kernel_rfl) (by kernel_rfl) (by kernel_rfl) (fun _ _ _ h => h) (Or.inl ⟨by kernel_rfl, ?hy9⟩) (by assumption) ?_
            case hy9 => (intro w hSw; (try dsimp only at hSw); go_simp; all_goals (with_reducible rfl))
            (try simp only [Act.put])
            refine wpAnyH_take (i := 10) (oi := _) (v := ?vv10) rfl (by kernel_rfl) (by kernel_rfl) (by kernel_rfl) (fun _ _ _ h => h) (Or.inl ⟨by kernel_rfl, ?hy10⟩) (by assumption) ?_
            case hy10 => (intro w hSw; (try dsimp only at hSw); go_simp; all_goals (with_reducible rfl))
            (try simp only [Act.put])
            refine wpAnyH_take (i := 11) (oi := _) (v := ?vv11) rfl (by kernel_rfl) (by kernel_rfl) (by kernel_rfl) (fun _ _ _ h => h) (Or.inl ⟨by kernel_rfl, ?hy11⟩) (by assumption) ?_
            case hy11 => (intro w hSw; (try dsimp only at hSw); go_simp; all_goals (with_reducible rfl))
            (try simp only [Act.put])
            refine wpAnyH_take (i := 12) (oi := _) (v := ?vv12) rfl (by kernel_rfl) (by kernel_rfl) (by kernel_rfl) (fun _ _ _ h => h) (Or.inl ⟨by kernel_rfl, ?hy12⟩) (by assumption) ?_
            case hy12 => (intro w hSw; (try dsimp only at hSw); go_simp; all_goals (with_reducible rfl))
            (try simp only [Act.put])
            refine wpAnyH_ready (rs := [8]) (by kernel_rfl) (by simp) ?_
            refine AllReadyH.cons (o := _) rfl (fun K hK => ?_) AllReadyH.nil
            go_simp
            (go_at_call 14; refine (HQ1.out _ HG.out.drew).mono ?_; rintro e wa ⟨rfl, hfa⟩; have fa := HG.out.drew.trans hfa (fun _ _ hh => hh))
            go_wp2_with fail
            refine hK.out _ _ (HK.out _ fa) (fun hHeld => ?_)
            clear hK K
            (try simp only [Act.put, List.setIfInBounds_toArray, List.set_cons_zero, List.set_cons_succ])
            refine wpAnyH_ready (rs := [13]) (by kernel_rfl) (by simp) ?_
            refine AllReadyH.cons (o := _) rfl (fun K hK => ?_) AllReadyH.nil
            go_simp
            (go_at_call 5; refine (HM1.out _ fa).mono ?_; rintro e wm ⟨rfl, hfm⟩; have fm := fa.trans hfm (fun _ _ hh => hh))
            go_wp2_with fail
            refine hK.out _ _ (HK.out _ fm) (fun hHeld => ?_)
            clear hK K
            (try simp only [Act.put, List.setIfInBounds_toArray, List.set_cons_zero, List.set_cons_succ])
            refine wpAnyH_take (i := 14) (oi := _) (v := ?vv14) rfl (by kernel_rfl) (by kernel_rfl) (by kernel_rfl) (fun _ _ _ h => h) (Or.inl ⟨by kernel_rfl, ?hy14⟩) (by assumption) ?_
            case hy14 => (intro w hSw; (try dsimp only at hSw); go_simp; all_goals (with_reducible rfl))
            (try simp only [Act.put, List.setIfInBounds_toArray])
            refine wpAnyH_take (i := 15) (oi := _) (v := undef) rfl (by kernel_rfl) (by kernel_rfl) (by kernel_rfl) (fun _ _ _ h => h) (Or.inr ⟨by kernel_rfl, rfl⟩) (by assumption) ?_
            (try simp only [Act.put])
            refine wpAnyH_take (i := 16) (oi := _) (v := undef) rfl (by kernel_rfl) (by kernel_rfl) (by kernel_rfl) (fun _ _ _ h => h) (Or.inr ⟨by kernel_rfl, rfl⟩) (by assumption) ?_
            (try simp only [Act.put])
            refine wpAnyH_take (i := 17) (oi := _) (v := undef) rfl (by kernel_rfl) (by kernel_rfl) (by kernel_rfl) (fun _ _ _ h => h) (Or.inr ⟨by kernel_rfl, rfl⟩) (by assumption) ?_
            (try simp only [Act.put])
            refine wpAnyH_take (i := 18) (oi := _) (v := undef) rfl (by kernel_rfl) (by kernel_rfl) (by kernel_rfl) (fun _ _ _ h => h) (Or.inr ⟨by kernel_rfl, rfl⟩) (by assumption) ?_
            (try simp only [Act.put])
            refine wpAnyH_take (i := 19) (oi := _) (v := undef) rfl (by kernel_rfl) (by kernel_rfl) (by kernel_rfl) (fun _ _ _ h => h) (Or.inr ⟨by kernel_rfl, rfl⟩) (by assumption) ?_
            (try simp only [Act.put])
            refine wpAnyH_take (i := 20) (oi := _) (v := undef) rfl (by kernel_rfl) (by kernel_rfl) (by kernel_rfl) (fun _ _ _ h => h) (Or.inr ⟨by kernel_rfl, rfl⟩) (by assumption) ?_
            (try simp only [Act.put])
            refine wpAnyH_take (i := 21) (oi := _) (v := undef) rfl (by kernel_rfl) (by kernel_rfl) (by kernel_rfl) (fun _ _ _ h => h) (Or.inr ⟨by kernel_rfl, rfl⟩) (by assumption) ?_
            (try simp only [Act.put])
            refine wpAnyH_take (i := 22) (oi := _) (v := undef) rfl (by kernel_rfl) (by kernel_rfl) (by kernel_rfl) (fun _ _ _ h => h) (Or.inr ⟨by kernel_rfl, rfl⟩) (by assumption) ?_
            (try simp only [Act.put])
            refine wpAnyH_take (i := 23) (oi := _) (v := undef) rfl (by kernel_rfl) (by kernel_rfl) (by kernel_rfl) (fun _ _ _ h => h) (Or.inr ⟨by kernel_rfl, rfl⟩) (by assumption) ?_
            (try simp only [Act.put])
            refine wpAnyH_take (i := 24) (oi := _) (v := ?vv24) rfl (by kernel_rfl) (by kernel_rfl) (by kernel_rfl) (fun _ _ _ h => h) (Or.inl ⟨by kernel_rfl, ?hy24⟩) (by assumption) ?_
            case hy24 => (intro w hSw; (try dsimp only at hSw); go_simp; all_goals (with_reducible rfl))
            (try simp only [Act.put])
            refine wpAnyH_take (i := 25) (oi := _) (v := ?vv25) rfl (by kernel_rfl) (by kernel_rfl) (by kernel_rfl) (fun _ _ _ h => h) (Or.inl ⟨by kernel_rfl, ?hy25⟩) (by assumption) ?_
            case hy25 => (intro w hSw; (try dsimp only at hSw); go_simp; all_goals (with_reducible rfl))
            (try simp only [Act.put])
            refine wpAnyH_take (i := 26) (oi := _) (v := ?vv26) rfl (by kernel_rfl) (by kernel_rfl) (by kernel_rfl) (fun _ _ _ h => h) (Or.inl ⟨by kernel_rfl, ?hy26⟩) (by assumption) ?_
            case hy26 => (intro w hSw; (try dsimp only at hSw); go_simp; all_goals (with_reducible rfl))
            (try simp only [Act.put])
            refine wpAnyH_take (i := 27) (oi := _) (v := ?vv27) rfl (by kernel_rfl) (by kernel_rfl) (by kernel_rfl) (fun _ _ _ h => h) (Or.inl ⟨by kernel_rfl, ?hy27⟩) (by assumption) ?_
            case hy27 => (intro w hSw; (try dsimp only at hSw); go_simp; all_goals (with_reducible rfl))
            (try simp only [Act.put])
            refine wpAnyH_take (i := 28) (oi := _) (v := ?vv28) rfl (by kernel_rfl) (by kernel_rfl) (by kernel_rfl) (fun _ _ _ h => h) (Or.inl ⟨by kernel_rfl, ?hy28⟩) (by assumption) ?_
            case hy28 => (intro w hSw; (try dsimp only at hSw); go_simp; all_goals (with_reducible rfl))
            (try simp only [Act.put])
            refine wpAnyH_take (i := 29) (oi := _) (v := ?vv29) rfl (by kernel_rfl) (by kernel_rfl) (by kernel_rfl) (fun _ _ _ h => h) (Or.inl ⟨by kernel_rfl, ?hy29⟩) (by assumption) ?_
            case hy29 => (intro w hSw; (try dsimp only at hSw); go_simp; all_goals (with_reducible rfl))
            (try simp only [Act.put])
            refine wpAnyH_take (i := 30) (oi := _) (v := ?vv30) rfl (by kernel_rfl) (by kernel_rfl) (by kernel_rfl) (fun _ _ _ h => h) (Or.inl ⟨by kernel_rfl, ?hy30⟩) (by assumption) ?_
            case hy30 => (intro w hSw; (try dsimp only at hSw); go_simp; all_goals (with_reducible rfl))
            (try simp only [Act.put])
            refine wpAnyH_take (i := 31) (oi := _) (v := ?vv31) rfl (by kernel_rfl) (by kernel_rfl) (by kernel_rfl) (fun _ _ _ h => h) (Or.inl ⟨by kernel_rfl, ?hy31⟩) (by assumption) ?_
            case hy31 => (intro w hSw; (try dsimp only at hSw); go_simp; all_goals (with_reducible rfl))
            (try simp only [Act.put])
            refine wpAnyH_take (i := 32) (oi := _) (v := ?vv32) rfl (by kernel_rfl) (by kernel_rfl) (by kernel_rfl) (fun _ _ _ h => h) (Or.inl ⟨by kernel_rfl, ?hy32⟩) (by assumption) ?_
            case hy32 => (intro w hSw; (try dsimp only at hSw); go_simp; all_goals (with_reducible rfl))
            (try simp only [Act.put])
            refine wpAnyH_take (i := 33) (oi := _) (v := ?vv33) rfl (by kernel_rfl) (by kernel_rfl) (by kernel_rfl) (fun _ _ _ h => h) (Or.inl ⟨by kernel_rfl, ?hy33⟩) (by assumption) ?_
            case hy33 => (intro w hSw; (try dsimp only at hSw); go_simp; all_goals (with_reducible rfl))
            (try simp only [Act.put])
            refine wpAnyH_take (i := 34) (oi := _) (v := ?vv34) rfl (by kernel_rfl) (by kernel_rfl) (by kernel_rfl) (fun _ _ _ h => h) (Or.inl ⟨by kernel_rfl, ?hy34⟩) (by assumption) ?_
            case hy34 => (intro w hSw; (try dsimp only at hSw); go_simp; all_goals (with_reducible rfl))
            (try simp only [Act.put])
            refine wpAnyH_take (i := 36) (oi := _) (v := ?vv36) rfl (by kernel_rfl) (by kernel_rfl) (by kernel_rfl) (fun _ _ _ h => h) (Or.inl ⟨by kernel_rfl, ?hy36⟩) (by assumption) ?_
            case hy36 => (intro w hSw; (try dsimp only at hSw); go_simp; all_goals (with_reducible rfl))
            (try simp only [Act.put])
            refine wpAnyH_take (i := 37) (oi := _) (v := ?vv37) rfl (by kernel_rfl) (by kernel_rfl) (by kernel_rfl) (fun _ _ _ h => h) (Or.inl ⟨by kernel_rfl, ?hy37⟩) (by assumption) ?_
            case hy37 => (intro w hSw; (try dsimp only at hSw); go_simp; all_goals (with_reducible rfl))
            (try simp only [Act.put])
            refine wpAnyH_take (i := 38) (oi := _) (v := ?vv38) rfl (by kernel_rfl) (by kernel_rfl) (by kernel_rfl) (fun _ _ _ h => h) (Or.inl ⟨by kernel_rfl, ?hy38⟩) (by assumption) ?_
            case hy38 => (intro w hSw; (try dsimp only at hSw); go_simp; all_goals (with_reducible rfl))
            (try simp only [Act.put])
            refine wpAnyH_take (i := 39) (oi := _) (v := ?vv39) rfl (by kernel_rfl) (by kernel_rfl) (by kernel_rfl) (fun _ _ _ h => h) (Or.inl ⟨by kernel_rfl, ?hy39⟩) (by assumption) ?_
            case hy39 => (intro w hSw; (try dsimp only at hSw); go_simp; all_goals (with_reducible rfl))
            (try simp only [Act.put])
            refine wpAnyH_take (i := 40) (oi := _) (v := ?vv40) rfl (by kernel_rfl) (by kernel_rfl) (by kernel_rfl) (fun _ _ _ h => h) (Or.inl ⟨by kernel_rfl, ?hy40⟩) (by assumption) ?_
            case hy40 => (intro w hSw; (try dsimp only at hSw); go_simp; all_goals (with_reducible rfl))
            (try simp only [Act.put])
            refine wpAnyH_take (i := 41) (oi := _) (v := ?vv41) rfl (by kernel_rfl) (by kernel_rfl) (by kernel_rfl) (fun _ _ _ h => h) (Or.inl ⟨by kernel_rfl, ?hy41⟩) (by assumption) ?_
            case hy41 => (intro w hSw; (try dsimp only at hSw); go_simp; all_goals (with_reducible rfl))
            (try simp only [Act.put])
            refine wpAnyH_take (i := 42) (oi := _) (v := ?vv42) rfl (by kernel_rfl) (by kernel_rfl) (by kernel_rfl) (fun _ _ _ h => h) (Or.inl ⟨by kernel_rfl, ?hy42⟩) (by assumption) ?_
            case hy42 => (intro w hSw; (try dsimp only at hSw); go_simp; all_goals (with_reducible rfl))
            (try simp only [Act.put])
            refine wpAnyH_take (i := 43) (oi := _) (v := ?vv43) rfl (by kernel_rfl) (by kernel_rfl) (by kernel_rfl) (fun _ _ _ h => h) (Or.inl ⟨by kernel_rfl, ?hy43⟩) (by assumption) ?_
            case hy43 => (intro w hSw; (try dsimp only at hSw); go_simp; all_goals (with_reducible rfl))
            (try simp only [Act.put])
            refine wpAnyH_ready (rs := [35]) (by kernel_rfl) (by simp) ?_
            refine AllReadyH.cons (o := _) rfl (fun K hK => ?_) AllReadyH.nil
            go_simp
            (go_at_call 14; refine (HQ1.out _ fm).mono ?_; rintro e wb ⟨rfl, hfb⟩; have fb := fm.trans hfb (fun _ _ hh => hh))
            go_wp2_with fail
            refine hK.out _ _ (HK.out _ fb) (fun hHeld => ?_)
            clear hK K
            (try simp only [Act.put, List.setIfInBounds_toArray, List.set_cons_zero, List.set_cons_succ])
            refine wpAnyH_ready (rs := [44]) (by kernel_rfl) (by simp) ?_
            refine AllReadyH.cons (o := _) rfl (fun K hK => ?_) AllReadyH.nil
            go_simp
            (go_at_call 14; refine (HQ2.out _ fb).mono ?_; rintro e wc ⟨rfl, hfc⟩; have fc := fb.trans hfc (fun _ _ hh => hh))
            go_wp2_with fail
            refine hK.out _ _ (HK.out _ fc) (fun hHeld => ?_)
            clear hK K
            (try simp only [Act.put, List.setIfInBounds_toArray, List.set_cons_zero, List.set_cons_succ])
            refine wpAnyH_take (i := 45) (oi := _) (v := ?vv45) rfl (by kernel_rfl) (by kernel_rfl) (by kernel_rfl) (fun _ _ _ h => h) (Or.inl ⟨by kernel_rfl, ?hy45⟩) (by assumption) ?_
            case hy45 => (intro w hSw; (try dsimp only at hSw); go_simp; all_goals (with_reducible rfl))
            (try simp only [Act.put, List.setIfInBounds_toArray])
            refine wpAnyH_take (i := 46) (oi := _) (v := ?vv46) rfl (by kernel_rfl) (by kernel_rfl) (by kernel_rfl) (fun _ _ _ h => h) (Or.inl ⟨by kernel_rfl, ?hy46⟩) (by assumption) ?_
            case hy46 => (intro w hSw; (try dsimp only at hSw); go_simp; all_goals (with_reducible rfl))
            (try simp only [Act.put])
            refine wpAnyH_done (by kernel_rfl) ?_ _
            refine NoPanic.normal ?_
            have HFC : Hid (Fr (fun _ => False) w wc) := fc
            clear fc fb fm fa hfa hfb hfc hfm
            go_wp2_with fail
            go_roundw
            case rel => exact ⟨k + 1, by omega, congrArg (Value.int .i64) (by omega), HFC.out⟩
            case measure => simp [intOf]; omega

          · rcases hEb : E j k with _ | _
            · have HQ1 : Hid (∀ w' : World, Fr (fun _ => False) w w' → Calls Try.prog 14 #[.agg #[.int .i64 (X j), .int .i64 (Y j), V j], .agg #[.int .i64 (X k), .int .i64 (Y k), V k]] w' fun e w'' => e = .returned (.bool false) ∧ Fr (fun _ => False) w' w'') := fun w' hf => by have h := HQ.out w' j k hl1 hkn hf; rw [HQE.out j k hl1 hkn, hMb, hEb] at h; exact h
              have HQ2 : Hid (∀ w' : World, Fr (fun _ => False) w w' → Calls Try.prog 14 #[.agg #[.int .i64 (X k), .int .i64 (Y k), V k], .agg #[.int .i64 (X j), .int .i64 (Y j), V j]] w' fun e w'' => e = .returned (.bool false) ∧ Fr (fun _ => False) w' w'') := fun w' hf => by have h := HQ.out w' k j hkn hl1 hf; rw [← HSY.out j k hl1 hkn, HQE.out j k hl1 hkn, hMb, hEb] at h; exact h
              have HM1 : Hid (∀ w' : World, Fr (fun _ => False) w w' → Calls Try.prog 5 #[.agg #[.int .i64 (X j), .int .i64 (Y j), V j]] w' fun e w'' => e = .returned (.bool true) ∧ Fr (fun _ => False) w' w'') := fun w' hf => by have h := HM.out w' j hl1 hf; rw [hMb] at h; exact h
              have HE1 : Hid (∀ w' : World, Fr (fun _ => False) w w' → Calls Try.prog 15 #[.agg #[.int .i64 (X j), .int .i64 (Y j), V j], .agg #[.int .i64 (X k), .int .i64 (Y k), V k]] w' fun e w'' => e = .returned (.bool false) ∧ Fr (fun _ => False) w' w'') := fun w' hf => by have h := HE.out w' j k hl1 hkn hf; rw [hEb] at h; exact h
              clear hMb hEb HQ HM HE HQE HSY HA HCL HF
              generalize X j = xj at *
              generalize Y j = yj at *
              generalize V j = vj at *
              generalize X k = xk at *
              generalize Y k = yk at *
              generalize V k = vk at *
              go_wp2_with fail
              go_region_held3 (fun w' => (w'.cell? ⟨b0, off + j * 3, none⟩ = some (.int .i64 xj) ∧ w'.cell? ⟨b0, off + j * 3 + 1, none⟩ = some (.int .i64 yj) ∧ w'.cell? ⟨b0, off + j * 3 + 2, none⟩ = some vj) ∧ (w'.cell? ⟨b0, off + k * 3, none⟩ = some (.int .i64 xk) ∧ w'.cell? ⟨b0, off + k * 3 + 1, none⟩ = some (.int .i64 yk) ∧ w'.cell? ⟨b0, off + k * 3 + 2, none⟩ = some vk)) (first | exact HK.out _ fc | exact HK.out _ fb | exact HK.out _ fe | exact HK.out _ fm | exact HK.out _ fa | exact HK.out _ HG.out.drew) (first | (go_at_call 14; (have _ := fb); refine (HQ2.out _ fb).mono ?_; rintro e wc ⟨rfl, hfc⟩; have fc := fb.trans hfc (fun _ _ hh => hh)) | (go_at_call 14; (have _ := fe); refine (HQ1.out _ fe).mono ?_; rintro e wb ⟨rfl, hfb⟩; have fb := fe.trans hfb (fun _ _ hh => hh)) | (go_at_call 14; refine (HQ1.out _ HG.out.drew).mono ?_; rintro e wa ⟨rfl, hfa⟩; have fa := HG.out.drew.trans hfa (fun _ _ hh => hh)) | (go_at_call 5; refine (HM1.out _ fa).mono ?_; rintro e wm ⟨rfl, hfm⟩; have fm := fa.trans hfm (fun _ _ hh => hh)) | (go_at_call 15; refine (HE1.out _ fm).mono ?_; rintro e we ⟨rfl, hfe⟩; have fe := fm.trans hfe (fun _ _ hh => hh)))
              have HFC : Hid (Fr (fun _ => False) w wc) := fc
              clear fc fb fm fa hfa hfb hfc hfm
              go_wp2_with fail
              go_roundw
              case rel => exact ⟨k + 1, by omega, congrArg (Value.int .i64) (by omega), HFC.out⟩
              case measure => simp [intOf]; omega

            · have HQ1 : Hid (∀ w' : World, Fr (fun _ => False) w w' → Calls Try.prog 14 #[.agg #[.int .i64 (X j), .int .i64 (Y j), V j], .agg #[.int .i64 (X k), .int .i64 (Y k), V k]] w' fun e w'' => e = .returned (.bool true) ∧ Fr (fun _ => False) w' w'') := fun w' hf => by have h := HQ.out w' j k hl1 hkn hf; rw [HQE.out j k hl1 hkn, hMb, hEb] at h; exact h
              have HQ2 : Hid (∀ w' : World, Fr (fun _ => False) w w' → Calls Try.prog 14 #[.agg #[.int .i64 (X k), .int .i64 (Y k), V k], .agg #[.int .i64 (X j), .int .i64 (Y j), V j]] w' fun e w'' => e = .returned (.bool true) ∧ Fr (fun _ => False) w' w'') := fun w' hf => by have h := HQ.out w' k j hkn hl1 hf; rw [← HSY.out j k hl1 hkn, HQE.out j k hl1 hkn, hMb, hEb] at h; exact h
              have HM1 : Hid (∀ w' : World, Fr (fun _ => False) w w' → Calls Try.prog 5 #[.agg #[.int .i64 (X j), .int .i64 (Y j), V j]] w' fun e w'' => e = .returned (.bool true) ∧ Fr (fun _ => False) w' w'') := fun w' hf => by have h := HM.out w' j hl1 hf; rw [hMb] at h; exact h
              have HE1 : Hid (∀ w' : World, Fr (fun _ => False) w w' → Calls Try.prog 15 #[.agg #[.int .i64 (X j), .int .i64 (Y j), V j], .agg #[.int .i64 (X k), .int .i64 (Y k), V k]] w' fun e w'' => e = .returned (.bool true) ∧ Fr (fun _ => False) w' w'') := fun w' hf => by have h := HE.out w' j k hl1 hkn hf; rw [hEb] at h; exact h
              clear hMb hEb HQ HM HE HQE HSY HA HCL HF
              generalize X j = xj at *
              generalize Y j = yj at *
              generalize V j = vj at *
              generalize X k = xk at *
              generalize Y k = yk at *
              generalize V k = vk at *
              go_wp2_with fail
              go_region_held3 (fun w' => (w'.cell? ⟨b0, off + j * 3, none⟩ = some (.int .i64 xj) ∧ w'.cell? ⟨b0, off + j * 3 + 1, none⟩ = some (.int .i64 yj) ∧ w'.cell? ⟨b0, off + j * 3 + 2, none⟩ = some vj) ∧ (w'.cell? ⟨b0, off + k * 3, none⟩ = some (.int .i64 xk) ∧ w'.cell? ⟨b0, off + k * 3 + 1, none⟩ = some (.int .i64 yk) ∧ w'.cell? ⟨b0, off + k * 3 + 2, none⟩ = some vk)) (first | exact HK.out _ fc | exact HK.out _ fb | exact HK.out _ fe | exact HK.out _ fm | exact HK.out _ fa | exact HK.out _ HG.out.drew) (first | (go_at_call 14; (have _ := fb); refine (HQ2.out _ fb).mono ?_; rintro e wc ⟨rfl, hfc⟩; have fc := fb.trans hfc (fun _ _ hh => hh)) | (go_at_call 14; (have _ := fe); refine (HQ1.out _ fe).mono ?_; rintro e wb ⟨rfl, hfb⟩; have fb := fe.trans hfb (fun _ _ hh => hh)) | (go_at_call 14; refine (HQ1.out _ HG.out.drew).mono ?_; rintro e wa ⟨rfl, hfa⟩; have fa := HG.out.drew.trans hfa (fun _ _ hh => hh)) | (go_at_call 5; refine (HM1.out _ fa).mono ?_; rintro e wm ⟨rfl, hfm⟩; have fm := fa.trans hfm (fun _ _ hh => hh)) | (go_at_call 15; refine (HE1.out _ fm).mono ?_; rintro e we ⟨rfl, hfe⟩; have fe := fm.trans hfe (fun _ _ hh => hh)))
              have HFC : Hid (Fr (fun _ => False) w wc) := fc
              clear fc fb fm fa hfa hfb hfc hfm
              go_wp2_with fail
              go_roundw
              case rel => exact ⟨k + 1, by omega, congrArg (Value.int .i64) (by omega), HFC.out⟩
              case measure => simp [intOf]; omega

        · go_wp2_with fail
          go_roundw
          case rel => exact ⟨j + 1, by omega, by omega, congrArg (Value.int .i64) (by omega), HG.out⟩
          case measure => simp [intOf]; omega
    · go_wp2_with fail
      all_goals
        refine (wakes_any _).mono ?_
        rintro e w9 ⟨rfl, hf9⟩
        have HF9 : Hid (Fr (fun _ => False) w w9) := HF.out.trans hf9 (fun _ _ hh => hh)
        clear hf9
        go_wp2_with fail
        go_ret
        exact ⟨rfl, HF9.out⟩

end Go.Proofs.Ytcopbjinnegfoab
