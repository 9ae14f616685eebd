/- The reference's 'Classes': what it refuses. -/
import Derived.Test.YtodgdbbhllejkaaKKd
namespace Go.Proofs.Ytodgdbbhllejkaa
open Go.RowKit

theorem rfits_any (x : Nat) (w : World) :
    Calls Try.prog 24 #[.float .f64 x] w fun e w' => e = .returned (.bool (tolB x)) ∧ w' = w := by
  go_enter Try.func24, Try.ntmps24
  go_wp2_with fail
  all_goals (go_ret; exact ⟨by show _ = Ending.returned (Value.bool (leB 0 x)); rw [← o_ge]; rfl, rfl⟩)

set_option maxRecDepth 100000 in
set_option maxHeartbeats 2000000 in
theorem rclasses_badT (ao : Option Addr) (n cap T : Nat) (w : World) (ht : tolB T = false) :
    Calls Try.prog 13 #[.slice ao n cap, .float .f64 T] w fun e w' => e = .returned (.tuple #[.agg #[.slice none 0 0, .slice none 0 0], .int .i64 102]) ∧ Fr (fun _ => False) w w' := by
  have HT : Hid (∀ w', Calls Try.prog 24 #[.float .f64 T] w' fun e w'' => e = .returned (.bool false) ∧ w'' = w') := fun w' => by
    have := rfits_any T w'
    rwa [ht] at this
  clear ht
  have HB : Hid ((w.alloc (.cells #[.slice none 0 0, .slice none 0 0] 33)).heap[w.heap.size]? = some (.cells #[.slice none 0 0, .slice none 0 0] 33 (0, 0))) := heap_alloc_new _ _
  have HF : Hid (Fr (fun _ => False) w (w.alloc (.cells #[.slice none 0 0, .slice none 0 0] 33))) := (Fr.refl _ _).alloc _
  obtain ⟨c0, c1, cf⟩ := two_cells HB.out
  have f0 := cf 0
  have f1 := cf 1
  clear cf
  go_enter Try.func13, Try.ntmps13
  go_wp2_with fail
  generalize w.alloc (.cells #[.slice none 0 0, .slice none 0 0] 33) = w0 at *
  refine (HT.out _).mono ?_
  rintro e w1 ⟨rfl, rfl⟩
  go_wp2_with fail
  refine bodyPost_ret (v := .tuple #[.agg #[.slice none 0 0, .slice none 0 0], .int .i64 102]) (by obtain ⟨m0, m1, _⟩ := two_cells (set2_cells HB.out (.slice none 0 0) (.slice none 0 0)); simp [results, Try.results13, go_sem, m0, m1]) rfl ?_
  exact ⟨rfl, (HF.out.setCell (p := ⟨w.heap.size, 0, none⟩) (fun h => absurd h (Nat.lt_irrefl _)) _).setCell (p := ⟨w.heap.size, 1, none⟩) (fun h => absurd h (Nat.lt_irrefl _)) _⟩

set_option maxRecDepth 100000 in
set_option maxHeartbeats 2000000 in
theorem rclasses_badF (ao : Option Addr) (n cap T : Nat) (A : Nat → Bp) (w : World) (hB : BpsAt w ao n A) (ht : tolB T = true) (hall : allB A n = false) :
    Calls Try.prog 13 #[.slice ao n cap, .float .f64 T] w fun e w' => e = .returned (.tuple #[.agg #[.slice none 0 0, .slice none 0 0], .int .i64 110]) ∧ Fr (fun _ => False) w w' := by
  have HT : Hid (∀ w', Calls Try.prog 24 #[.float .f64 T] w' fun e w'' => e = .returned (.bool true) ∧ w'' = w') := fun w' => by
    have := rfits_any T w'
    rwa [ht] at this
  have hn0 := hB.len
  have HBA : Hid (∀ w', Fr (fun _ => False) w w' → BpsAt w' ao n A) := fun w' f => hB.kept f
  have HC : Hid (∀ w', Fr (fun _ => False) w w' → ∀ j, j < n → Calls Try.prog 28 #[.agg #[.int .i64 (A j).x, .int .i64 (A j).y, (A j).v]] w' fun e w'' => e = .returned (.bool (okB (A j))) ∧ Fr (fun _ => False) w' w'') := fun w' f j hj => by
    have := (HBA.out w' f).ok j hj
    exact may_any _ _ _ _ w' this.hx this.hy this.hv this.hlt
  have HCE : Hid (∀ w', Fr (fun _ => False) w w' → ∀ j, j < n → ∃ b off, ao = some ⟨b, off, none⟩ ∧ w'.cell? ⟨b, off + j * 3, none⟩ = some (.int .i64 (A j).x) ∧ w'.cell? ⟨b, off + j * 3 + 1, none⟩ = some (.int .i64 (A j).y) ∧ w'.cell? ⟨b, off + j * 3 + 2, none⟩ = some (A j).v) := fun w' f j hj => by
    obtain ⟨b, off, e, hc⟩ := (HBA.out w' f).cells (by omega)
    exact ⟨b, off, e, hc j hj⟩
  have HSL : Hid (∀ j, j < n → ∃ av nv cv, (A j).v = .slice av nv cv) := fun j hj => by
    obtain ⟨av, cv, e, _⟩ := (hB.ok j hj).hv
    exact ⟨_, _, _, e⟩
  have HAL : Hid (allB A n = false) := hall
  clear hB hall ht
  have HB : Hid ((w.alloc (.cells #[.slice none 0 0, .slice none 0 0] 33)).heap[w.heap.size]? = some (.cells #[.slice none 0 0, .slice none 0 0] 33 (0, 0))) := heap_alloc_new _ _
  have HF : Hid (Fr (fun _ => False) w (w.alloc (.cells #[.slice none 0 0, .slice none 0 0] 33))) := (Fr.refl _ _).alloc _
  go_enter Try.func13, Try.ntmps13
  go_wp2_with fail
  generalize w.alloc (.cells #[.slice none 0 0, .slice none 0 0] 33) = w0 at *
  refine (HT.out _).mono ?_
  rintro e w1 ⟨rfl, rfl⟩
  go_wp2_with fail
  go_loopg [6] n (fun q k wr => ∃ (j : Nat), j + q = n ∧ k = .int .i64 (j : Int) ∧ Hid (∀ k, k < j → okB (A k) = true) ∧ Fr (fun _ => False) w1 wr)
  case atStart => exact ⟨0, by omega, rfl, fun _ h => absurd h (Nat.not_lt_zero _), Fr.refl _ _⟩
  case round =>
    obtain ⟨j, hjq, rfl, HNO, hfr⟩ := hrel
    have HFr : Hid (Fr (fun _ => False) w wr) := HF.out.trans hfr (fun _ _ h => h)
    have HF1 : Hid (Fr (fun _ => False) w1 wr) := hfr
    clear hfr
    by_cases h1 : j < n
    · have d1 : decide (j < n) = true := decide_eq_true h1
      obtain ⟨b, off, rfl, k0, k1, k2⟩ := HCE.out wr HFr.out j h1
      obtain ⟨av, nv, cv, hv⟩ := HSL.out j h1
      have HCK := HC.out wr HFr.out j h1
      rw [hv] at HCK k2
      have HCK' : Hid _ := HCK
      have HOK : Hid (okB (A j) = true → ∀ k, k < j + 1 → okB (A k) = true) := fun hb k hk => by
        by_cases e : k = j
        · subst e; exact hb
        · exact HNO.out k (by omega)
      clear HCK hv
      generalize hx : (A j).x = x at *
      generalize hy : (A j).y = y at *
      clear hx hy
      cases hbb : okB (A j)
      · rw [hbb] at HCK'
        clear hbb HOK
        go_wp2_with fail
        refine Calls.mono HCK'.out ?_
        rintro e w4 ⟨rfl, hf4⟩
        have HF4 : Hid (Fr (fun _ => False) w w4) := HFr.out.trans hf4 (fun _ _ h => h)
        have HB2 : Hid (w4.heap[w.heap.size]? = some (.cells #[.slice none 0 0, .slice none 0 0] 33 (0, 0))) := blkOld (HF1.out.trans hf4 (fun _ _ h => h)) HB.out
        clear hf4
        obtain ⟨c0, c1, cf⟩ := two_cells HB2.out
        have f0 := cf 0
        have f1 := cf 1
        clear cf k0 k1 k2
        go_wp2_with fail
        refine bodyPost_ret (v := .tuple #[.agg #[.slice none 0 0, .slice none 0 0], .int .i64 110]) (by obtain ⟨m0, m1, _⟩ := two_cells (set2_cells HB2.out (.slice none 0 0) (.slice none 0 0)); simp [results, Try.results13, go_sem, m0, m1]) rfl ?_
        exact ⟨rfl, (HF4.out.setCell (p := ⟨w.heap.size, 0, none⟩) (fun h => absurd h (Nat.lt_irrefl _)) _).setCell (p := ⟨w.heap.size, 1, none⟩) (fun h => absurd h (Nat.lt_irrefl _)) _⟩
      · rw [hbb] at HCK'
        have HOK' : Hid (∀ k, k < j + 1 → okB (A k) = true) := fun k hk => HOK.out hbb k hk
        clear hbb HOK
        go_wp2_with fail
        refine Calls.mono HCK'.out ?_
        rintro e w4 ⟨rfl, hf4⟩
        have HF4 : Hid (Fr (fun _ => False) w1 w4) := HF1.out.trans hf4 (fun _ _ h => h)
        clear hf4
        go_wp2_with fail
        go_roundg (n - (j + 1))
        case measure => omega
        case rel => exact ⟨j + 1, by omega, by go_num, HOK'.out, HF4.out⟩
    · have h2 : allB A n = true := decide_eq_true (fun k hk => HNO.out k (by omega))
      rw [HAL.out] at h2
      cases h2
end Go.Proofs.Ytodgdbbhllejkaa
