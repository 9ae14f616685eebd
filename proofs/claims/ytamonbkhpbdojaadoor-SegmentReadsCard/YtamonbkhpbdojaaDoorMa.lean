/- Segments' headers: the document's own 'May'. -/
import Derived.Test.YtamonbkhpbdojaaDoorSt
import Derived.BigQuiet
namespace Go.Proofs.YtamonbkhpbdojaaDoor
set_option maxRecDepth 100000
open Go.RowKit

theorem refers_any (K : Nat) (w : World) (h1 : 1 ≤ K) (h2 : K ≤ 7) : Calls Tryd.prog 30 #[.int .i64 (K : Int)] w fun e w' => e = .returned (.bool (rRef K)) ∧ w' = w := by
  rcases (by omega : K = 1 ∨ K = 2 ∨ K = 3 ∨ K = 4 ∨ K = 5 ∨ K = 6 ∨ K = 7) with rfl | rfl | rfl | rfl | rfl | rfl | rfl
  all_goals
    go_enter Tryd.func30, Tryd.ntmps30
    go_wp2_with fail
    go_ret
    exact ⟨by simp [rRef], rfl⟩
theorem paged_any (K : Nat) (w : World) (h1 : 1 ≤ K) (h2 : K ≤ 7) : Calls Tryd.prog 29 #[.int .i64 (K : Int)] w fun e w' => e = .returned (.tuple #[.int .i64 (rLo K : Int), .int .i64 (rHi K : Int)]) ∧ w' = w := by
  rcases (by omega : K = 1 ∨ K = 2 ∨ K = 3 ∨ K = 4 ∨ K = 5 ∨ K = 6 ∨ K = 7) with rfl | rfl | rfl | rfl | rfl | rfl | rfl
  all_goals
    go_enter Tryd.func29, Tryd.ntmps29
    go_wp2_with fail
    go_ret2
    exact ⟨by simp [rLo, rHi], rfl⟩

/-- The parts of what 'May' asks, as it asks them. -/
theorem chk_no1 {s : SgX} (h : s.num < 0 ∨ 32768 ≤ s.num ∨ s.kind < 1 ∨ 7 < s.kind) : chk s = false := by
  unfold chk chkA chkB
  rcases h with h | h | h | h
  · rw [decide_eq_false (by omega : ¬ 0 ≤ s.num)]; simp
  · rw [decide_eq_false (by omega : ¬ s.num ≤ 32767)]; simp
  · rw [decide_eq_false (by omega : ¬ 1 ≤ s.kind)]; simp
  · rw [decide_eq_false (by omega : ¬ s.kind ≤ 7)]; simp

set_option maxHeartbeats 4000000 in
theorem may_far (s : SgX) (vr vk vd : Value) (w : World) (h : SgAt w s vr vk vd) (hb : s.num < 0 ∨ 32768 ≤ s.num ∨ s.kind < 1 ∨ 7 < s.kind) :
    Calls Tryd.prog 11 #[sgV s vr vk vd] w fun e w' => e = .returned (.bool (chk s)) ∧ Fr (fun _ => False) w w' := by
  rw [chk_no1 hb]
  obtain ⟨ao1, c1, rfl⟩ := h.refs.slice
  obtain ⟨ao2, c2, rfl⟩ := h.keep.slice
  obtain ⟨ao3, c3, rfl⟩ := h.data.slice
  obtain ⟨N, K, P, Rs, Ks, st, D⟩ := s
  clear h
  rw [length_iCells, length_boolCells, length_byteCells] at *
  simp only [sgV] at *
  generalize Rs.length = nr at *
  generalize Ks.length = nk at *
  generalize D.length = nd at *
  have d1 : N < 0 → decide (N < 0) = true := fun h => decide_eq_true h
  by_cases h1 : N < 0
  · have e1 := d1 h1
    go_enter Tryd.func11, Tryd.ntmps11
    go_wp2_with fail
    go_ret
    exact ⟨rfl, (Fr.refl _ _).alloc _⟩
  have e1 : decide (N < 0) = false := decide_eq_false h1
  by_cases h2 : 32768 ≤ N
  · have e2 : decide ((32768 : Int) ≤ N) = true := decide_eq_true h2
    go_enter Tryd.func11, Tryd.ntmps11
    go_wp2_with fail
    go_ret
    exact ⟨rfl, (Fr.refl _ _).alloc _⟩
  have e2 : decide ((32768 : Int) ≤ N) = false := decide_eq_false h2
  by_cases h3 : K < 1
  · have e3 : decide (K < 1) = true := decide_eq_true h3
    go_enter Tryd.func11, Tryd.ntmps11
    go_wp2_with fail
    go_ret
    exact ⟨rfl, (Fr.refl _ _).alloc _⟩
  have e3 : decide (K < 1) = false := decide_eq_false h3
  have h4 : 7 < K := by omega
  have e4 : decide ((7 : Int) < K) = true := decide_eq_true h4
  go_enter Tryd.func11, Tryd.ntmps11
  go_wp2_with fail
  go_ret
  exact ⟨rfl, (Fr.refl _ _).alloc _⟩

theorem chk_no2 {s : SgX} {K : Nat} (hK : s.kind = (K : Int)) (h : s.page < (rLo K : Int) ∨ (rHi K : Int) < s.page ∨ (0 < s.refs.length ∧ rRef K = false) ∨ s.keep.length ≠ s.refs.length ∨ (s.stay = true ∧ K ≠ 2) ∨ 67108864 < s.data.length) : chk s = false := by
  unfold chk
  have e : s.kind.toNat = K := by rw [hK]; rfl
  rcases h with h | h | ⟨h, h'⟩ | h | ⟨h, h'⟩ | h
  · have : chk1 s = false := by unfold chk1; rw [e, decide_eq_false (by omega), Bool.false_and]
    simp [this]
  · have : chk1 s = false := by unfold chk1; rw [e, decide_eq_false (by omega : ¬ s.page ≤ (rHi K : Int)), Bool.and_false]
    simp [this]
  · have : chk2 s = false := by unfold chk2 mostR; rw [e, h', if_neg (by decide)]; exact decide_eq_false (by omega)
    simp [this]
  · have : chk4 s = false := by unfold chk4; rw [beq_eq_false_iff_ne]; exact h
    simp [this]
  · have : chk5 s = false := by unfold chk5 rStay; rw [e, h, decide_eq_false h']; rfl
    simp [this]
  · have : chk6 s = false := by unfold chk6; rw [e]; have := rData_le K; exact decide_eq_false (by omega)
    simp [this]

set_option maxHeartbeats 8000000 in
theorem may_mid (s : SgX) (K : Nat) (vr vk vd : Value) (w : World) (h : SgAt w s vr vk vd) (hn1 : 0 ≤ s.num) (hn2 : s.num < 32768) (hK : s.kind = (K : Int)) (hk1 : 1 ≤ K) (hk2 : K ≤ 7)
    (hb : s.page < (rLo K : Int) ∨ (rHi K : Int) < s.page ∨ (0 < s.refs.length ∧ rRef K = false) ∨ s.keep.length ≠ s.refs.length ∨ (s.stay = true ∧ K ≠ 2) ∨ 67108864 < s.data.length) :
    Calls Tryd.prog 11 #[sgV s vr vk vd] w fun e w' => e = .returned (.bool (chk s)) ∧ Fr (fun _ => False) w w' := by
  rw [chk_no2 hK hb]
  obtain ⟨ao1, c1, rfl⟩ := h.refs.slice
  obtain ⟨ao2, c2, rfl⟩ := h.keep.slice
  obtain ⟨ao3, c3, rfl⟩ := h.data.slice
  obtain ⟨N, K0, P, Rs, Ks, st, D⟩ := s
  clear h
  simp only at hK
  subst hK
  rw [length_iCells, length_boolCells, length_byteCells] at *
  simp only [sgV] at *
  generalize Rs.length = nr at *
  generalize Ks.length = nk at *
  generalize D.length = nd at *
  have e1 : decide (N < 0) = false := decide_eq_false (by omega)
  have e2 : decide ((32768 : Int) ≤ N) = false := decide_eq_false (by omega)
  have e3 : decide ((K : Int) < 1) = false := decide_eq_false (by omega)
  have e4 : decide ((7 : Int) < (K : Int)) = false := decide_eq_false (by omega)
  obtain ⟨lo, hlo⟩ : ∃ lo, rLo K = lo := ⟨_, rfl⟩
  obtain ⟨hi, hhi⟩ : ∃ hi, rHi K = hi := ⟨_, rfl⟩
  obtain ⟨rr, hrr⟩ : ∃ rr, rRef K = rr := ⟨_, rfl⟩
  rw [hlo, hhi, hrr] at hb
  by_cases g1 : P < (lo : Int)
  · have f1 : decide (P < (lo : Int)) = true := decide_eq_true g1
    go_enter Tryd.func11, Tryd.ntmps11
    go_wp2_with fail
    refine (paged_any K _ hk1 hk2).mono ?_
    rintro e w1 ⟨rfl, rfl⟩
    rw [hlo, hhi]
    go_wp2_with fail
    go_ret
    exact ⟨rfl, (Fr.refl _ _).alloc _⟩
  have f1 : decide (P < (lo : Int)) = false := decide_eq_false g1
  by_cases g2 : (hi : Int) < P
  · have f2 : decide ((hi : Int) < P) = true := decide_eq_true g2
    go_enter Tryd.func11, Tryd.ntmps11
    go_wp2_with fail
    refine (paged_any K _ hk1 hk2).mono ?_
    rintro e w1 ⟨rfl, rfl⟩
    rw [hlo, hhi]
    go_wp2_with fail
    go_ret
    exact ⟨rfl, (Fr.refl _ _).alloc _⟩
  have f2 : decide ((hi : Int) < P) = false := decide_eq_false g2
  by_cases g3 : 0 < nr
  · have f3 : decide ((0 : Int) < (nr : Int)) = true := decide_eq_true (by omega)
    cases rr
    · go_enter Tryd.func11, Tryd.ntmps11
      go_wp2_with fail
      refine (paged_any K _ hk1 hk2).mono ?_
      rintro e w1 ⟨rfl, rfl⟩
      rw [hlo, hhi]
      go_wp2_with fail
      refine (refers_any K _ hk1 hk2).mono ?_
      rintro e w1 ⟨rfl, rfl⟩
      rw [hrr]
      go_wp2_with fail
      go_ret
      exact ⟨rfl, (Fr.refl _ _).alloc _⟩
    by_cases g4 : nk = nr
    rotate_left
    · have f4 : ((nk : Int) != (nr : Int)) = true := by rw [bne_iff_ne]; omega
      go_enter Tryd.func11, Tryd.ntmps11
      go_wp2_with fail
      refine (paged_any K _ hk1 hk2).mono ?_
      rintro e w1 ⟨rfl, rfl⟩
      rw [hlo, hhi]
      go_wp2_with fail
      refine (refers_any K _ hk1 hk2).mono ?_
      rintro e w1 ⟨rfl, rfl⟩
      rw [hrr]
      go_wp2_with fail
      go_ret
      exact ⟨rfl, (Fr.refl _ _).alloc _⟩
    have f4 : ((nk : Int) != (nr : Int)) = false := by rw [g4]; simp
    by_cases g5 : st = true ∧ K ≠ 2
    · obtain ⟨rfl, g5'⟩ := g5
      have f5 : ((K : Int) != 2) = true := by rw [bne_iff_ne]; omega
      go_enter Tryd.func11, Tryd.ntmps11
      go_wp2_with fail
      refine (paged_any K _ hk1 hk2).mono ?_
      rintro e w1 ⟨rfl, rfl⟩
      rw [hlo, hhi]
      go_wp2_with fail
      refine (refers_any K _ hk1 hk2).mono ?_
      rintro e w1 ⟨rfl, rfl⟩
      rw [hrr]
      go_wp2_with fail
      go_ret
      exact ⟨rfl, (Fr.refl _ _).alloc _⟩
    have g6 : 67108864 < nd := by
      rcases hb with h | h | ⟨h, h'⟩ | h | h | h
      · exact absurd h g1
      · exact absurd h g2
      · first | omega | cases h'
      · exact absurd g4 h
      · exact absurd h g5
      · exact h
    have f6 : decide ((67108864 : Int) < (nd : Int)) = true := decide_eq_true (by omega)
    cases st
    · go_enter Tryd.func11, Tryd.ntmps11
      go_wp2_with fail
      refine (paged_any K _ hk1 hk2).mono ?_
      rintro e w1 ⟨rfl, rfl⟩
      rw [hlo, hhi]
      go_wp2_with fail
      refine (refers_any K _ hk1 hk2).mono ?_
      rintro e w1 ⟨rfl, rfl⟩
      rw [hrr]
      go_wp2_with fail
      go_ret
      exact ⟨rfl, (Fr.refl _ _).alloc _⟩
    · have hk2' : K = 2 := Decidable.byContradiction fun h => g5 ⟨rfl, h⟩
      have f5 : ((K : Int) != 2) = false := by rw [hk2']; rfl
      clear hk2'
      go_enter Tryd.func11, Tryd.ntmps11
      go_wp2_with fail
      refine (paged_any K _ hk1 hk2).mono ?_
      rintro e w1 ⟨rfl, rfl⟩
      rw [hlo, hhi]
      go_wp2_with fail
      refine (refers_any K _ hk1 hk2).mono ?_
      rintro e w1 ⟨rfl, rfl⟩
      rw [hrr]
      go_wp2_with fail
      go_ret
      exact ⟨rfl, (Fr.refl _ _).alloc _⟩
  · have f3 : decide ((0 : Int) < (nr : Int)) = false := decide_eq_false (by omega)
    by_cases g4 : nk = nr
    rotate_left
    · have f4 : ((nk : Int) != (nr : Int)) = true := by rw [bne_iff_ne]; omega
      go_enter Tryd.func11, Tryd.ntmps11
      go_wp2_with fail
      refine (paged_any K _ hk1 hk2).mono ?_
      rintro e w1 ⟨rfl, rfl⟩
      rw [hlo, hhi]
      go_wp2_with fail
      go_ret
      exact ⟨rfl, (Fr.refl _ _).alloc _⟩
    have f4 : ((nk : Int) != (nr : Int)) = false := by rw [g4]; simp
    by_cases g5 : st = true ∧ K ≠ 2
    · obtain ⟨rfl, g5'⟩ := g5
      have f5 : ((K : Int) != 2) = true := by rw [bne_iff_ne]; omega
      go_enter Tryd.func11, Tryd.ntmps11
      go_wp2_with fail
      refine (paged_any K _ hk1 hk2).mono ?_
      rintro e w1 ⟨rfl, rfl⟩
      rw [hlo, hhi]
      go_wp2_with fail
      go_ret
      exact ⟨rfl, (Fr.refl _ _).alloc _⟩
    have g6 : 67108864 < nd := by
      rcases hb with h | h | ⟨h, h'⟩ | h | h | h
      · exact absurd h g1
      · exact absurd h g2
      · first | omega | cases h'
      · exact absurd g4 h
      · exact absurd h g5
      · exact h
    have f6 : decide ((67108864 : Int) < (nd : Int)) = true := decide_eq_true (by omega)
    cases st
    · go_enter Tryd.func11, Tryd.ntmps11
      go_wp2_with fail
      refine (paged_any K _ hk1 hk2).mono ?_
      rintro e w1 ⟨rfl, rfl⟩
      rw [hlo, hhi]
      go_wp2_with fail
      go_ret
      exact ⟨rfl, (Fr.refl _ _).alloc _⟩
    · have hk2' : K = 2 := Decidable.byContradiction fun h => g5 ⟨rfl, h⟩
      have f5 : ((K : Int) != 2) = false := by rw [hk2']; rfl
      clear hk2'
      go_enter Tryd.func11, Tryd.ntmps11
      go_wp2_with fail
      refine (paged_any K _ hk1 hk2).mono ?_
      rintro e w1 ⟨rfl, rfl⟩
      rw [hlo, hhi]
      go_wp2_with fail
      go_ret
      exact ⟨rfl, (Fr.refl _ _).alloc _⟩
end Go.Proofs.YtamonbkhpbdojaaDoor
