/- Segments' headers: the document's own 'May'. -/
import Derived.Test.YtamonbkhpbdojaaDoorSt
import Derived.BigQuiet
namespace Go.Proofs.YtamonbkhpbdojaaDoor
set_option maxRecDepth 100000
open Go.RowKit

theorem refers_any (K : Nat) (w : World) (h1 : 1 ≤ K) (h2 : K ≤ 7) : Calls Tryd.prog 30 #[.int .i64 (K : Int)] w fun e w' => e = .returned (.bool (rRef K)) ∧ w' = w := by
  rcases (by omega : K = 1 ∨ K = 2 ∨ K = 3 ∨ K = 4 ∨ K = 5 ∨ K = 6 ∨ K = 7) with rfl | rfl | rfl | rfl | rfl | rfl | rfl
  all_goals
    go_enter Tryd.func30, Tryd.ntmps30
    go_wp2_with fail
    go_ret
    exact ⟨by simp [rRef], rfl⟩
theorem paged_any (K : Nat) (w : World) (h1 : 1 ≤ K) (h2 : K ≤ 7) : Calls Tryd.prog 29 #[.int .i64 (K : Int)] w fun e w' => e = .returned (.tuple #[.int .i64 (rLo K : Int), .int .i64 (rHi K : Int)]) ∧ w' = w := by
  rcases (by omega : K = 1 ∨ K = 2 ∨ K = 3 ∨ K = 4 ∨ K = 5 ∨ K = 6 ∨ K = 7) with rfl | rfl | rfl | rfl | rfl | rfl | rfl
  all_goals
    go_enter Tryd.func29, Tryd.ntmps29
    go_wp2_with fail
    go_ret2
    exact ⟨by simp [rLo, rHi], rfl⟩

/-- The parts of what 'May' asks, as it asks them. -/
theorem chk_no1 {s : SgX} (h : s.num < 0 ∨ 32768 ≤ s.num ∨ s.kind < 1 ∨ 7 < s.kind) : chk s = false := by
  unfold chk chkA chkB
  rcases h with h | h | h | h
  · rw [decide_eq_false (by omega : ¬ 0 ≤ s.num)]; simp
  · rw [decide_eq_false (by omega : ¬ s.num ≤ 32767)]; simp
  · rw [decide_eq_false (by omega : ¬ 1 ≤ s.kind)]; simp
  · rw [decide_eq_false (by omega : ¬ s.kind ≤ 7)]; simp

set_option maxHeartbeats 4000000 in
theorem may_far (s : SgX) (vr vk vd : Value) (w : World) (h : SgAt w s vr vk vd) (hb : s.num < 0 ∨ 32768 ≤ s.num ∨ s.kind < 1 ∨ 7 < s.kind) :
    Calls Tryd.prog 11 #[sgV s vr vk vd] w fun e w' => e = .returned (.bool (chk s)) ∧ Fr (fun _ => False) w w' := by
  rw [chk_no1 hb]
  obtain ⟨ao1, c1, rfl⟩ := h.refs.slice
  obtain ⟨ao2, c2, rfl⟩ := h.keep.slice
  obtain ⟨ao3, c3, rfl⟩ := h.data.slice
  obtain ⟨N, K, P, Rs, Ks, st, D⟩ := s
  clear h
  rw [length_iCells, length_boolCells, length_byteCells] at *
  simp only [sgV] at *
  generalize Rs.length = nr at *
  generalize Ks.length = nk at *
  generalize D.length = nd at *
  have d1 : N < 0 → decide (N < 0) = true := fun h => decide_eq_true h
  by_cases h1 : N < 0
  · have e1 := d1 h1
    go_enter Tryd.func11, Tryd.ntmps11
    go_wp2_with fail
    go_ret
    exact ⟨rfl, (Fr.refl _ _).alloc _⟩
  have e1 : decide (N < 0) = false := decide_eq_false h1
  by_cases h2 : 32768 ≤ N
  · have e2 : decide ((32768 : Int) ≤ N) = true := decide_eq_true h2
    go_enter Tryd.func11, Tryd.ntmps11
    go_wp2_with fail
    go_ret
    exact ⟨rfl, (Fr.refl _ _).alloc _⟩
  have e2 : decide ((32768 : Int) ≤ N) = false := decide_eq_false h2
  by_cases h3 : K < 1
  · have e3 : decide (K < 1) = true := decide_eq_true h3
    go_enter Tryd.func11, Tryd.ntmps11
    go_wp2_with fail
    go_ret
    exact ⟨rfl, (Fr.refl _ _).alloc _⟩
  have e3 : decide (K < 1) = false := decide_eq_false h3
  have h4 : 7 < K := by omega
  have e4 : decide ((7 : Int) < K) = true := decide_eq_true h4
  go_enter Tryd.func11, Tryd.ntmps11
  go_wp2_with fail
  go_ret
  exact ⟨rfl, (Fr.refl _ _).alloc _⟩

theorem chk_no2 {s : SgX} {K : Nat} (hK : s.kind = (K : Int)) (h : s.page < (rLo K : Int) ∨ (rHi K : Int) < s.page ∨ (0 < s.refs.length ∧ rRef K = false) ∨ s.keep.length ≠ s.refs.length ∨ (s.stay = true ∧ K ≠ 2) ∨ 67108864 < s.data.length) : chk s = false := by
  unfold chk
  have e : s.kind.toNat = K := by rw [hK]; rfl
  rcases h with h | h | ⟨h, h'⟩ | h | ⟨h, h'⟩ | h
  · have : chk1 s = false := by unfold chk1; rw [e, decide_eq_false (by omega), Bool.false_and]
    simp [this]
  · have : chk1 s = false := by unfold chk1; rw [e, decide_eq_false (by omega : ¬ s.page ≤ (rHi K : Int)), Bool.and_false]
    simp [this]
  · have : chk2 s = false := by unfold chk2 mostR; rw [e, h', if_neg (by decide)]; exact decide_eq_false (by omega)
    simp [this]
  · have : chk4 s = false := by unfold chk4; rw [beq_eq_false_iff_ne]; exact h
    simp [this]
  · have : chk5 s = false := by unfold chk5 rStay; rw [e, h, decide_eq_false h']; rfl
    simp [this]
  · have : chk6 s = false := by unfold chk6; rw [e]; have := rData_le K; exact decide_eq_false (by omega)
    simp [this]

set_option maxHeartbeats 8000000 in
theorem may_mid (s : SgX) (K : Nat) (vr vk vd : Value) (w : World) (h : SgAt w s vr vk vd) (hn1 : 0 ≤ s.num) (hn2 : s.num < 32768) (hK : s.kind = (K : Int)) (hk1 : 1 ≤ K) (hk2 : K ≤ 7)
    (hb : s.page < (rLo K : Int) ∨ (rHi K : Int) < s.page ∨ (0 < s.refs.length ∧ rRef K = false) ∨ s.keep.length ≠ s.refs.length ∨ (s.stay = true ∧ K ≠ 2) ∨ 67108864 < s.data.length) :
    Calls Tryd.prog 11 #[sgV s vr vk vd] w fun e w' => e = .returned (.bool (chk s)) ∧ Fr (fun _ => False) w w' := by
  rw [chk_no2 hK hb]
  obtain ⟨ao1, c1, rfl⟩ := h.refs.slice
  obtain ⟨ao2, c2, rfl⟩ := h.keep.slice
  obtain ⟨ao3, c3, rfl⟩ := h.data.slice
  obtain ⟨N, K0, P, Rs, Ks, st, D⟩ := s
  clear h
  simp only at hK
  subst hK
  rw [length_iCells, length_boolCells, length_byteCells] at *
  simp only [sgV] at *
  generalize Rs.length = nr at *
  generalize Ks.length = nk at *
  generalize D.length = nd at *
  have e1 : decide (N < 0) = false := decide_eq_false (by omega)
  have e2 : decide ((32768 : Int) ≤ N) = false := decide_eq_false (by omega)
  have e3 : decide ((K : Int) < 1) = false := decide_eq_false (by omega)
  have e4 : decide ((7 : Int) < (K : Int)) = false := decide_eq_false (by omega)
  obtain ⟨lo, hlo⟩ : ∃ lo, rLo K = lo := ⟨_, rfl⟩
  obtain ⟨hi, hhi⟩ : ∃ hi, rHi K = hi := ⟨_, rfl⟩
  obtain ⟨rr, hrr⟩ : ∃ rr, rRef K = rr := ⟨_, rfl⟩
  rw [hlo, hhi, hrr] at hb
  by_cases g1 : P < (lo : Int)
  · have f1 : decide (P < (lo : Int)) = true := decide_eq_true g1
    go_enter Tryd.func11, Tryd.ntmps11
    go_wp2_with fail
    refine (paged_any K _ hk1 hk2).mono ?_
    rintro e w1 ⟨rfl, rfl⟩
    rw [hlo, hhi]
    go_wp2_with fail
    go_ret
    exact ⟨rfl, (Fr.refl _ _).alloc _⟩
  have f1 : decide (P < (lo : Int)) = false := decide_eq_false g1
  by_cases g2 : (hi : Int) < P
  · have f2 : decide ((hi : Int) < P) = true := decide_eq_true g2
    go_enter Tryd.func11, Tryd.ntmps11
    go_wp2_with fail
    refine (paged_any K _ hk1 hk2).mono ?_
    rintro e w1 ⟨rfl, rfl⟩
    rw [hlo, hhi]
    go_wp2_with fail
    go_ret
    exact ⟨rfl, (Fr.refl _ _).alloc _⟩
  have f2 : decide ((hi : Int) < P) = false := decide_eq_false g2
  by_cases g3 : 0 < nr
  · have f3 : decide ((0 : Int) < (nr : Int)) = true := decide_eq_true (by omega)
    cases rr
    · go_enter Tryd.func11, Tryd.ntmps11
      go_wp2_with fail
      refine (paged_any K _ hk1 hk2).mono ?_
      rintro e w1 ⟨rfl, rfl⟩
      rw [hlo, hhi]
      go_wp2_with fail
      refine (refers_any K _ hk1 hk2).mono ?_
      rintro e w1 ⟨rfl, rfl⟩
      rw [hrr]
      go_wp2_with fail
      go_ret
      exact ⟨rfl, (Fr.refl _ _).alloc _⟩
    by_cases g4 : nk = nr
    rotate_left
    · have f4 : ((nk : Int) != (nr : Int)) = true := by rw [bne_iff_ne]; omega
      go_enter Tryd.func11, Tryd.ntmps11
      go_wp2_with fail
      refine (paged_any K _ hk1 hk2).mono ?_
      rintro e w1 ⟨rfl, rfl⟩
      rw [hlo, hhi]
      go_wp2_with fail
      refine (refers_any K _ hk1 hk2).mono ?_
      rintro e w1 ⟨rfl, rfl⟩
      rw [hrr]
      go_wp2_with fail
      go_ret
      exact ⟨rfl, (Fr.refl _ _).alloc _⟩
    have f4 : ((nk : Int) != (nr : Int)) = false := by rw [g4]; simp
    by_cases g5 : st = true ∧ K ≠ 2
    · obtain ⟨rfl, g5'⟩ := g5
      have f5 : ((K : Int) != 2) = true := by rw [bne_iff_ne]; omega
      go_enter Tryd.func11, Tryd.ntmps11
      go_wp2_with fail
      refine (paged_any K _ hk1 hk2).mono ?_
      rintro e w1 ⟨rfl, rfl⟩
      rw [hlo, hhi]
      go_wp2_with fail
      refine (refers_any K _ hk1 hk2).mono ?_
      rintro e w1 ⟨rfl, rfl⟩
      rw [hrr]
      go_wp2_with fail
      go_ret
      exact ⟨rfl, (Fr.refl _ _).alloc _⟩
    have g6 : 67108864 < nd := by
      rcases hb with h | h | ⟨h, h'⟩ | h | h | h
      · exact absurd h g1
      · exact absurd h g2
      · first | omega | cases h'
      · exact absurd g4 h
      · exact absurd h g5
      · exact h
    have f6 : decide ((67108864 : Int) < (nd : Int)) = true := decide_eq_true (by omega)
    cases st
    · go_enter Tryd.func11, Tryd.ntmps11
      go_wp2_with fail
      refine (paged_any K _ hk1 hk2).mono ?_
      rintro e w1 ⟨rfl, rfl⟩
      rw [hlo, hhi]
      go_wp2_with fail
      refine (refers_any K _ hk1 hk2).mono ?_
      rintro e w1 ⟨rfl, rfl⟩
      rw [hrr]
      go_wp2_with fail
      go_ret
      exact ⟨rfl, (Fr.refl _ _).alloc _⟩
    · have hk2' : K = 2 := Decidable.byContradiction fun h => g5 ⟨rfl, h⟩
      have f5 : ((K : Int) != 2) = false := by rw [hk2']; rfl
      clear hk2'
      go_enter Tryd.func11, Tryd.ntmps11
      go_wp2_with fail
      refine (paged_any K _ hk1 hk2).mono ?_
      rintro e w1 ⟨rfl, rfl⟩
      rw [hlo, hhi]
      go_wp2_with fail
      refine (refers_any K _ hk1 hk2).mono ?_
      rintro e w1 ⟨rfl, rfl⟩
      rw [hrr]
      go_wp2_with fail
      go_ret
      exact ⟨rfl, (Fr.refl _ _).alloc _⟩
  · have f3 : decide ((0 : Int) < (nr : Int)) = false := decide_eq_false (by omega)
    by_cases g4 : nk = nr
    rotate_left
    · have f4 : ((nk : Int) != (nr : Int)) = true := by rw [bne_iff_ne]; omega
      go_enter Tryd.func11, Tryd.ntmps11
      go_wp2_with fail
      refine (paged_any K _ hk1 hk2).mono ?_
      rintro e w1 ⟨rfl, rfl⟩
      rw [hlo, hhi]
      go_wp2_with fail
      go_ret
      exact ⟨rfl, (Fr.refl _ _).alloc _⟩
    have f4 : ((nk : Int) != (nr : Int)) = false := by rw [g4]; simp
    by_cases g5 : st = true ∧ K ≠ 2
    · obtain ⟨rfl, g5'⟩ := g5
      have f5 : ((K : Int) != 2) = true := by rw [bne_iff_ne]; omega
      go_enter Tryd.func11, Tryd.ntmps11
      go_wp2_with fail
      refine (paged_any K _ hk1 hk2).mono ?_
      rintro e w1 ⟨rfl, rfl⟩
      rw [hlo, hhi]
      go_wp2_with fail
      go_ret
      exact ⟨rfl, (Fr.refl _ _).alloc _⟩
    have g6 : 67108864 < nd := by
      rcases hb with h | h | ⟨h, h'⟩ | h | h | h
      · exact absurd h g1
      · exact absurd h g2
      · first | omega | cases h'
      · exact absurd g4 h
      · exact absurd h g5
      · exact h
    have f6 : decide ((67108864 : Int) < (nd : Int)) = true := decide_eq_true (by omega)
    cases st
    · go_enter Tryd.func11, Tryd.ntmps11
      go_wp2_with fail
      refine (paged_any K _ hk1 hk2).mono ?_
      rintro e w1 ⟨rfl, rfl⟩
      rw [hlo, hhi]
      go_wp2_with fail
      go_ret
      exact ⟨rfl, (Fr.refl _ _).alloc _⟩
    · have hk2' : K = 2 := Decidable.byContradiction fun h => g5 ⟨rfl, h⟩
      have f5 : ((K : Int) != 2) = false := by rw [hk2']; rfl
      clear hk2'
      go_enter Tryd.func11, Tryd.ntmps11
      go_wp2_with fail
      refine (paged_any K _ hk1 hk2).mono ?_
      rintro e w1 ⟨rfl, rfl⟩
      rw [hlo, hhi]
      go_wp2_with fail
      go_ret
      exact ⟨rfl, (Fr.refl _ _).alloc _⟩
end Go.Proofs.YtamonbkhpbdojaaDoor

/- Segments' headers: the document's own 'May', its loop. -/
namespace Go.Proofs.YtamonbkhpbdojaaDoor
set_option maxRecDepth 100000
open Go.RowKit

theorem chk_last {s : SgX} {K : Nat} (hK : s.kind = (K : Int)) (hn1 : 0 ≤ s.num) (hn2 : s.num < 32768) (hk1 : 1 ≤ K) (hk2 : K ≤ 7) (g1 : (rLo K : Int) ≤ s.page) (g2 : s.page ≤ (rHi K : Int)) (g3 : s.refs.length = 0 ∨ rRef K = true) (g4 : s.keep.length = s.refs.length) (g5 : s.stay = false ∨ K = 2) (g6 : s.data.length ≤ 67108864) :
    chk s = (chk3 s && decide (¬ (K = 6 ∨ K = 7) ∨ s.data.length = 0)) := by
  have e : s.kind.toNat = K := by rw [hK]; rfl
  have a1 : chkA s = true := by unfold chkA; rw [decide_eq_true hn1, decide_eq_true (by omega)]; rfl
  have a2 : chkB s = true := by unfold chkB; rw [hK, decide_eq_true (by omega), decide_eq_true (by omega)]; rfl
  have a3 : chk1 s = true := by unfold chk1; rw [e, decide_eq_true g1, decide_eq_true g2]; rfl
  have a5 : chk4 s = true := by unfold chk4; rw [beq_iff_eq]; exact g4
  have a6 : chk5 s = true := by
    unfold chk5 rStay; rw [e]
    rcases g5 with h | h
    · rw [h]; simp
    · rw [h]; simp
  have a7 : chk6 s = decide (¬ (K = 6 ∨ K = 7) ∨ s.data.length = 0) := by
    unfold chk6; rw [e, Bool.eq_iff_iff, decide_eq_true_iff, decide_eq_true_iff]
    unfold rData
    split <;> omega
  have a4 : chk2 s = true ∨ chk3 s = false := by
    unfold chk2
    rw [e]
    rcases g3 with h | h
    · left; rw [h]; unfold mostR; split <;> exact decide_eq_true (by omega)
    · by_cases hl : (s.refs.length : Int) ≤ s.num
      · left; unfold mostR; rw [h, if_pos rfl]; exact decide_eq_true hl
      · right
        cases h3 : chk3 s
        · rfl
        · exfalso
          unfold chk3 at h3
          have key : ∀ (l : List Int) (m : Int), risB (s.num - 1) l m = true → m ≤ s.num → (l.length : Int) + m ≤ s.num := by
            intro l
            induction l with
            | nil => intro m _ hm; simpa using hm
            | cons a t ih =>
              intro m hr hm
              simp only [risB, Bool.and_eq_true, decide_eq_true_eq] at hr
              have := ih (a + 1) hr.2 (by omega)
              rw [List.length_cons]; omega
          have := key s.refs 0 h3 hn1
          omega
  unfold chk
  rw [a1, a2, a3, a5, a6, a7]
  rcases a4 with h | h
  · rw [h]; simp
  · rw [h]; simp

set_option linter.unusedSimpArgs false in
set_option maxHeartbeats 8000000 in
theorem may_near (s : SgX) (K : Nat) (vr vk vd : Value) (w : World) (h : SgAt w s vr vk vd) (hn1 : 0 ≤ s.num) (hn2 : s.num < 32768) (hK : s.kind = (K : Int)) (hk1 : 1 ≤ K) (hk2 : K ≤ 7)
    (g1 : (rLo K : Int) ≤ s.page) (g2 : s.page ≤ (rHi K : Int)) (g3 : s.refs.length = 0 ∨ rRef K = true) (g4 : s.keep.length = s.refs.length) (g5 : s.stay = false ∨ K = 2) (g6 : s.data.length ≤ 67108864) :
    Calls Tryd.prog 11 #[sgV s vr vk vd] w fun e w' => e = .returned (.bool (chk s)) ∧ Fr (fun _ => False) w w' := by
  rw [chk_last hK hn1 hn2 hk1 hk2 g1 g2 g3 g4 g5 g6]
  have HRF : Hid (∀ w', Fr (fun _ => False) w w' → RowS w' vr (iCells s.refs)) := fun w' f => h.refs.kept f
  obtain ⟨ao1, c1, rfl⟩ := h.refs.slice
  obtain ⟨ao2, c2, rfl⟩ := h.keep.slice
  obtain ⟨ao3, c3, rfl⟩ := h.data.slice
  have hlr : s.refs.length ≤ 9223372036854775807 := by obtain ⟨_, _, _, hh, _⟩ := h.refs; rwa [length_iCells] at hh
  obtain ⟨N, K0, P, Rs, Ks, st, D⟩ := s
  clear h
  simp only at hK
  subst hK
  simp only at hn1 hn2 g1 g2 g3 g4 g5 g6 HRF
  rw [length_iCells] at HRF ⊢
  rw [length_boolCells, length_byteCells]
  simp only [sgV, chk3] at *
  obtain ⟨B3, hB3⟩ : ∃ B, risB (N - 1) Rs 0 = B := ⟨_, rfl⟩
  rw [hB3]
  have HB3 : Hid (B3 = risB (N - 1) (Rs.drop 0) 0) := hB3.symm
  clear hB3
  obtain ⟨nr, hnr⟩ : ∃ n, n = Rs.length := ⟨_, rfl⟩
  have HNR : Hid (nr = Rs.length) := hnr
  have HD : Hid (∀ w', Fr (fun _ => False) w w' → 0 < nr → ∃ b off, ao1 = some ⟨b, off, none⟩ ∧ ∀ j, j < nr → w'.cell? ⟨b, off + j, none⟩ = some (.int .i64 (Rs[j]?.getD 0))) := fun w' f h0 => by
    obtain ⟨ao, c, e, _, hc⟩ := HRF.out w' f
    simp only [Value.slice.injEq] at e
    obtain ⟨rfl, _, _⟩ := e
    obtain ⟨b, off, e2, hc⟩ := hc (ne_nil_i (fun e => by rw [hnr, e] at h0; simp at h0))
    refine ⟨b, off, e2, fun j hj => ?_⟩
    rw [hc j (by rw [length_iCells]; omega), iCells_get Rs j (by omega)]
  obtain ⟨nk, hnk⟩ : ∃ n, n = Ks.length := ⟨_, rfl⟩
  obtain ⟨nd, hnd⟩ : ∃ n, n = D.length := ⟨_, rfl⟩
  rw [← hnr] at g3 hlr
  rw [← hnd] at g6
  rw [← hnr, ← hnk, ← hnd]
  obtain rfl : nr = nk := by rw [hnk, hnr]; exact g4.symm
  clear hnr hnk hnd HRF g4
  have e1 : decide (N < 0) = false := decide_eq_false (by omega)
  have e2 : decide ((32768 : Int) ≤ N) = false := decide_eq_false (by omega)
  have e3 : decide ((K : Int) < 1) = false := decide_eq_false (by omega)
  have e4 : decide ((7 : Int) < (K : Int)) = false := decide_eq_false (by omega)
  obtain ⟨lo, hlo⟩ : ∃ lo, rLo K = lo := ⟨_, rfl⟩
  obtain ⟨hi, hhi⟩ : ∃ hi, rHi K = hi := ⟨_, rfl⟩
  obtain ⟨rr, hrr⟩ : ∃ rr, rRef K = rr := ⟨_, rfl⟩
  rw [hlo] at g1
  rw [hhi] at g2
  rw [hrr] at g3
  have f1 : decide (P < (lo : Int)) = false := decide_eq_false (by omega)
  have f2 : decide ((hi : Int) < P) = false := decide_eq_false (by omega)
  have f4 : ((nr : Int) != (nr : Int)) = false := by simp
  have f6 : decide ((67108864 : Int) < (nd : Int)) = false := decide_eq_false (by omega)
  have HF1 : Hid (Fr (fun _ => False) w (w.alloc (.cells #[.int .i64 N, .int .i64 (K : Int), .int .i64 P, .slice ao1 nr c1, .slice ao2 nr c2, .bool st, .slice ao3 nd c3] 27))) := (Fr.refl _ _).alloc _
  have HN1 : Hid ((w.alloc (.cells #[.int .i64 N, .int .i64 (K : Int), .int .i64 P, .slice ao1 nr c1, .slice ao2 nr c2, .bool st, .slice ao3 nd c3] 27)).heap[w.heap.size]? = some (.cells #[.int .i64 N, .int .i64 (K : Int), .int .i64 P, .slice ao1 nr c1, .slice ao2 nr c2, .bool st, .slice ao3 nd c3] 27 (0, 0))) := heap_alloc_new w _
  by_cases h0 : 0 < nr
  · obtain rfl : rr = true := by rcases g3 with h | h; · omega
                                 · exact h
    have f3 : decide ((0 : Int) < (nr : Int)) = true := decide_eq_true (by omega)
    cases st
    · go_enter Tryd.func11, Tryd.ntmps11
      go_wp2_with fail
      refine (paged_any _ _ hk1 hk2).mono ?_
      rintro e w1 ⟨rfl, rfl⟩
      rw [hlo, hhi]
      go_wp2_with fail
      refine (refers_any _ _ hk1 hk2).mono ?_
      rintro e w1 ⟨rfl, rfl⟩
      rw [hrr]
      go_wp2_with fail
      generalize (w.alloc (.cells #[.int .i64 N, .int .i64 (K : Int), .int .i64 P, .slice ao1 nr c1, .slice ao2 nr c2, .bool false, .slice ao3 nd c3] 27)) = w1 at *
      generalize w.heap.size = n0 at *
      have y := HN1.out
      have q0 : w1.cell? ⟨n0, 0, none⟩ = some (.int .i64 N) := by simp [World.cell?, y]
      have q1 : w1.cell? ⟨n0, 1, none⟩ = some (.int .i64 (K : Int)) := by simp [World.cell?, y]
      have q3 : w1.cell? ⟨n0, 3, none⟩ = some (.slice ao1 nr c1) := by simp [World.cell?, y]
      have q6 : w1.cell? ⟨n0, 6, none⟩ = some (.slice ao3 nd c3) := by simp [World.cell?, y]
      clear y
      clear HN1 f1 f2 f6 e1 e2 e3 e4
      go_loopw [5] (fun u wr => ∃ (k q : Nat) (lk : Int), k ≤ nr ∧ 0 ≤ lk ∧ lk ≤ 40000 ∧ (k = 0 → lk = 0) ∧ (0 < k → Rs[k - 1]?.getD 0 = lk - 1) ∧ u = .int .i64 (k : Int) ∧ wr = w1.drewN q ∧ Hid (B3 = risB (N - 1) (Rs.drop k) lk)) (fun u _ => nr - (intOf u).toNat)
      case atStart => exact ⟨0, 0, 0, by omega, by omega, by omega, fun _ => rfl, fun h => absurd h (by omega), rfl, rfl, HB3.out⟩
      case round =>
        obtain ⟨k, q, lk, hk, hl0, hlk, hz, hpv, rfl, rfl, HQ⟩ := hrel
        by_cases hlt : k < nr
        · obtain ⟨b, off, rfl, hc⟩ := HD.out w1 HF1.out (by omega)
          have c0 := hc k hlt
          have hcp := hc (k - 1)
          have hd : decide ((k : Int) < (nr : Int)) = true := decide_eq_true (by omega)
          have HE : Hid (B3 = (decide (lk ≤ Rs[k]?.getD 0) && decide (Rs[k]?.getD 0 ≤ N - 1) && risB (N - 1) (Rs.drop (k + 1)) (Rs[k]?.getD 0 + 1))) := by
            show _ = _; rw [HQ.out, risB_drop (N - 1) Rs k (by have := HNR.out; omega)]
          have HNX : Hid (Rs[k + 1 - 1]?.getD 0 = Rs[k]?.getD 0) := by show _ = _; rw [Nat.add_sub_cancel]
          clear hc
          generalize Rs[k]?.getD 0 = x at *
          have hwk : IntKind.i64.wrap ((k : Int) + 1) = (k : Int) + 1 := by rw [IntKind.wrap_i64]; omega
          by_cases x1 : x < 0
          · have d1 : decide (x < 0) = true := decide_eq_true x1
            have e2 : B3 = false := by rw [HE.out, decide_eq_false (by omega : ¬ lk ≤ x)]; simp
            subst e2
            clear hcp hpv
            go_wp2_with fail
            go_quiet (fail)
            go_wp2_with fail
            go_ret
            exact ⟨by simp, (HF1.out.drewN _).drewN _⟩
          have d1 : decide (x < 0) = false := decide_eq_false x1
          by_cases x2 : N ≤ x
          · have d2 : decide (N ≤ x) = true := decide_eq_true x2
            have e2 : B3 = false := by rw [HE.out, decide_eq_false (by omega : ¬ x ≤ N - 1)]; simp
            subst e2
            clear hcp hpv
            go_wp2_with fail
            go_quiet (fail)
            go_wp2_with fail
            go_ret
            exact ⟨by simp, (HF1.out.drewN _).drewN _⟩
          have d2 : decide (N ≤ x) = false := decide_eq_false x2
          by_cases hk0 : k = 0
          · have hl := hz hk0
            have d3 : decide ((0 : Int) < (k : Int)) = false := decide_eq_false (by omega)
            have d3n : decide (0 < k) = false := decide_eq_false (by omega)
            have HE2 : Hid (B3 = risB (N - 1) (Rs.drop (k + 1)) (x + 1)) := by
              show _ = _; rw [HE.out, decide_eq_true (by omega : lk ≤ x), decide_eq_true (by omega : x ≤ N - 1)]; rfl
            clear hcp hpv hk0 hl hz
            go_wp2_with fail
            go_quiet (fail)
            go_wp2_with fail
            go_roundw
            case rel => exact ⟨k + 1, _, x + 1, by omega, by omega, by omega, fun h => absurd h (by omega), fun _ => by rw [HNX.out]; omega, congrArg (Value.int .i64) (by omega), rfl, HE2.out⟩
            case measure => simp [intOf]; omega
          · have hpv' := hpv (by omega)
            obtain ⟨j, hj⟩ : ∃ j, j = k - 1 := ⟨_, rfl⟩
            have c1' := hcp (by omega)
            rw [hpv'] at c1'
            rw [← hj] at c1'
            have d3 : decide ((0 : Int) < (k : Int)) = true := decide_eq_true (by omega)
            have d3n : decide (0 < k) = true := decide_eq_true (by omega)
            have hkj : (k : Int) - 1 = (j : Int) := by omega
            have hwj : IntKind.i64.wrap (j : Int) = (j : Int) := by rw [IntKind.wrap_i64]; omega
            have hjn : j < nr := by omega
            have hj0 : (0 : Int) ≤ (j : Int) := by omega
            obtain ⟨y, hy⟩ : ∃ y, y = lk - 1 := ⟨_, rfl⟩
            rw [← hy] at c1'
            by_cases x3 : x ≤ y
            · have d4 : decide (x ≤ y) = true := decide_eq_true x3
              have e2 : B3 = false := by rw [HE.out, decide_eq_false (by omega : ¬ lk ≤ x)]; simp
              subst e2
              clear hcp hpv hpv' hj hy hk0 hz
              go_wp2_with fail
              go_quiet (fail)
              go_wp2_with fail
              go_ret
              exact ⟨by simp, (HF1.out.drewN _).drewN _⟩
            · have d4 : decide (x ≤ y) = false := decide_eq_false x3
              have HE2 : Hid (B3 = risB (N - 1) (Rs.drop (k + 1)) (x + 1)) := by
                show _ = _; rw [HE.out, decide_eq_true (by omega : lk ≤ x), decide_eq_true (by omega : x ≤ N - 1)]; rfl
              clear hcp hpv hpv' hj hy hk0 hz
              go_wp2_with fail
              go_quiet (fail)
              go_wp2_with fail
              go_roundw
              case rel => exact ⟨k + 1, _, x + 1, by omega, by omega, by omega, fun h => absurd h (by omega), fun _ => by rw [HNX.out]; omega, congrArg (Value.int .i64) (by omega), rfl, HE2.out⟩
              case measure => simp [intOf]; omega
        · obtain rfl : k = nr := by omega
          have hd : decide ((k : Int) < (k : Int)) = false := decide_eq_false (by omega)
          have e2 : B3 = true := by rw [HQ.out, List.drop_of_length_le (by have := HNR.out; omega)]; rfl
          subst e2
          clear hz hpv HD HNR HQ
          by_cases k6 : K = 6
          · have m1 : ((K : Int) != 6) = false := by rw [k6]; rfl
            by_cases n0' : nd = 0
            · have m3 : ((nd : Int) == 0) = true := by rw [n0']; rfl
              have HG : Hid (decide (¬ (K = 6 ∨ K = 7) ∨ nd = 0) = true) := by show _ = _; exact decide_eq_true (Or.inr n0')
              clear k6 n0'
              go_wp2_with fail
              go_ret
              exact ⟨by rw [HG.out]; rfl, HF1.out.drewN _⟩
            · have m3 : ((nd : Int) == 0) = false := by rw [beq_eq_false_iff_ne]; omega
              have HG : Hid (decide (¬ (K = 6 ∨ K = 7) ∨ nd = 0) = false) := by show _ = _; exact decide_eq_false (by omega)
              clear k6
              go_wp2_with fail
              go_ret
              exact ⟨by rw [HG.out]; rfl, HF1.out.drewN _⟩
          have m1 : ((K : Int) != 6) = true := by rw [bne_iff_ne]; omega
          by_cases k7 : K = 7
          · have m2 : ((K : Int) != 7) = false := by rw [k7]; rfl
            by_cases n0' : nd = 0
            · have m3 : ((nd : Int) == 0) = true := by rw [n0']; rfl
              have HG : Hid (decide (¬ (K = 6 ∨ K = 7) ∨ nd = 0) = true) := by show _ = _; exact decide_eq_true (Or.inr n0')
              clear k7 n0'
              go_wp2_with fail
              go_ret
              exact ⟨by rw [HG.out]; rfl, HF1.out.drewN _⟩
            · have m3 : ((nd : Int) == 0) = false := by rw [beq_eq_false_iff_ne]; omega
              have HG : Hid (decide (¬ (K = 6 ∨ K = 7) ∨ nd = 0) = false) := by show _ = _; exact decide_eq_false (by omega)
              clear k7
              go_wp2_with fail
              go_ret
              exact ⟨by rw [HG.out]; rfl, HF1.out.drewN _⟩
          have m2 : ((K : Int) != 7) = true := by rw [bne_iff_ne]; omega
          have HG : Hid (decide (¬ (K = 6 ∨ K = 7) ∨ nd = 0) = true) := by show _ = _; exact decide_eq_true (by omega)
          go_wp2_with fail
          go_ret
          exact ⟨by rw [HG.out]; rfl, HF1.out.drewN _⟩
    · have f5 : ((K : Int) != 2) = false := by
        rcases g5 with h | h
        · cases h
        · rw [h]; rfl
      go_enter Tryd.func11, Tryd.ntmps11
      go_wp2_with fail
      refine (paged_any _ _ hk1 hk2).mono ?_
      rintro e w1 ⟨rfl, rfl⟩
      rw [hlo, hhi]
      go_wp2_with fail
      refine (refers_any _ _ hk1 hk2).mono ?_
      rintro e w1 ⟨rfl, rfl⟩
      rw [hrr]
      go_wp2_with fail
      generalize (w.alloc (.cells #[.int .i64 N, .int .i64 (K : Int), .int .i64 P, .slice ao1 nr c1, .slice ao2 nr c2, .bool true, .slice ao3 nd c3] 27)) = w1 at *
      generalize w.heap.size = n0 at *
      have y := HN1.out
      have q0 : w1.cell? ⟨n0, 0, none⟩ = some (.int .i64 N) := by simp [World.cell?, y]
      have q1 : w1.cell? ⟨n0, 1, none⟩ = some (.int .i64 (K : Int)) := by simp [World.cell?, y]
      have q3 : w1.cell? ⟨n0, 3, none⟩ = some (.slice ao1 nr c1) := by simp [World.cell?, y]
      have q6 : w1.cell? ⟨n0, 6, none⟩ = some (.slice ao3 nd c3) := by simp [World.cell?, y]
      clear y
      clear HN1 f1 f2 f6 e1 e2 e3 e4
      go_loopw [5] (fun u wr => ∃ (k q : Nat) (lk : Int), k ≤ nr ∧ 0 ≤ lk ∧ lk ≤ 40000 ∧ (k = 0 → lk = 0) ∧ (0 < k → Rs[k - 1]?.getD 0 = lk - 1) ∧ u = .int .i64 (k : Int) ∧ wr = w1.drewN q ∧ Hid (B3 = risB (N - 1) (Rs.drop k) lk)) (fun u _ => nr - (intOf u).toNat)
      case atStart => exact ⟨0, 0, 0, by omega, by omega, by omega, fun _ => rfl, fun h => absurd h (by omega), rfl, rfl, HB3.out⟩
      case round =>
        obtain ⟨k, q, lk, hk, hl0, hlk, hz, hpv, rfl, rfl, HQ⟩ := hrel
        by_cases hlt : k < nr
        · obtain ⟨b, off, rfl, hc⟩ := HD.out w1 HF1.out (by omega)
          have c0 := hc k hlt
          have hcp := hc (k - 1)
          have hd : decide ((k : Int) < (nr : Int)) = true := decide_eq_true (by omega)
          have HE : Hid (B3 = (decide (lk ≤ Rs[k]?.getD 0) && decide (Rs[k]?.getD 0 ≤ N - 1) && risB (N - 1) (Rs.drop (k + 1)) (Rs[k]?.getD 0 + 1))) := by
            show _ = _; rw [HQ.out, risB_drop (N - 1) Rs k (by have := HNR.out; omega)]
          have HNX : Hid (Rs[k + 1 - 1]?.getD 0 = Rs[k]?.getD 0) := by show _ = _; rw [Nat.add_sub_cancel]
          clear hc
          generalize Rs[k]?.getD 0 = x at *
          have hwk : IntKind.i64.wrap ((k : Int) + 1) = (k : Int) + 1 := by rw [IntKind.wrap_i64]; omega
          by_cases x1 : x < 0
          · have d1 : decide (x < 0) = true := decide_eq_true x1
            have e2 : B3 = false := by rw [HE.out, decide_eq_false (by omega : ¬ lk ≤ x)]; simp
            subst e2
            clear hcp hpv
            go_wp2_with fail
            go_quiet (fail)
            go_wp2_with fail
            go_ret
            exact ⟨by simp, (HF1.out.drewN _).drewN _⟩
          have d1 : decide (x < 0) = false := decide_eq_false x1
          by_cases x2 : N ≤ x
          · have d2 : decide (N ≤ x) = true := decide_eq_true x2
            have e2 : B3 = false := by rw [HE.out, decide_eq_false (by omega : ¬ x ≤ N - 1)]; simp
            subst e2
            clear hcp hpv
            go_wp2_with fail
            go_quiet (fail)
            go_wp2_with fail
            go_ret
            exact ⟨by simp, (HF1.out.drewN _).drewN _⟩
          have d2 : decide (N ≤ x) = false := decide_eq_false x2
          by_cases hk0 : k = 0
          · have hl := hz hk0
            have d3 : decide ((0 : Int) < (k : Int)) = false := decide_eq_false (by omega)
            have d3n : decide (0 < k) = false := decide_eq_false (by omega)
            have HE2 : Hid (B3 = risB (N - 1) (Rs.drop (k + 1)) (x + 1)) := by
              show _ = _; rw [HE.out, decide_eq_true (by omega : lk ≤ x), decide_eq_true (by omega : x ≤ N - 1)]; rfl
            clear hcp hpv hk0 hl hz
            go_wp2_with fail
            go_quiet (fail)
            go_wp2_with fail
            go_roundw
            case rel => exact ⟨k + 1, _, x + 1, by omega, by omega, by omega, fun h => absurd h (by omega), fun _ => by rw [HNX.out]; omega, congrArg (Value.int .i64) (by omega), rfl, HE2.out⟩
            case measure => simp [intOf]; omega
          · have hpv' := hpv (by omega)
            obtain ⟨j, hj⟩ : ∃ j, j = k - 1 := ⟨_, rfl⟩
            have c1' := hcp (by omega)
            rw [hpv'] at c1'
            rw [← hj] at c1'
            have d3 : decide ((0 : Int) < (k : Int)) = true := decide_eq_true (by omega)
            have d3n : decide (0 < k) = true := decide_eq_true (by omega)
            have hkj : (k : Int) - 1 = (j : Int) := by omega
            have hwj : IntKind.i64.wrap (j : Int) = (j : Int) := by rw [IntKind.wrap_i64]; omega
            have hjn : j < nr := by omega
            have hj0 : (0 : Int) ≤ (j : Int) := by omega
            obtain ⟨y, hy⟩ : ∃ y, y = lk - 1 := ⟨_, rfl⟩
            rw [← hy] at c1'
            by_cases x3 : x ≤ y
            · have d4 : decide (x ≤ y) = true := decide_eq_true x3
              have e2 : B3 = false := by rw [HE.out, decide_eq_false (by omega : ¬ lk ≤ x)]; simp
              subst e2
              clear hcp hpv hpv' hj hy hk0 hz
              go_wp2_with fail
              go_quiet (fail)
              go_wp2_with fail
              go_ret
              exact ⟨by simp, (HF1.out.drewN _).drewN _⟩
            · have d4 : decide (x ≤ y) = false := decide_eq_false x3
              have HE2 : Hid (B3 = risB (N - 1) (Rs.drop (k + 1)) (x + 1)) := by
                show _ = _; rw [HE.out, decide_eq_true (by omega : lk ≤ x), decide_eq_true (by omega : x ≤ N - 1)]; rfl
              clear hcp hpv hpv' hj hy hk0 hz
              go_wp2_with fail
              go_quiet (fail)
              go_wp2_with fail
              go_roundw
              case rel => exact ⟨k + 1, _, x + 1, by omega, by omega, by omega, fun h => absurd h (by omega), fun _ => by rw [HNX.out]; omega, congrArg (Value.int .i64) (by omega), rfl, HE2.out⟩
              case measure => simp [intOf]; omega
        · obtain rfl : k = nr := by omega
          have hd : decide ((k : Int) < (k : Int)) = false := decide_eq_false (by omega)
          have e2 : B3 = true := by rw [HQ.out, List.drop_of_length_le (by have := HNR.out; omega)]; rfl
          subst e2
          clear hz hpv HD HNR HQ
          by_cases k6 : K = 6
          · have m1 : ((K : Int) != 6) = false := by rw [k6]; rfl
            by_cases n0' : nd = 0
            · have m3 : ((nd : Int) == 0) = true := by rw [n0']; rfl
              have HG : Hid (decide (¬ (K = 6 ∨ K = 7) ∨ nd = 0) = true) := by show _ = _; exact decide_eq_true (Or.inr n0')
              clear k6 n0'
              go_wp2_with fail
              go_ret
              exact ⟨by rw [HG.out]; rfl, HF1.out.drewN _⟩
            · have m3 : ((nd : Int) == 0) = false := by rw [beq_eq_false_iff_ne]; omega
              have HG : Hid (decide (¬ (K = 6 ∨ K = 7) ∨ nd = 0) = false) := by show _ = _; exact decide_eq_false (by omega)
              clear k6
              go_wp2_with fail
              go_ret
              exact ⟨by rw [HG.out]; rfl, HF1.out.drewN _⟩
          have m1 : ((K : Int) != 6) = true := by rw [bne_iff_ne]; omega
          by_cases k7 : K = 7
          · have m2 : ((K : Int) != 7) = false := by rw [k7]; rfl
            by_cases n0' : nd = 0
            · have m3 : ((nd : Int) == 0) = true := by rw [n0']; rfl
              have HG : Hid (decide (¬ (K = 6 ∨ K = 7) ∨ nd = 0) = true) := by show _ = _; exact decide_eq_true (Or.inr n0')
              clear k7 n0'
              go_wp2_with fail
              go_ret
              exact ⟨by rw [HG.out]; rfl, HF1.out.drewN _⟩
            · have m3 : ((nd : Int) == 0) = false := by rw [beq_eq_false_iff_ne]; omega
              have HG : Hid (decide (¬ (K = 6 ∨ K = 7) ∨ nd = 0) = false) := by show _ = _; exact decide_eq_false (by omega)
              clear k7
              go_wp2_with fail
              go_ret
              exact ⟨by rw [HG.out]; rfl, HF1.out.drewN _⟩
          have m2 : ((K : Int) != 7) = true := by rw [bne_iff_ne]; omega
          have HG : Hid (decide (¬ (K = 6 ∨ K = 7) ∨ nd = 0) = true) := by show _ = _; exact decide_eq_true (by omega)
          go_wp2_with fail
          go_ret
          exact ⟨by rw [HG.out]; rfl, HF1.out.drewN _⟩
  · have f3 : decide ((0 : Int) < (nr : Int)) = false := decide_eq_false (by omega)
    cases st
    · go_enter Tryd.func11, Tryd.ntmps11
      go_wp2_with fail
      refine (paged_any _ _ hk1 hk2).mono ?_
      rintro e w1 ⟨rfl, rfl⟩
      rw [hlo, hhi]
      go_wp2_with fail
      generalize (w.alloc (.cells #[.int .i64 N, .int .i64 (K : Int), .int .i64 P, .slice ao1 nr c1, .slice ao2 nr c2, .bool false, .slice ao3 nd c3] 27)) = w1 at *
      generalize w.heap.size = n0 at *
      have y := HN1.out
      have q0 : w1.cell? ⟨n0, 0, none⟩ = some (.int .i64 N) := by simp [World.cell?, y]
      have q1 : w1.cell? ⟨n0, 1, none⟩ = some (.int .i64 (K : Int)) := by simp [World.cell?, y]
      have q3 : w1.cell? ⟨n0, 3, none⟩ = some (.slice ao1 nr c1) := by simp [World.cell?, y]
      have q6 : w1.cell? ⟨n0, 6, none⟩ = some (.slice ao3 nd c3) := by simp [World.cell?, y]
      clear y
      clear HN1 f1 f2 f6 e1 e2 e3 e4
      go_loopw [5] (fun u wr => ∃ (k q : Nat) (lk : Int), k ≤ nr ∧ 0 ≤ lk ∧ lk ≤ 40000 ∧ (k = 0 → lk = 0) ∧ (0 < k → Rs[k - 1]?.getD 0 = lk - 1) ∧ u = .int .i64 (k : Int) ∧ wr = w1.drewN q ∧ Hid (B3 = risB (N - 1) (Rs.drop k) lk)) (fun u _ => nr - (intOf u).toNat)
      case atStart => exact ⟨0, 0, 0, by omega, by omega, by omega, fun _ => rfl, fun h => absurd h (by omega), rfl, rfl, HB3.out⟩
      case round =>
        obtain ⟨k, q, lk, hk, hl0, hlk, hz, hpv, rfl, rfl, HQ⟩ := hrel
        by_cases hlt : k < nr
        · exact absurd hlt (by omega)
        · obtain rfl : k = nr := by omega
          have hd : decide ((k : Int) < (k : Int)) = false := decide_eq_false (by omega)
          have e2 : B3 = true := by rw [HQ.out, List.drop_of_length_le (by have := HNR.out; omega)]; rfl
          subst e2
          clear hz hpv HD HNR HQ
          by_cases k6 : K = 6
          · have m1 : ((K : Int) != 6) = false := by rw [k6]; rfl
            by_cases n0' : nd = 0
            · have m3 : ((nd : Int) == 0) = true := by rw [n0']; rfl
              have HG : Hid (decide (¬ (K = 6 ∨ K = 7) ∨ nd = 0) = true) := by show _ = _; exact decide_eq_true (Or.inr n0')
              clear k6 n0'
              go_wp2_with fail
              go_ret
              exact ⟨by rw [HG.out]; rfl, HF1.out.drewN _⟩
            · have m3 : ((nd : Int) == 0) = false := by rw [beq_eq_false_iff_ne]; omega
              have HG : Hid (decide (¬ (K = 6 ∨ K = 7) ∨ nd = 0) = false) := by show _ = _; exact decide_eq_false (by omega)
              clear k6
              go_wp2_with fail
              go_ret
              exact ⟨by rw [HG.out]; rfl, HF1.out.drewN _⟩
          have m1 : ((K : Int) != 6) = true := by rw [bne_iff_ne]; omega
          by_cases k7 : K = 7
          · have m2 : ((K : Int) != 7) = false := by rw [k7]; rfl
            by_cases n0' : nd = 0
            · have m3 : ((nd : Int) == 0) = true := by rw [n0']; rfl
              have HG : Hid (decide (¬ (K = 6 ∨ K = 7) ∨ nd = 0) = true) := by show _ = _; exact decide_eq_true (Or.inr n0')
              clear k7 n0'
              go_wp2_with fail
              go_ret
              exact ⟨by rw [HG.out]; rfl, HF1.out.drewN _⟩
            · have m3 : ((nd : Int) == 0) = false := by rw [beq_eq_false_iff_ne]; omega
              have HG : Hid (decide (¬ (K = 6 ∨ K = 7) ∨ nd = 0) = false) := by show _ = _; exact decide_eq_false (by omega)
              clear k7
              go_wp2_with fail
              go_ret
              exact ⟨by rw [HG.out]; rfl, HF1.out.drewN _⟩
          have m2 : ((K : Int) != 7) = true := by rw [bne_iff_ne]; omega
          have HG : Hid (decide (¬ (K = 6 ∨ K = 7) ∨ nd = 0) = true) := by show _ = _; exact decide_eq_true (by omega)
          go_wp2_with fail
          go_ret
          exact ⟨by rw [HG.out]; rfl, HF1.out.drewN _⟩
    · have f5 : ((K : Int) != 2) = false := by
        rcases g5 with h | h
        · cases h
        · rw [h]; rfl
      go_enter Tryd.func11, Tryd.ntmps11
      go_wp2_with fail
      refine (paged_any _ _ hk1 hk2).mono ?_
      rintro e w1 ⟨rfl, rfl⟩
      rw [hlo, hhi]
      go_wp2_with fail
      generalize (w.alloc (.cells #[.int .i64 N, .int .i64 (K : Int), .int .i64 P, .slice ao1 nr c1, .slice ao2 nr c2, .bool true, .slice ao3 nd c3] 27)) = w1 at *
      generalize w.heap.size = n0 at *
      have y := HN1.out
      have q0 : w1.cell? ⟨n0, 0, none⟩ = some (.int .i64 N) := by simp [World.cell?, y]
      have q1 : w1.cell? ⟨n0, 1, none⟩ = some (.int .i64 (K : Int)) := by simp [World.cell?, y]
      have q3 : w1.cell? ⟨n0, 3, none⟩ = some (.slice ao1 nr c1) := by simp [World.cell?, y]
      have q6 : w1.cell? ⟨n0, 6, none⟩ = some (.slice ao3 nd c3) := by simp [World.cell?, y]
      clear y
      clear HN1 f1 f2 f6 e1 e2 e3 e4
      go_loopw [5] (fun u wr => ∃ (k q : Nat) (lk : Int), k ≤ nr ∧ 0 ≤ lk ∧ lk ≤ 40000 ∧ (k = 0 → lk = 0) ∧ (0 < k → Rs[k - 1]?.getD 0 = lk - 1) ∧ u = .int .i64 (k : Int) ∧ wr = w1.drewN q ∧ Hid (B3 = risB (N - 1) (Rs.drop k) lk)) (fun u _ => nr - (intOf u).toNat)
      case atStart => exact ⟨0, 0, 0, by omega, by omega, by omega, fun _ => rfl, fun h => absurd h (by omega), rfl, rfl, HB3.out⟩
      case round =>
        obtain ⟨k, q, lk, hk, hl0, hlk, hz, hpv, rfl, rfl, HQ⟩ := hrel
        by_cases hlt : k < nr
        · exact absurd hlt (by omega)
        · obtain rfl : k = nr := by omega
          have hd : decide ((k : Int) < (k : Int)) = false := decide_eq_false (by omega)
          have e2 : B3 = true := by rw [HQ.out, List.drop_of_length_le (by have := HNR.out; omega)]; rfl
          subst e2
          clear hz hpv HD HNR HQ
          by_cases k6 : K = 6
          · have m1 : ((K : Int) != 6) = false := by rw [k6]; rfl
            by_cases n0' : nd = 0
            · have m3 : ((nd : Int) == 0) = true := by rw [n0']; rfl
              have HG : Hid (decide (¬ (K = 6 ∨ K = 7) ∨ nd = 0) = true) := by show _ = _; exact decide_eq_true (Or.inr n0')
              clear k6 n0'
              go_wp2_with fail
              go_ret
              exact ⟨by rw [HG.out]; rfl, HF1.out.drewN _⟩
            · have m3 : ((nd : Int) == 0) = false := by rw [beq_eq_false_iff_ne]; omega
              have HG : Hid (decide (¬ (K = 6 ∨ K = 7) ∨ nd = 0) = false) := by show _ = _; exact decide_eq_false (by omega)
              clear k6
              go_wp2_with fail
              go_ret
              exact ⟨by rw [HG.out]; rfl, HF1.out.drewN _⟩
          have m1 : ((K : Int) != 6) = true := by rw [bne_iff_ne]; omega
          by_cases k7 : K = 7
          · have m2 : ((K : Int) != 7) = false := by rw [k7]; rfl
            by_cases n0' : nd = 0
            · have m3 : ((nd : Int) == 0) = true := by rw [n0']; rfl
              have HG : Hid (decide (¬ (K = 6 ∨ K = 7) ∨ nd = 0) = true) := by show _ = _; exact decide_eq_true (Or.inr n0')
              clear k7 n0'
              go_wp2_with fail
              go_ret
              exact ⟨by rw [HG.out]; rfl, HF1.out.drewN _⟩
            · have m3 : ((nd : Int) == 0) = false := by rw [beq_eq_false_iff_ne]; omega
              have HG : Hid (decide (¬ (K = 6 ∨ K = 7) ∨ nd = 0) = false) := by show _ = _; exact decide_eq_false (by omega)
              clear k7
              go_wp2_with fail
              go_ret
              exact ⟨by rw [HG.out]; rfl, HF1.out.drewN _⟩
          have m2 : ((K : Int) != 7) = true := by rw [bne_iff_ne]; omega
          have HG : Hid (decide (¬ (K = 6 ∨ K = 7) ∨ nd = 0) = true) := by show _ = _; exact decide_eq_true (by omega)
          go_wp2_with fail
          go_ret
          exact ⟨by rw [HG.out]; rfl, HF1.out.drewN _⟩
end Go.Proofs.YtamonbkhpbdojaaDoor

/- Segments' headers: the document's own 'May', of any segment. -/
namespace Go.Proofs.YtamonbkhpbdojaaDoor
set_option maxRecDepth 100000
open Go.RowKit

theorem may_any (s : SgX) (vr vk vd : Value) (w : World) (h : SgAt w s vr vk vd) :
    Calls Tryd.prog 11 #[sgV s vr vk vd] w fun e w' => e = .returned (.bool (chk s)) ∧ Fr (fun _ => False) w w' := by
  by_cases hb : s.num < 0 ∨ 32768 ≤ s.num ∨ s.kind < 1 ∨ 7 < s.kind
  · exact may_far s vr vk vd w h hb
  · obtain ⟨K, hK⟩ : ∃ K : Nat, s.kind = (K : Int) := ⟨s.kind.toNat, by omega⟩
    by_cases hc : s.page < (rLo K : Int) ∨ (rHi K : Int) < s.page ∨ (0 < s.refs.length ∧ rRef K = false) ∨ s.keep.length ≠ s.refs.length ∨ (s.stay = true ∧ K ≠ 2) ∨ 67108864 < s.data.length
    · exact may_mid s K vr vk vd w h (by omega) (by omega) hK (by omega) (by omega) hc
    · refine may_near s K vr vk vd w h (by omega) (by omega) hK (by omega) (by omega) (by omega) (by omega) ?_ (by omega) ?_ (by omega)
      · by_cases h0 : s.refs.length = 0
        · exact Or.inl h0
        · refine Or.inr ?_
          cases hr : rRef K with
          | true => rfl
          | false => exact absurd (Or.inr (Or.inr (Or.inl ⟨by omega, hr⟩))) hc
      · cases hs : s.stay with
        | false => exact Or.inl rfl
        | true =>
          refine Or.inr ?_
          by_cases h2 : K = 2
          · exact h2
          · exact absurd (Or.inr (Or.inr (Or.inr (Or.inr (Or.inl ⟨hs, h2⟩))))) hc
end Go.Proofs.YtamonbkhpbdojaaDoor
