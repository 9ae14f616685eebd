/- 'WholeRows'. -/
import Derived.Test.YtllhekkclhcdbaaDoorEw
namespace Go.Proofs.YtllhekkclhcdbaaDoor
open Go.RowKit

theorem NumsAt.pre {w : World} {ao : Option Addr} {n : Nat} {V : Nat → Int} {N : Nat → Bool} (h : NumsAt w ao n V N) {m : Nat} (hm : m ≤ n) : NumsAt w ao m V N := by
  refine ⟨Nat.le_trans hm h.lim, fun h0 => ?_⟩
  obtain ⟨b, off, e, hc⟩ := h.at_ (by omega)
  exact ⟨b, off, e, fun j hj => hc j (by omega)⟩

set_option maxRecDepth 100000 in
set_option maxHeartbeats 4000000 in
theorem rows_any (w : World) (ao : Option Addr) (n cap : Nat) (V : Nat → Int) (N : Nat → Bool) (h : NumsAt w ao n V N) (hr : RowsAt w) :
    Calls Tryd.prog 7 #[.slice ao n cap] w fun e w' => e = .returned (.bool true) ∧ Fr (fun _ => False) w w' := by
  have HL : Hid (NumsAt w ao n V N) := h
  have HR : Hid (RowsAt w) := hr
  have hlim := h.lim
  clear h hr
  by_cases hbig : 200 < n
  · have hd : decide ((200 : Int) < (n : Int)) = true := decide_eq_true (by omega)
    clear hbig
    go_enter Tryd.func7, Tryd.ntmps7
    go_wp2_with fail
    refine (wakes5_any _ HR.out).mono ?_
    rintro e w1 ⟨rfl, f1⟩
    go_wp2_with fail
    go_ret
    exact ⟨rfl, f1⟩
  · have hd : decide ((200 : Int) < (n : Int)) = false := decide_eq_false (by omega)
    have HN : Hid (n ≤ 200) := by show n ≤ 200; omega
    clear hbig hlim
    go_enter Tryd.func7, Tryd.ntmps7
    go_wp2_with fail
    refine (encode_any _ _ n cap V N HL.out HN.out HR.out).mono ?_
    rintro e w1 ⟨f1, (⟨hall, g, k, c, rfl, hse, hg⟩ | ⟨hbad, rfl⟩)⟩
    · have F1 : Hid (Fr (fun _ => False) w w1) := f1
      have HA : Hid (∀ j, j < n → mayP (V j) (N j) = true) := hall
      have HSe : Hid (SeenAt w1 (.slice (some ⟨g, 1, none⟩) k c) (codedB 512 (numsL V N n))) := hse
      have hln := numsL_len V N n
      have HB : Hid (∀ y ∈ codedB 512 (numsL V N n), y < 256) := codedB_lt (by omega) (by omega) (by have := HN.out; omega)
      have hnb := nums_back V N n HN.out hall
      have HV : Hid (∀ j, j < n → joinI (sgN (codedB 512 (numsL V N n)) j) (amN (codedB 512 (numsL V N n)) j) = (if N j then 0 else V j) ∧ joinN (sgN (codedB 512 (numsL V N n)) j) (amN (codedB 512 (numsL V N n)) j) = N j ∧ amN (codedB 512 (numsL V N n)) j ≤ 2147483648) := by
        intro j hj
        obtain ⟨q1, q2⟩ := (hnb j (by omega)).2 hj
        obtain ⟨q3, q4, q5⟩ := join_back (hall j hj)
        rw [q1, q2]
        exact ⟨q3, q4, q5⟩
      generalize codedB 512 (numsL V N n) = B at *
      clear f1 hall hse hln hnb hg
      go_wp2_with fail
      refine (wdecode_any _ _ B n HN.out HSe.out (.inr ⟨_, _, _, rfl⟩) HB.out (HR.out.kept F1.out (fun h => h))).mono ?_
      rintro e w2 ⟨f2, (⟨hall, g2, rfl, hnu, hg2⟩ | ⟨⟨j, hj, hm⟩, _⟩)⟩
      rotate_left
      · have := (HV.out j hj).2.2
        omega
      have F2 : Hid (Fr (fun _ => False) w w2) := Fr.trans F1.out f2 (fun _ _ h => h)
      have HNu : Hid (NumsAt w2 (some ⟨g2, 0, none⟩) n (fun j => joinI (sgN B j) (amN B j)) (fun j => joinN (sgN B j) (amN B j))) := hnu
      have HSe2 : Hid (SeenAt w2 (.slice (some ⟨g, 1, none⟩) k c) B) := HSe.out.kept f2 (fun _ _ h => h)
      have kq : (n : Int).tdiv 2 = ((n / 2 : Nat) : Int) := by rw [Int.tdiv_eq_ediv_of_nonneg (by omega)]; omega
      obtain ⟨m, em⟩ : ∃ m, n / 2 = m := ⟨_, rfl⟩
      rw [em] at kq
      have HM : Hid (n / 2 = m ∧ m ≤ n ∧ m ≤ 200) := ⟨em, by omega, by have := HN.out; omega⟩
      have kw : IntKind.i64.wrap (m : Int) = (m : Int) := by have := HM.out; rw [IntKind.wrap_i64]; omega
      clear f2 hall hnu hg2 em
      go_wp2_with fail
      refine (wdecode_any _ _ B m HM.out.2.2 HSe2.out (.inr ⟨_, _, _, rfl⟩) HB.out (HR.out.kept F2.out (fun h => h))).mono ?_
      rintro e w3 ⟨f3, (⟨hall, g3, rfl, hnu, hg3⟩ | ⟨⟨j, hj, hm⟩, _⟩)⟩
      rotate_left
      · have := (HV.out j (by have := HM.out; omega)).2.2
        omega
      have F3 : Hid (Fr (fun _ => False) w w3) := Fr.trans F2.out f3 (fun _ _ h => h)
      have HNu2 : Hid (NumsAt w3 (some ⟨g2, 0, none⟩) n (fun j => joinI (sgN B j) (amN B j)) (fun j => joinN (sgN B j) (amN B j))) := HNu.out.kept f3
      have HNu3 : Hid (NumsAt w3 (some ⟨g3, 0, none⟩) m (fun j => joinI (sgN B j) (amN B j)) (fun j => joinN (sgN B j) (amN B j))) := hnu
      have hne : ((n : Int) != (n : Int)) = false := by simp
      have hmn : m ≤ n := HM.out.2.1
      clear f3 hall hnu hg3
      go_wp2_with fail
      refine (eqw_same _ _ _ m _ _ _ _ (HNu2.out.pre hmn) HNu3.out HM.out.2.2).mono ?_
      rintro e w4 ⟨rfl, q, rfl⟩
      have F4 : Hid (Fr (fun _ => False) w (w3.drewN q)) := F3.out.drewN q
      have HNu4 : Hid (NumsAt (w3.drewN q) (some ⟨g2, 0, none⟩) n (fun j => joinI (sgN B j) (amN B j)) (fun j => joinN (sgN B j) (amN B j))) := HNu2.out.kept (Fr.drewN (Fr.refl _ _) q)
      generalize w3.drewN q = w4 at *
      clear hmn
      go_wp2_with fail
      go_loopw [10] (fun p wr => ∃ i q : Nat, i ≤ n ∧ p = .int .i64 (i : Int) ∧ wr = w4.drewN q)
        (fun p _ => ((n : Int) - intOf p).toNat)
      case atStart => exact ⟨0, 0, Nat.zero_le _, rfl, rfl⟩
      case round =>
        obtain ⟨i, q, hi, rfl, rfl⟩ := hrel
        by_cases hin : i < n
        · have hdec : decide (i < n) = true := decide_eq_true hin
          obtain ⟨b, off, eao, hc⟩ := (HL.out.kept F4.out).at_ (by omega)
          obtain ⟨x0, x1⟩ := hc i hin
          obtain ⟨b2, off2, ebo, hc2⟩ := HNu4.out.at_ (by omega)
          obtain ⟨rfl, rfl⟩ : g2 = b2 ∧ 0 = off2 := by cases ebo; exact ⟨rfl, rfl⟩
          obtain ⟨y0, y1⟩ := hc2 i hin
          obtain ⟨j1, j2, _⟩ := HV.out i hin
          rw [j1] at y0
          rw [j2] at y1
          obtain ⟨v, ev⟩ : ∃ v, V i = v := ⟨_, rfl⟩
          obtain ⟨nn, en⟩ : ∃ nn, N i = nn := ⟨_, rfl⟩
          rw [ev] at x0 y0
          rw [en] at x1 y0 y1
          simp only [Nat.zero_add] at y0 y1
          have k2 : IntKind.i64.wrap ((i : Int) + 1) = (i : Int) + 1 := by have := HN.out; rw [IntKind.wrap_i64]; omega
          subst eao
          clear hc hc2 ev en ebo j1 j2
          cases nn
          · simp only [Bool.false_eq_true, if_false] at y0
            have z0 : (w4.drewN q).cell? ⟨b, off + i * 2 + 0, none⟩ = some (.int .i64 v) := x0
            have z1 : (w4.drewN q).cell? ⟨b, off + i * 2 + 1, none⟩ = some (.bool false) := x1
            have t0 : (w4.drewN q).cell? ⟨g2, i * 2 + 0, none⟩ = some (.int .i64 v) := y0
            have t1 : (w4.drewN q).cell? ⟨g2, i * 2 + 1, none⟩ = some (.bool false) := y1
            have hvv : ((v : Int) != v) = false := by simp
            go_wp2_with fail
            go_quiet (fail)
            go_wp2_with fail
            go_roundw
            case rel => exact ⟨i + 1, q + nq, by omega, by push_cast; rfl, rfl⟩
            case measure => simp [intOf]; omega
          · simp only [if_true] at y0
            have z0 : (w4.drewN q).cell? ⟨b, off + i * 2 + 0, none⟩ = some (.int .i64 v) := x0
            have z1 : (w4.drewN q).cell? ⟨b, off + i * 2 + 1, none⟩ = some (.bool true) := x1
            have t0 : (w4.drewN q).cell? ⟨g2, i * 2 + 0, none⟩ = some (.int .i64 0) := y0
            have t1 : (w4.drewN q).cell? ⟨g2, i * 2 + 1, none⟩ = some (.bool true) := y1
            go_wp2_with fail
            go_quiet (fail)
            go_wp2_with fail
            go_roundw
            case rel => exact ⟨i + 1, q + nq, by omega, by push_cast; rfl, rfl⟩
            case measure => simp [intOf]; omega
        · obtain rfl : i = n := by omega
          have hdec : decide (i < i) = false := decide_eq_false (by omega)
          clear hin hi
          go_wp2_with fail
          refine (wakes5_any _ (HR.out.kept (F4.out.drewN q) (fun h => h))).mono ?_
          rintro e w5 ⟨rfl, f5⟩
          have F5 : Hid (Fr (fun _ => False) w w5) := Fr.trans (F4.out.drewN q) f5 (fun _ _ h => h)
          clear f5
          go_wp2_with fail
          go_ret
          exact ⟨rfl, F5.out⟩
    · have F1 : Hid (Fr (fun _ => False) w w1) := f1
      have HBad : Hid (∃ j, j < n ∧ mayP (V j) (N j) = false) := hbad
      clear f1 hbad
      go_wp2_with fail
      go_loopw [5] (fun p wr => ∃ i : Nat, i ≤ n ∧ p = .int .i64 (i : Int) ∧ (∀ j, j < i → mayP (V j) (N j) = true) ∧ wr = w1)
        (fun p _ => ((n : Int) - intOf p).toNat)
      case atStart => exact ⟨0, Nat.zero_le _, rfl, fun j hj => absurd hj (by omega), rfl⟩
      case round =>
        obtain ⟨i, hi, rfl, hall, rfl⟩ := hrel
        by_cases hin : i < n
        · have hdec : decide (i < n) = true := decide_eq_true hin
          obtain ⟨b, off, eao, hc⟩ := (HL.out.kept F1.out).at_ (by omega)
          obtain ⟨x0, x1⟩ := hc i hin
          obtain ⟨v, ev⟩ : ∃ v, V i = v := ⟨_, rfl⟩
          obtain ⟨nn, en⟩ : ∃ nn, N i = nn := ⟨_, rfl⟩
          rw [ev] at x0
          rw [en] at x1
          have HI : Hid (i < n ∧ V i = v ∧ N i = nn ∧ ∀ j, j < i → mayP (V j) (N j) = true) := ⟨hin, ev, en, hall⟩
          have k2 : IntKind.i64.wrap ((i : Int) + 1) = (i : Int) + 1 := by have := HN.out; rw [IntKind.wrap_i64]; omega
          subst eao
          clear hc ev en hall hi
          have more : mayP v nn = true → ∀ j, j < i + 1 → mayP (V j) (N j) = true := by
            intro hm j hj
            obtain ⟨q1, q2, q3, q4⟩ := HI.out
            rcases Nat.lt_or_ge j i with e | e
            · exact q4 j e
            · obtain rfl : j = i := by omega
              rw [q2, q3]; exact hm
          have HMo : Hid (mayP v nn = true → ∀ j, j < i + 1 → mayP (V j) (N j) = true) := more
          clear more
          cases nn
          · by_cases hv1 : 2147483648 < v
            · have hd1 : decide (2147483648 < v) = true := decide_eq_true hv1
              clear hv1
              go_wp2_with fail
              refine (wakes5_any _ (HR.out.kept F1.out (fun h => h))).mono ?_
              rintro e w5 ⟨rfl, f5⟩
              have F5 : Hid (Fr (fun _ => False) w w5) := Fr.trans F1.out f5 (fun _ _ h => h)
              clear f5
              go_wp2_with fail
              go_ret
              exact ⟨rfl, F5.out⟩
            · have hd1 : decide (2147483648 < v) = false := decide_eq_false hv1
              by_cases hv2 : v < -2147483648
              · have hd2 : decide (v < -2147483648) = true := decide_eq_true hv2
                clear hv1 hv2
                go_wp2_with fail
                refine (wakes5_any _ (HR.out.kept F1.out (fun h => h))).mono ?_
                rintro e w5 ⟨rfl, f5⟩
                have F5 : Hid (Fr (fun _ => False) w w5) := Fr.trans F1.out f5 (fun _ _ h => h)
                clear f5
                go_wp2_with fail
                go_ret
                exact ⟨rfl, F5.out⟩
              · have hd2 : decide (v < -2147483648) = false := decide_eq_false hv2
                have HMy : Hid (mayP v false = true) := by show mayP v false = true; simp [mayP]; omega
                clear hv1 hv2
                go_wp2_with fail
                go_roundw
                case rel => exact ⟨i + 1, by omega, by push_cast; rfl, HMo.out HMy.out, trivial⟩
                case measure => simp [intOf]; omega
          · go_wp2_with fail
            go_roundw
            case rel => exact ⟨i + 1, by omega, by push_cast; rfl, HMo.out (by simp [mayP]), trivial⟩
            case measure => simp [intOf]; omega
        · exfalso
          obtain ⟨j, hj, hm⟩ := HBad.out
          rw [hall j (by omega)] at hm
          cases hm

end Go.Proofs.YtllhekkclhcdbaaDoor
