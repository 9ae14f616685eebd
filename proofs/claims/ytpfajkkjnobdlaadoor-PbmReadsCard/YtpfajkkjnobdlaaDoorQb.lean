/- The reference's reader: a number. -/
import Derived.Test.YtpfajkkjnobdlaaDoorQa
namespace Go.Proofs.YtpfajkkjnobdlaaDoor
set_option maxRecDepth 100000
open Go.RowKit

theorem u8_less (c : Nat) (h : digit c = true) : IntKind.u8.wrap ((c : Int) - 48) = ((c - 48 : Nat) : Int) ∧ 48 ≤ c ∧ c ≤ 57 := by
  have h' : 48 ≤ c ∧ c ≤ 57 := by simpa [digit] using h
  refine ⟨?_, h'⟩
  rw [IntKind.wrap_u8]
  omega

def NumQ (n : Nat) (l : List Nat) (R : Option (Nat × List Nat)) (e : Ending) : Prop :=
  match R with
  | none => e = .returned (.tuple #[.int .i64 0, .int .i64 (-1)])
  | some (N, r) => ∃ b : Nat, e = .returned (.tuple #[.int .i64 (N : Int), .int .i64 (b : Int)]) ∧ b ≤ n ∧ l.drop b = r

set_option linter.unusedSimpArgs false in
set_option maxHeartbeats 1000000 in
theorem rnumber_any (ao : Option Addr) (cap : Nat) (l : List Nat) (a : Nat) (w : World) (h : By8 w ao l) (ha : a ≤ l.length) :
    Calls Tryd.prog 30 #[.slice ao l.length cap, .int .i64 (a : Int)] w fun e w' => NumQ l.length l (numberS (l.drop a)) e ∧ w' = w := by
  have HB : Hid (By8 w ao l) := h
  have HPS : Hid (Calls Tryd.prog 50 #[.slice ao l.length cap, .int .i64 (a : Int)] w fun e w' => (∃ b : Nat, e = .returned (.int .i64 (b : Int)) ∧ b ≤ l.length ∧ a ≤ b ∧ l.drop b = gapS false (l.drop a)) ∧ w' = w) := passed_any ao cap l a w h ha
  have hlim := h.lim
  obtain ⟨n, hn⟩ : ∃ n, n = l.length := ⟨_, rfl⟩
  have HN : Hid (n = l.length) := hn
  rw [← hn] at hlim ha HPS ⊢
  clear h hn
  obtain ⟨R, hR⟩ : ∃ R, R = numberS (l.drop a) := ⟨_, rfl⟩
  have HR : Hid (R = numberS (l.drop a)) := hR
  rw [← hR]
  clear hR
  go_enter Tryd.func30, Tryd.ntmps30
  go_wp2_with fail
  refine Calls.mono HPS.out ?_
  rintro e w1 ⟨⟨p, rfl, hpn, hap, hpd⟩, rfl⟩
  have HPD : Hid (l.drop p = gapS false (l.drop a)) := hpd
  clear hpd HPS
  have HRR : Hid (R = if p = a then none else if first (l.drop p) then some (numS 0 (l.drop p)) else none) := by
    show _ = _
    rw [HR.out]
    unfold numberS
    rw [← HPD.out]
    have h1 : ((l.drop p).length = (l.drop a).length) ↔ p = a := by
      rw [List.length_drop, List.length_drop, ← HN.out]; omega
    by_cases e : p = a
    · rw [if_pos (h1.2 e), if_pos e]
    · rw [if_neg (fun h => e (h1.1 h)), if_neg e]
  clear HR
  by_cases hpa : p = a
  · subst hpa
    have hRn : R = none := by rw [HRR.out, if_pos rfl]
    subst hRn
    go_wp2_with fail
    go_ret2
    exact ⟨rfl, rfl⟩
  · have hpa2 : ((p : Int) == (a : Int)) = false := by simp; omega
    rcases hr : l.drop p with _ | ⟨c, r⟩
    · have hRn : R = none := by rw [HRR.out, if_neg hpa, hr]; rfl
      subst hRn
      have hpe : p = n := by
        have : (l.drop p).length = 0 := by rw [hr]; rfl
        rw [List.length_drop, ← HN.out] at this
        omega
      have hge : decide ((n : Int) ≤ (p : Int)) = true := decide_eq_true (by omega)
      have hge2 : decide (n ≤ p) = true := decide_eq_true (by omega)
      clear hpe hr
      go_wp2_with fail
      go_ret2
      exact ⟨rfl, rfl⟩
    · obtain ⟨hlt, hget, hd, hmem⟩ := drop_cons hr
      rw [← HN.out] at hlt
      have hc := HB.out.byt c hmem
      obtain ⟨bb, off, rfl, hcc⟩ := HB.out.cell (by intro e; rw [e] at hmem; cases hmem)
      have hcell := hcc p (by rw [← HN.out]; exact hlt)
      rw [hget] at hcell
      have HCC : Hid (∀ j, j < l.length → w1.cell? ⟨bb, off + j, none⟩ = some (.int .u8 (l[j]?.getD 0 : Nat))) := hcc
      have HE : Hid (l.drop p = c :: r) := hr
      have hge : decide ((n : Int) ≤ (p : Int)) = false := decide_eq_false (by omega)
      have hge2 : decide (n ≤ p) = false := decide_eq_false (by omega)
      have hbI : (p : Int) < (n : Int) := by omega
      clear hr hd hget hmem hcc
      go_wp2_with fail
      refine Calls.mono (zdigit_c c _ hc) ?_
      rintro e w2 ⟨rfl, rfl⟩
      cases hdg : digit c
      · have hRn : R = none := by
          rw [HRR.out, if_neg hpa, HE.out]
          show (if digit c = true then _ else _) = _
          rw [if_neg (by rw [hdg]; simp)]
        subst hRn
        go_wp2_with fail
        go_ret2
        exact ⟨rfl, rfl⟩
      · have HRs : Hid (R = some (numS 0 (l.drop p))) := by
          show _ = _
          rw [HRR.out, if_neg hpa, HE.out]
          show (if digit c = true then _ else _) = _
          rw [if_pos hdg]
        clear HRR hge hge2 hpa2
        go_wp2_with fail
        go_loopg [6, 7] (n - p) (fun q pv nv wr => ∃ b N : Nat, b + q = n ∧ pv = .int .i64 (b : Int) ∧ nv = .int .i64 (N : Int) ∧ N ≤ 2147483648 ∧ numS N (l.drop b) = numS 0 (l.drop p) ∧ wr = w2)
        case atStart => exact ⟨p, 0, by omega, rfl, rfl, by omega, rfl, rfl⟩
        case round =>
          clear hcell hdg
          obtain ⟨b, N, hbq, rfl, rfl, hN, hg, rfl⟩ := hrel
          have HG : Hid (numS N (l.drop b) = numS 0 (l.drop p)) := hg
          clear hg
          rcases hr : l.drop b with _ | ⟨c1, r1⟩
          · have hpe : b = n := by
              have : (l.drop b).length = 0 := by rw [hr]; rfl
              rw [List.length_drop, ← HN.out] at this
              omega
            have hdm : decide (b < n) = false := decide_eq_false (by omega)
            have hdm2 : decide ((b : Int) < (n : Int)) = false := decide_eq_false (by omega)
            have HE1 : Hid (l.drop b = []) := hr
            have hbn : b ≤ n := by omega
            clear hr hpe
            go_wp2_with fail
            go_ret2
            rw [HRs.out, ← HG.out, HE1.out]
            exact ⟨⟨b, rfl, hbn, HE1.out⟩, rfl⟩
          · obtain ⟨hlt1, hget1, hd1, hmem1⟩ := drop_cons hr
            rw [← HN.out] at hlt1
            have hc1 := HB.out.byt c1 hmem1
            have hcell1 := HCC.out b (by rw [← HN.out]; exact hlt1)
            rw [hget1] at hcell1
            have HE1 : Hid (l.drop b = c1 :: r1) := hr
            have HD1 : Hid (l.drop (b + 1) = r1) := hd1
            have hdm : decide (b < n) = true := decide_eq_true hlt1
            have hdm2 : decide ((b : Int) < (n : Int)) = true := decide_eq_true (by omega)
            have hbI1 : (b : Int) < (n : Int) := by omega
            have hbn : b ≤ n := by omega
            clear hr hd1 hget1 hmem1
            go_wp2_with fail
            refine Calls.mono (zdigit_c c1 _ hc1) ?_
            rintro e w3 ⟨rfl, rfl⟩
            cases hdg : digit c1
            · have HNS : Hid (numS N (l.drop b) = (N, c1 :: r1)) := by
                show _ = _
                rw [HE1.out]
                show (if digit c1 = true then _ else _) = _
                rw [if_neg (by rw [hdg]; simp)]
              go_wp2_with fail
              go_ret2
              rw [HRs.out, ← HG.out, HNS.out]
              exact ⟨⟨b, rfl, hbn, HE1.out⟩, rfl⟩
            · obtain ⟨hw8, h48, h57⟩ := u8_less c1 hdg
              have HNS : Hid (numS N (l.drop b) = numS (min (10 * N + (c1 - 48)) 2147483648) r1) := by
                show _ = _
                rw [HE1.out]
                show (if digit c1 = true then _ else _) = _
                rw [if_pos hdg]
              obtain ⟨x, hx⟩ : ∃ x, x = c1 - 48 := ⟨_, rfl⟩
              rw [← hx] at hw8 HNS
              have hx9 : x ≤ 9 := by omega
              clear hx
              by_cases hbig : 2147483648 < 10 * N + x
              · have hb1 : decide ((2147483648 : Int) < 10 * (N : Int) + (x : Int)) = true := decide_eq_true (by omega)
                have hmin : min (10 * N + x) 2147483648 = 2147483648 := by omega
                rw [hmin] at HNS
                clear hmin
                go_wp2_with fail
                go_roundg (n - (b + 1))
                case measure => omega
                case rel => exact ⟨b + 1, 2147483648, by omega, congrArg (Value.int .i64) (by omega), rfl, by omega, by rw [HD1.out, ← HNS.out, HG.out], rfl⟩
              · have hb1 : decide ((2147483648 : Int) < 10 * (N : Int) + (x : Int)) = false := decide_eq_false (by omega)
                have hmin : min (10 * N + x) 2147483648 = 10 * N + x := by omega
                rw [hmin] at HNS
                clear hmin
                go_wp2_with fail
                go_roundg (n - (b + 1))
                case measure => omega
                case rel => exact ⟨b + 1, 10 * N + x, by omega, congrArg (Value.int .i64) (by omega), congrArg (Value.int .i64) (by omega), by omega, by rw [HD1.out, ← HNS.out, HG.out], rfl⟩
end Go.Proofs.YtpfajkkjnobdlaaDoor
