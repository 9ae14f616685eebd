/- The reference's reader: white bytes, digits, gaps. -/
import Derived.Test.YtpfajkkjnobdlaaDoorRa
import Derived.Test.YtpfajkkjnobdlaaDoorRb
import Derived.Deep.LoopGhost
namespace Go.Proofs.YtpfajkkjnobdlaaDoor
set_option maxRecDepth 100000
open Go.RowKit

theorem drop_cons {l r : List Nat} {a c : Nat} (h : l.drop a = c :: r) : a < l.length ∧ l[a]?.getD 0 = c ∧ l.drop (a + 1) = r ∧ c ∈ l := by
  have h0 : (l.drop a)[0]? = some c := by rw [h]; rfl
  rw [List.getElem?_drop, Nat.add_zero] at h0
  have hlt : a < l.length := by
    rcases Nat.lt_or_ge a l.length with h1 | h1
    · exact h1
    · rw [List.getElem?_eq_none h1] at h0; cases h0
  refine ⟨hlt, by rw [h0]; rfl, ?_, List.mem_of_getElem? h0⟩
  rw [← List.drop_drop, h]; rfl

set_option linter.unusedSimpArgs false in
theorem zwhite_c (c : Nat) (w : World) (hc : c < 256) : Calls Tryd.prog 52 #[.int .u8 (c : Int)] w fun e w' => e = .returned (.bool (white c)) ∧ w' = w := by
  have e : white c = ((decide (9 ≤ (c : Int)) && decide ((c : Int) ≤ 13)) || decide ((c : Int) = 32)) := (whiteI_nat c).symm
  rw [e]
  by_cases h1 : 9 ≤ c
  · by_cases h2 : c ≤ 13
    · have d1 : (9 : Int) ≤ (c : Int) := by omega
      have d2 : (c : Int) ≤ 13 := by omega
      go_enter Tryd.func52, Tryd.ntmps52
      go_wp2_with fail
      go_ret
      exact ⟨by simp [d1, d2], rfl⟩
    · have d1 : (9 : Int) ≤ (c : Int) := by omega
      have d2 : ¬ (c : Int) ≤ 13 := by omega
      by_cases h3 : c = 32
      · subst h3
        go_enter Tryd.func52, Tryd.ntmps52
        go_wp2_with fail
        go_ret
        exact ⟨by simp, rfl⟩
      · have d3 : ((c : Int) == 32) = false := by simp; omega
        have d4 : ¬ (c : Int) = 32 := by omega
        go_enter Tryd.func52, Tryd.ntmps52
        go_wp2_with fail
        go_ret
        exact ⟨by simp [d2, d4], rfl⟩
  · have d1 : ¬ (9 : Int) ≤ (c : Int) := by omega
    have d3 : ((c : Int) == 32) = false := by simp; omega
    have d4 : ¬ (c : Int) = 32 := by omega
    go_enter Tryd.func52, Tryd.ntmps52
    go_wp2_with fail
    go_ret
    exact ⟨by simp [d4]; omega, rfl⟩

set_option linter.unusedSimpArgs false in
theorem zdigit_c (c : Nat) (w : World) (hc : c < 256) : Calls Tryd.prog 51 #[.int .u8 (c : Int)] w fun e w' => e = .returned (.bool (digit c)) ∧ w' = w := by
  have e : digit c = (decide (48 ≤ (c : Int)) && decide ((c : Int) ≤ 57)) := (digitI_nat c).symm
  rw [e]
  by_cases h1 : 48 ≤ c
  · have d1 : (48 : Int) ≤ (c : Int) := by omega
    by_cases h2 : c ≤ 57
    · have d2 : (c : Int) ≤ 57 := by omega
      go_enter Tryd.func51, Tryd.ntmps51
      go_wp2_with fail
      go_ret
      exact ⟨by simp [d1, d2], rfl⟩
    · have d2 : ¬ (c : Int) ≤ 57 := by omega
      go_enter Tryd.func51, Tryd.ntmps51
      go_wp2_with fail
      go_ret
      exact ⟨by simp [d2], rfl⟩
  · have d1 : ¬ (48 : Int) ≤ (c : Int) := by omega
    go_enter Tryd.func51, Tryd.ntmps51
    go_wp2_with fail
    go_ret
    exact ⟨by simp; omega, rfl⟩

/-- Bytes that are read. -/
structure By8 (w : World) (ao : Option Addr) (l : List Nat) : Prop where
  lim : l.length ≤ 1073741824
  byt : ∀ x ∈ l, x < 256
  cell : l ≠ [] → ∃ b off, ao = some ⟨b, off, none⟩ ∧ ∀ j, j < l.length → w.cell? ⟨b, off + j, none⟩ = some (.int .u8 (l[j]?.getD 0 : Nat))

set_option maxHeartbeats 1000000 in
theorem passed_any (ao : Option Addr) (cap : Nat) (l : List Nat) (a : Nat) (w : World) (h : By8 w ao l) (ha : a ≤ l.length) :
    Calls Tryd.prog 50 #[.slice ao l.length cap, .int .i64 (a : Int)] w fun e w' => (∃ b : Nat, e = .returned (.int .i64 (b : Int)) ∧ b ≤ l.length ∧ a ≤ b ∧ l.drop b = gapS false (l.drop a)) ∧ w' = w := by
  have HB : Hid (By8 w ao l) := h
  have hlim := h.lim
  obtain ⟨n, hn⟩ : ∃ n, n = l.length := ⟨_, rfl⟩
  have HN : Hid (n = l.length) := hn
  rw [← hn] at hlim ha ⊢
  clear h hn
  go_enter Tryd.func50, Tryd.ntmps50
  go_wp2_with fail
  go_loopg [1] (n - a) (fun q av wr => ∃ b : Nat, b + q = n ∧ a ≤ b ∧ av = .int .i64 (b : Int) ∧ gapS false (l.drop b) = gapS false (l.drop a) ∧ wr = w)
  case atStart => exact ⟨a, by omega, Nat.le_refl _, rfl, rfl, rfl⟩
  case round =>
    obtain ⟨b, hbq, hab, rfl, hg, rfl⟩ := hrel
    have HG : Hid (gapS false (l.drop b) = gapS false (l.drop a)) := hg
    clear hg
    rcases hr : l.drop b with _ | ⟨c, r⟩
    · have hbn : b = n := by
        have : (l.drop b).length = 0 := by rw [hr]; rfl
        rw [List.length_drop, ← HN.out] at this
        omega
      subst hbn
      have HE : Hid (l.drop b = []) := hr
      clear hr
      go_wp2_with fail
      go_ret
      refine ⟨⟨b, rfl, Nat.le_refl _, hab, ?_⟩, rfl⟩
      rw [← HG.out, HE.out]; rfl
    · obtain ⟨hlt, hget, hd, hmem⟩ := drop_cons hr
      rw [← HN.out] at hlt
      have hc := HB.out.byt c hmem
      obtain ⟨bb, off, rfl, hcc⟩ := HB.out.cell (by intro e; rw [e] at hmem; cases hmem)
      have hcell := hcc b (by rw [← HN.out]; exact hlt)
      rw [hget] at hcell
      have HCC : Hid (∀ j, j < l.length → wr.cell? ⟨bb, off + j, none⟩ = some (.int .u8 (l[j]?.getD 0 : Nat))) := hcc
      have HE : Hid (l.drop b = c :: r) := hr
      have HD : Hid (l.drop (b + 1) = r) := hd
      have hdn : decide (b < n) = true := decide_eq_true hlt
      have hdn2 : decide ((b : Int) < (n : Int)) = true := decide_eq_true (by omega)
      have hbI : (b : Int) < (n : Int) := by omega
      clear hr hd hget hmem hcc
      by_cases h35 : c = 35
      · subst h35
        go_wp2_with fail
        refine Calls.mono (zwhite_c 35 _ (by decide)) ?_
        rintro e w1 ⟨rfl, rfl⟩
        rw [show white 35 = false from rfl]
        go_wp2_with fail
        go_loopg [1] (n - b) (fun q av ws => ∃ b1 : Nat, b1 + q = n ∧ b ≤ b1 ∧ av = .int .i64 (b1 : Int) ∧ gapS true (l.drop b1) = gapS false (l.drop a) ∧ ws = w1)
        case atStart =>
          refine ⟨b, by omega, Nat.le_refl _, rfl, ?_, rfl⟩
          rw [← HG.out, HE.out]; rfl
        case round =>
          clear hcell
          obtain ⟨b1, hb1q, hbb1, rfl, hg1, rfl⟩ := hrel
          have HG1 : Hid (gapS true (l.drop b1) = gapS false (l.drop a)) := hg1
          clear hg1 hdn hdn2
          rcases hr1 : l.drop b1 with _ | ⟨c1, r1⟩
          · have hbn : b1 = n := by
              have : (l.drop b1).length = 0 := by rw [hr1]; rfl
              rw [List.length_drop, ← HN.out] at this
              omega
            have HBN : Hid (b1 = n) := hbn
            have hdm : decide (b1 < n) = false := decide_eq_false (by omega)
            have hdm2 : decide ((b1 : Int) < (n : Int)) = false := decide_eq_false (by omega)
            have HE1 : Hid (l.drop b1 = []) := hr1
            clear hr1 hbn
            go_wp2_with fail
            go_roundg (n - b1)
            case measure => have := HBN.out; omega
            case rel => exact ⟨b1, by have := HBN.out; omega, by omega, rfl, by rw [← HG1.out, HE1.out]; rfl, rfl⟩
          · obtain ⟨hlt1, hget1, hd1, hmem1⟩ := drop_cons hr1
            rw [← HN.out] at hlt1
            have hc1 := HB.out.byt c1 hmem1
            have hcell1 := HCC.out b1 (by rw [← HN.out]; exact hlt1)
            rw [hget1] at hcell1
            have HE1 : Hid (l.drop b1 = c1 :: r1) := hr1
            have HD1 : Hid (l.drop (b1 + 1) = r1) := hd1
            have hdm : decide (b1 < n) = true := decide_eq_true hlt1
            have hdm2 : decide ((b1 : Int) < (n : Int)) = true := decide_eq_true (by omega)
            have hbI1 : (b1 : Int) < (n : Int) := by omega
            clear hr1 hd1 hget1 hmem1
            by_cases h10 : c1 = 10
            · subst h10
              go_wp2_with fail
              go_roundg (n - (b1 + 1))
              case measure => omega
              case rel => exact ⟨b1 + 1, by omega, by omega, congrArg (Value.int .i64) (by omega), by rw [← HG1.out, HE1.out, HD1.out]; rfl, rfl⟩
            · have h10b : ((c1 : Int) != 10) = true := by simp; omega
              go_wp2_with fail
              go_roundg (n - (b1 + 1))
              case measure => omega
              case rel => exact ⟨b1 + 1, by omega, by omega, congrArg (Value.int .i64) (by omega), by rw [← HG1.out, HE1.out, HD1.out]; show _ = (if c1 = 10 then _ else _); rw [if_neg h10], rfl⟩
      · have h35b : ((c : Int) == 35) = false := by simp; omega
        go_wp2_with fail
        refine Calls.mono (zwhite_c c _ hc) ?_
        rintro e w1 ⟨rfl, rfl⟩
        cases hw : white c
        · go_wp2_with fail
          go_ret
          refine ⟨⟨b, rfl, by omega, hab, ?_⟩, rfl⟩
          rw [← HG.out, HE.out]
          show _ = (if c = 35 then _ else if white c = true then _ else _)
          rw [if_neg h35, if_neg (by rw [hw]; simp)]
        · go_wp2_with fail
          go_roundg (n - (b + 1))
          case measure => omega
          case rel =>
            refine ⟨b + 1, by omega, by omega, congrArg (Value.int .i64) (by omega), ?_, rfl⟩
            rw [← HG.out, HE.out, HD.out]
            show _ = (if c = 35 then _ else if white c = true then _ else _)
            rw [if_neg h35, if_pos hw]
end Go.Proofs.YtpfajkkjnobdlaaDoor
