/- 'gatherGroups': a number's groups, read. -/
import Derived.Test.YtamonbkhpbdojaaDoorGather64
import Derived.Test.YtamonbkhpbdojaaDoorGroups
namespace Go.Proofs.YtamonbkhpbdojaaDoor
set_option maxRecDepth 100000
open Go.RowKit

/-- What is read of a number's groups: the number, the error, where the reader then stands. -/
def rvarF (l : List Nat) : Nat → Nat → Nat → Nat → Nat × Nat × Nat
  | 0, _, _, p => (0, 16, p)
  | f + 1, place, n, p =>
    if 8 * l.length < p + 8 then (0, 14, p)
    else if place = 9 ∧ 1 < num (nextBits l p 8) ∨ 0 < place ∧ num (nextBits l p 8) = 0 then (0, 16, p + 8)
    else if num (nextBits l p 8) < 128 then (n + num (nextBits l p 8) % 128 * 2 ^ (7 * place), 0, p + 8)
    else rvarF l f (place + 1) (n + num (nextBits l p 8) % 128 * 2 ^ (7 * place)) (p + 8)

def rvar (l : List Nat) (p : Nat) : Nat × Nat × Nat := rvarF l 10 0 0 p

theorem rvarF_end (l : List Nat) (f place n p : Nat) (h : 8 * l.length < p + 8) : rvarF l (f + 1) place n p = (0, 14, p) := by
  simp only [rvarF]; rw [if_pos h]
theorem rvarF_form (l : List Nat) (f place n p : Nat) (h : ¬ 8 * l.length < p + 8) (hf : place = 9 ∧ 1 < num (nextBits l p 8) ∨ 0 < place ∧ num (nextBits l p 8) = 0) : rvarF l (f + 1) place n p = (0, 16, p + 8) := by
  simp only [rvarF]; rw [if_neg h, if_pos hf]
theorem rvarF_last (l : List Nat) (f place n p : Nat) (h : ¬ 8 * l.length < p + 8) (hf : ¬ (place = 9 ∧ 1 < num (nextBits l p 8) ∨ 0 < place ∧ num (nextBits l p 8) = 0)) (hg : num (nextBits l p 8) < 128) : rvarF l (f + 1) place n p = (n + num (nextBits l p 8) % 128 * 2 ^ (7 * place), 0, p + 8) := by
  simp only [rvarF]; rw [if_neg h, if_neg hf, if_pos hg]
theorem rvarF_more (l : List Nat) (f place n p : Nat) (h : ¬ 8 * l.length < p + 8) (hf : ¬ (place = 9 ∧ 1 < num (nextBits l p 8) ∨ 0 < place ∧ num (nextBits l p 8) = 0)) (hg : ¬ num (nextBits l p 8) < 128) : rvarF l (f + 1) place n p = rvarF l f (place + 1) (n + num (nextBits l p 8) % 128 * 2 ^ (7 * place)) (p + 8) := by
  simp only [rvarF]; rw [if_neg h, if_neg hf, if_neg hg]

theorem gather8_any' (br : Nat) (v : Value) (l : List Nat) (pos wd : Nat) (y : Int) (w : World) (hy : y = wd) (h : RAt w br v l pos) (hw : wd ≤ 8) (hf : pos + wd ≤ 8 * l.length) :
    Calls Tryd.prog 78 #[.pointer (some ⟨br, 0, none⟩), .int .i64 y] w fun e w' => e = .returned (.tuple #[.int .u8 (num (nextBits l pos wd)), .int .i64 0]) ∧ RAt w' br v l (pos + wd) ∧ Fr (fun k => k = br) w w' := by
  subst hy; exact gather8_any br v l pos wd w h hw hf
theorem gather8_end' (br : Nat) (v : Value) (l : List Nat) (pos wd : Nat) (y : Int) (w : World) (hy : y = wd) (h : RAt w br v l pos) (hw : wd ≤ 64) (hf : 8 * l.length < pos + wd) :
    Calls Tryd.prog 78 #[.pointer (some ⟨br, 0, none⟩), .int .i64 y] w fun e w' => e = .returned (.tuple #[.int .u8 0, .int .i64 14]) ∧ ∃ q, w' = w.drewN q := by
  subst hy; exact gather8_end br v l pos wd w h hw hf

theorem place_pow (n g place : Nat) (hn : n < 2 ^ (7 * place)) : n + g % 128 * 2 ^ (7 * place) < 2 ^ (7 * (place + 1)) := by
  have h1 : g % 128 * 2 ^ (7 * place) ≤ 127 * 2 ^ (7 * place) := Nat.mul_le_mul_right _ (by omega)
  have h2 : 2 ^ (7 * (place + 1)) = 128 * 2 ^ (7 * place) := by rw [show 7 * (place + 1) = 7 * place + 7 from by omega, Nat.pow_add, Nat.mul_comm]
  omega

theorem place_num (n g place : Nat) (hn : n < 2 ^ (7 * place)) (hp : place < 9 ∨ place = 9 ∧ g ≤ 1) : bits .or .u64 (n : Int) (IntKind.u64.wrap ((g : Int) % 128 * 2 ^ (7 * place))) = ((n + g % 128 * 2 ^ (7 * place) : Nat) : Int) := by
  have e1 : ((g : Int) % 128 * 2 ^ (7 * place)) = ((g % 128 * 2 ^ (7 * place) : Nat) : Int) := by simp
  have hlt : g % 128 * 2 ^ (7 * place) < 18446744073709551616 := by
    rcases hp with h | ⟨rfl, h⟩
    · have h1 : g % 128 * 2 ^ (7 * place) < 128 * 2 ^ (7 * place) := Nat.mul_lt_mul_of_pos_right (by omega) (Nat.pow_pos (by omega))
      have h2 : 128 * 2 ^ (7 * place) = 2 ^ (7 * place + 7) := by rw [Nat.pow_add, Nat.mul_comm]
      have h3 : 2 ^ (7 * place + 7) ≤ 2 ^ 63 := Nat.pow_le_pow_right (by omega) (by omega)
      omega
    · have : g % 128 * 2 ^ (7 * 9) ≤ 1 * 2 ^ (7 * 9) := Nat.mul_le_mul_right _ (by omega)
      omega
  have hn2 : n < 18446744073709551616 := by
    have h3 : 2 ^ (7 * place) ≤ 2 ^ 63 := Nat.pow_le_pow_right (by omega) (by omega)
    omega
  rw [e1, wrapu64_nat _ hlt, u64_or_nat _ _ hn2 hlt, Nat.or_comm, or_shift _ _ _ hn, Nat.add_comm]

theorem place_num9 (n : Nat) (hn : n < 2 ^ (7 * 9)) : bits .or .u64 (n : Int) 9223372036854775808 = ((n + 1 % 128 * 2 ^ (7 * 9) : Nat) : Int) := by
  have h := u64_or_nat n (1 * 2 ^ 63) (by omega) (by decide)
  rw [Nat.or_comm, or_shift _ _ _ hn, Nat.add_comm] at h
  exact h
theorem place_num0 (n g : Nat) (hn : n < 2 ^ (7 * 0)) : bits .or .u64 (n : Int) ((g : Int) % 128) = ((n + g % 128 * 2 ^ (7 * 0) : Nat) : Int) := by
  have h := place_num n g 0 hn (Or.inl (by omega))
  have e : IntKind.u64.wrap ((g : Int) % 128 * 2 ^ (7 * 0)) = (g : Int) % 128 := by
    rw [IntKind.wrap_u64]; omega
  rw [e] at h
  exact h
theorem ret_pair {k : IntKind} {a b : Int} {x : Value} (h : a = b) : Ending.returned (.tuple #[.int k a, x]) = .returned (.tuple #[.int k b, x]) := by rw [h]

set_option maxRecDepth 100000 in
set_option maxHeartbeats 2000000 in
theorem gatherGroups_any (br : Nat) (v : Value) (l : List Nat) (pos : Nat) (w : World) (h : RAt w br v l pos) :
    Calls Tryd.prog 74 #[.pointer (some ⟨br, 0, none⟩)] w fun e w' => e = .returned (.tuple #[.int .u64 (rvar l pos).1, .int .i64 (rvar l pos).2.1]) ∧ RAt w' br v l (rvar l pos).2.2 ∧ Fr (fun k => k = br) w w' := by
  go_enter Tryd.func74, Tryd.ntmps74
  go_wp2
  go_loopw [4, 5, 6, 7] (fun s t _ _ wr => ∃ (place n p : Nat), place ≤ 9 ∧ Hid (n < 2 ^ (7 * place)) ∧ s = .int .u64 n ∧ t = .int .i64 place ∧ Hid (rvar l pos = rvarF l (9 - place + 1) place n p) ∧ RAt wr br v l p ∧ Fr (fun k => k = br) w wr) (fun _ t _ _ _ => 10 - (intOf t).toNat)
  case atStart => exact ⟨0, 0, pos, by omega, (by decide : (0 : Nat) < 2 ^ (7 * 0)), rfl, rfl, rfl, h, Fr.refl _ _⟩
  case round =>
    obtain ⟨place, n, p, hpl, HN, rfl, rfl, HQ, hat, hfr⟩ := hrel
    have HS : Hid (Fr (fun k => k = br) w wr) := hfr
    have HR : Hid (RAt wr br v l p) := hat
    clear hat hfr h
    by_cases hE : 8 * l.length < p + 8
    · have HE : Hid (8 * l.length < p + 8) := hE
      clear hE
      go_wp2_with fail
      refine (gather8_end' br v l p 8 _ _ rfl HR.out (by omega) HE.out).mono ?_
      rintro e w1 ⟨rfl, q, rfl⟩
      have HF : Hid (rvar l pos = (0, 14, p)) := HQ.out.trans (rvarF_end _ _ _ _ _ HE.out)
      go_wp2_with fail
      go_ret2
      rw [HF.out]
      exact ⟨rfl, HR.out.drewN q, HS.out.drewN q⟩
    · have HE : Hid (¬ 8 * l.length < p + 8) := hE
      clear hE
      go_wp2_with fail
      refine (gather8_any' br v l p 8 _ _ rfl HR.out (by omega) (by have := HE.out; omega)).mono ?_
      rintro e w1 ⟨rfl, hat1, hfr1⟩
      have HR1 : Hid (RAt w1 br v l (p + 8)) := hat1
      have HS1 : Hid (Fr (fun k => k = br) w w1) := HS.out.trans hfr1 (fun _ _ hh => hh)
      have hG : num (nextBits l p 8) < 256 := by
        have := num_lt (nextBits l p 8); rw [length_nextBits _ _ _ (by have := HE.out; omega)] at this; exact this
      have HF := rvarF_form l (9 - place) place n p HE.out
      have HL := rvarF_last l (9 - place) place n p HE.out
      have HM := rvarF_more l (9 - place) place n p HE.out
      rw [← HQ.out] at HF HL HM
      generalize num (nextBits l p 8) = G at *
      have KF : Hid (place = 9 ∧ 1 < G ∨ 0 < place ∧ G = 0 → rvar l pos = (0, 16, p + 8)) := HF
      have KL : Hid (¬ (place = 9 ∧ 1 < G ∨ 0 < place ∧ G = 0) → G < 128 → rvar l pos = (n + G % 128 * 2 ^ (7 * place), 0, p + 8)) := HL
      have KM : Hid (¬ (place = 9 ∧ 1 < G ∨ 0 < place ∧ G = 0) → ¬ G < 128 → rvar l pos = rvarF l (9 - place) (place + 1) (n + G % 128 * 2 ^ (7 * place)) (p + 8)) := HM
      clear hat1 hfr1 HE HQ HF HL HM
      by_cases h9 : place = 9
      · subst h9
        by_cases hg1 : 1 < G
        · have HF : Hid (rvar l pos = (0, 16, p + 8)) := KF.out (Or.inl ⟨rfl, hg1⟩)
          clear KF KL KM
          go_wp2_with fail
          go_ret2
          rw [HF.out]
          exact ⟨rfl, HR1.out, HS1.out⟩
        · by_cases hz : G = 0
          · subst hz
            have HF : Hid (rvar l pos = (0, 16, p + 8)) := KF.out (Or.inr ⟨by omega, rfl⟩)
            clear KF KL KM
            go_wp2_with fail
            go_ret2
            rw [HF.out]
            exact ⟨rfl, HR1.out, HS1.out⟩
          · have hz1 : G = 1 := by omega
            subst hz1
            have HF : Hid (rvar l pos = (n + 1 % 128 * 2 ^ (7 * 9), 0, p + 8)) := KL.out (by omega) (by omega)
            clear KF KL KM
            go_wp2_with fail
            go_ret2
            rw [HF.out]
            exact ⟨ret_pair (place_num9 n HN.out), HR1.out, HS1.out⟩
      · have h9' : ((place : Int) == 9) = false := by simp; omega
        by_cases h0 : place = 0
        · subst h0
          by_cases hg : G < 128
          · have HF : Hid (rvar l pos = (n + G % 128 * 2 ^ (7 * 0), 0, p + 8)) := KL.out (by omega) hg
            clear KF KL KM
            go_wp2_with fail
            go_ret2
            rw [HF.out]
            exact ⟨ret_pair (place_num0 n G HN.out), HR1.out, HS1.out⟩
          · have HF : Hid (rvar l pos = rvarF l (9 - 0) (0 + 1) (n + G % 128 * 2 ^ (7 * 0)) (p + 8)) := KM.out (by omega) hg
            clear KF KL KM
            go_wp2_with fail
            go_roundw
            case rel => exact ⟨1, n + G % 128 * 2 ^ (7 * 0), p + 8, by omega, place_pow n G 0 HN.out, congrArg (Value.int .u64) (place_num0 n G HN.out), rfl, HF, HR1.out, HS1.out⟩
            case measure => simp [intOf]
        · have h0' : 0 < place := by omega
          by_cases hz : G = 0
          · subst hz
            have HF : Hid (rvar l pos = (0, 16, p + 8)) := KF.out (Or.inr ⟨h0', rfl⟩)
            clear KF KL KM
            go_wp2_with fail
            go_ret2
            rw [HF.out]
            exact ⟨rfl, HR1.out, HS1.out⟩
          · have hz' : ((G : Int) == 0) = false := by simp; omega
            by_cases hg : G < 128
            · have HF : Hid (rvar l pos = (n + G % 128 * 2 ^ (7 * place), 0, p + 8)) := KL.out (by omega) hg
              clear KF KL KM
              go_wp2_with fail
              go_ret2
              rw [HF.out]
              exact ⟨ret_pair (place_num n G place HN.out (Or.inl (by omega))), HR1.out, HS1.out⟩
            · have HF : Hid (rvar l pos = rvarF l (9 - (place + 1) + 1) (place + 1) (n + G % 128 * 2 ^ (7 * place)) (p + 8)) := by
                have := KM.out (by omega) hg
                rw [show 9 - (place + 1) + 1 = 9 - place from by omega]
                exact this
              clear KF KL KM
              go_wp2_with fail
              go_roundw
              case rel => exact ⟨place + 1, n + G % 128 * 2 ^ (7 * place), p + 8, by omega, place_pow n G place HN.out, congrArg (Value.int .u64) (place_num n G place HN.out (Or.inl (by omega))), congrArg (Value.int .i64) (by omega), HF, HR1.out, HS1.out⟩
              case measure => simp [intOf]; omega

end Go.Proofs.YtamonbkhpbdojaaDoor
