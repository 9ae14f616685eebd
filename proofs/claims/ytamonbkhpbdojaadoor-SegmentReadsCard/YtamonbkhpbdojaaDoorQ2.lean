/- The plain reader's 'Take'. -/
import Derived.Test.YtamonbkhpbdojaaDoorQ
namespace Go.Proofs.YtamonbkhpbdojaaDoor
set_option maxRecDepth 100000
open Go.RowKit

theorem and_bit8 (x j : Nat) (hx : x < 256) : bits .and .u8 ((x : Int) / 2 ^ j) 1 = ((x / 2 ^ j % 2 : Nat) : Int) := by
  have hm : x / 2 ^ j < 256 := Nat.lt_of_le_of_lt (Nat.div_le_self _ _) hx
  have e : ((x : Int) / 2 ^ j) = ((x / 2 ^ j : Nat) : Int) := by simp
  have h := u8_and_nat (x / 2 ^ j) 1 hm (by omega)
  rw [e]
  rw [Nat.and_one_is_mod] at h
  exact h

set_option maxRecDepth 100000 in
set_option maxHeartbeats 2000000 in
theorem qtake_any (bq : Nat) (ao : Option Addr) (cap : Nat) (l : List Nat) (pos wd : Nat) (w : World) (h : QAt w bq ao cap l pos) (hw : wd ≤ 64) (hf : pos + wd ≤ 8 * l.length) :
    Calls Tryd.prog 48 #[.pointer (some ⟨bq, 0, none⟩), .int .i64 wd] w fun e w' => e = .returned (.tuple #[.int .u64 (num (nextBits l pos wd)), .int .i64 0]) ∧ QAt w' bq ao cap l (pos + wd) ∧ Fr (fun k => k = bq) w w' := by
  have HA : Hid (QAt w bq ao cap l pos) := h
  have hle := h.le
  have hlim := h.lim
  clear h
  go_enter Tryd.func48, Tryd.ntmps48
  go_wp2_with fail
  refine (qleft_any bq ao cap l pos _ HA.out).mono ?_
  rintro e w1 ⟨rfl, q, rfl⟩
  have hlf : wd ≤ 8 * l.length - pos := by omega
  generalize 8 * l.length - pos = lf at hlf
  have ht : decide (lf < wd) = false := by simp; omega
  go_wp2_with fail
  go_loopw [6, 7] (fun n t wr => ∃ k : Nat, k ≤ wd ∧ t = .int .i64 k ∧ n = .int .u64 (num (nextBits l pos k)) ∧ QAt wr bq ao cap l (pos + k) ∧ Fr (fun k => k = bq) w wr) (fun _ t _ => wd - (intOf t).toNat)
  case atStart => exact ⟨0, Nat.zero_le _, rfl, rfl, HA.out.drewN _, (Fr.refl _ _).drewN _⟩
  case round =>
    obtain ⟨k, hk, rfl, rfl, hat, hfr⟩ := hrel
    have HS : Hid (Fr (fun k => k = bq) w wr) := hfr
    have HR : Hid (QAt wr bq ao cap l (pos + k)) := hat
    by_cases hlt : k < wd
    · obtain ⟨c0, c1, cf⟩ := cell_of_two hat.blk
      have hne : l ≠ [] := by intro e; rw [e] at hf; simp at hf; omega
      obtain ⟨b, off, rfl, hc⟩ := hat.seen hne
      have hcx := hc ((pos + k) / 8) (by omega)
      have hx : l[(pos + k) / 8]?.getD 0 < 256 := by
        rw [List.getElem?_eq_getElem (by omega)]
        exact hat.byt _ (List.getElem_mem _)
      have HM : Hid (num (nextBits l pos (k + 1)) = 2 * num (nextBits l pos k) + l[(pos + k) / 8]?.getD 0 / 2 ^ (7 - (pos + k) % 8) % 2) := num_one_more l pos k (by omega)
      have HNL : Hid (num (nextBits l pos (k + 1)) < 18446744073709551616) := by
        have h1 := num_lt (nextBits l pos (k + 1))
        rw [length_nextBits _ _ _ (by omega)] at h1
        exact Nat.lt_of_lt_of_le h1 (Nat.pow_le_pow_right (by omega) (show k + 1 ≤ 64 from by omega))
      have hand := and_bit8 (l[(pos + k) / 8]?.getD 0) (7 - (pos + k) % 8) hx
      have hPle : pos + k + 1 ≤ 8 * l.length := by omega
      generalize l[(pos + k) / 8]?.getD 0 = X at hcx hx HM hand
      have HPe : Hid (pos + (k + 1) = pos + k + 1) := by show _ = _; omega
      generalize pos + k = P at c1 hcx HR HM hand hPle HPe
      generalize num (nextBits l pos k) = NN at HM ⊢
      obtain ⟨xb, hxb⟩ : ∃ xb, xb = X / 2 ^ (7 - P % 8) % 2 := ⟨_, rfl⟩
      rw [← hxb] at hand HM
      have hxl : xb ≤ 1 := by omega
      have HN2 : Hid (2 * NN + xb < 18446744073709551616) := by show _ < _; rw [← HM.out]; exact HNL.out
      have hw1 : IntKind.u64.wrap (2 * (NN : Int)) = ((2 * NN : Nat) : Int) := by
        rw [show (2 * (NN : Int)) = ((2 * NN : Nat) : Int) from by simp]; exact wrapu64_nat _ (by have := HN2.out; omega)
      clear hat hfr hc hxb HNL
      go_wp2
      go_quiet (fail)
      go_wp2
      have hval : IntKind.u64.wrap (2 * (NN : Int) + (xb : Int)) = ((2 * NN + xb : Nat) : Int) := by
        rw [show (2 * (NN : Int) + (xb : Int)) = ((2 * NN + xb : Nat) : Int) from by simp]; exact wrapu64_nat _ HN2.out
      go_roundw
      case rel => exact ⟨k + 1, by omega, congrArg (Value.int .i64) (by omega), by rw [HM.out]; exact congrArg (Value.int .u64) hval, by rw [HPe.out]; exact (HR.out.drewN nq).moved (by omega) (by omega), (HS.out.drewN nq).setCell (fun _ => rfl) _⟩
      case measure => simp [intOf]; omega
    · have hkw : k = wd := by omega
      subst hkw
      go_wp2
      go_ret2
      exact ⟨rfl, hat, hfr⟩

theorem qtake_any' (bq : Nat) (ao : Option Addr) (cap : Nat) (l : List Nat) (pos wd : Nat) (y : Int) (w : World) (hy : y = wd) (h : QAt w bq ao cap l pos) (hw : wd ≤ 64) (hf : pos + wd ≤ 8 * l.length) :
    Calls Tryd.prog 48 #[.pointer (some ⟨bq, 0, none⟩), .int .i64 y] w fun e w' => e = .returned (.tuple #[.int .u64 (num (nextBits l pos wd)), .int .i64 0]) ∧ QAt w' bq ao cap l (pos + wd) ∧ Fr (fun k => k = bq) w w' := by
  subst hy; exact qtake_any bq ao cap l pos wd w h hw hf
theorem qtake_end' (bq : Nat) (ao : Option Addr) (cap : Nat) (l : List Nat) (pos wd : Nat) (y : Int) (w : World) (hy : y = wd) (h : QAt w bq ao cap l pos) (hw : wd ≤ 64) (hf : 8 * l.length < pos + wd) :
    Calls Tryd.prog 48 #[.pointer (some ⟨bq, 0, none⟩), .int .i64 y] w fun e w' => e = .returned (.tuple #[.int .u64 0, .int .i64 14]) ∧ ∃ q, w' = w.drewN q := by
  subst hy; exact qtake_end bq ao cap l pos wd w h hw hf

theorem place_sum (n g place : Nat) (hn : n < 2 ^ (7 * place)) (hp : place < 9 ∨ place = 9 ∧ g ≤ 1) : IntKind.u64.wrap ((n : Int) + IntKind.u64.wrap ((g : Int) % 128 * 2 ^ (7 * place))) = ((n + g % 128 * 2 ^ (7 * place) : Nat) : Int) := by
  have e1 : ((g : Int) % 128 * 2 ^ (7 * place)) = ((g % 128 * 2 ^ (7 * place) : Nat) : Int) := by simp
  have hlt : n + g % 128 * 2 ^ (7 * place) < 18446744073709551616 := by
    rcases hp with h | ⟨rfl, h⟩
    · have h1 := place_pow n g place hn
      have h3 : 2 ^ (7 * (place + 1)) ≤ 2 ^ 63 := Nat.pow_le_pow_right (by omega) (by omega)
      omega
    · have : g % 128 * 2 ^ (7 * 9) ≤ 1 * 2 ^ (7 * 9) := Nat.mul_le_mul_right _ (by omega)
      omega
  rw [e1, wrapu64_nat _ (by omega), show ((n : Int) + ((g % 128 * 2 ^ (7 * place) : Nat) : Int)) = ((n + g % 128 * 2 ^ (7 * place) : Nat) : Int) from by simp, wrapu64_nat _ hlt]

theorem sum_num9 (n : Nat) (hn : n < 2 ^ (7 * 9)) : IntKind.u64.wrap ((n : Int) + 9223372036854775808) = ((n + 1 % 128 * 2 ^ (7 * 9) : Nat) : Int) := by
  rw [IntKind.wrap_u64]; omega
theorem sum_num0 (n g : Nat) (hn : n < 2 ^ (7 * 0)) : IntKind.u64.wrap ((n : Int) + (g : Int) % 128) = ((n + g % 128 * 2 ^ (7 * 0) : Nat) : Int) := by
  rw [IntKind.wrap_u64]; omega

set_option maxRecDepth 100000 in
set_option maxHeartbeats 4000000 in
theorem qvar_any (bq : Nat) (ao : Option Addr) (cap : Nat) (l : List Nat) (pos n0 er p2 : Nat) (w : World) (h : QAt w bq ao cap l pos) (hq : Hid (rvar l pos = (n0, er, p2))) :
    Calls Tryd.prog 47 #[.pointer (some ⟨bq, 0, none⟩)] w fun e w' => e = .returned (.tuple #[.int .u64 n0, .int .i64 er]) ∧ QAt w' bq ao cap l (backTo er p2 pos) ∧ Fr (fun k => k = bq) w w' := by
  obtain ⟨c0, c1, cf⟩ := cell_of_two h.blk
  have HPL : Hid (pos ≤ 8 * l.length) := h.le
  go_enter Tryd.func47, Tryd.ntmps47
  go_wp2
  go_loopw [5, 6, 7, 8] (fun s t _ _ wr => ∃ (place n p : Nat), place ≤ 9 ∧ Hid (n < 2 ^ (7 * place)) ∧ s = .int .u64 n ∧ t = .int .i64 place ∧ Hid (rvar l pos = rvarF l (9 - place + 1) place n p) ∧ QAt wr bq ao cap l p ∧ Fr (fun k => k = bq) w wr) (fun _ t _ _ _ => 10 - (intOf t).toNat)
  case atStart => exact ⟨0, 0, pos, by omega, (by decide : (0 : Nat) < 2 ^ (7 * 0)), rfl, rfl, rfl, h, Fr.refl _ _⟩
  case round =>
    obtain ⟨place, n, p, hpl, HN, rfl, rfl, HQ, hat, hfr⟩ := hrel
    have HS : Hid (Fr (fun k => k = bq) w wr) := hfr
    have HR : Hid (QAt wr bq ao cap l p) := hat
    clear hat hfr h c0 c1 cf
    by_cases hE : 8 * l.length < p + 8
    · have HE : Hid (8 * l.length < p + 8) := hE
      clear hE
      go_wp2_with fail
      refine (qtake_end' bq ao cap l p 8 _ _ rfl HR.out (by omega) HE.out).mono ?_
      rintro e w1 ⟨rfl, q, hw1⟩
      have HF : Hid ((n0, er, p2) = (0, 14, p)) := hq.out.symm.trans (HQ.out.trans (rvarF_end _ _ _ _ _ HE.out))
      have HR1 : Hid (QAt w1 bq ao cap l p) := by rw [hw1]; exact HR.out.drewN q
      have HS1 : Hid (Fr (fun k => k = bq) w w1) := by rw [hw1]; exact HS.out.drewN q
      obtain ⟨d0, d1, df⟩ := cell_of_two HR1.out.blk
      clear hw1
      go_wp2_with fail
      go_ret2
      have hf := HF.out
      simp only [Prod.mk.injEq] at hf
      obtain ⟨rfl, rfl, rfl⟩ := hf
      exact ⟨rfl, by rw [backTo_back _ _ _ (by omega)]; exact HR1.out.moved rfl HPL.out, HS1.out.setCell (fun _ => rfl) _⟩
    · have HE : Hid (¬ 8 * l.length < p + 8) := hE
      clear hE
      go_wp2_with fail
      refine (qtake_any' bq ao cap l p 8 _ _ rfl HR.out (by omega) (by have := HE.out; omega)).mono ?_
      rintro e w1 ⟨rfl, hat1, hfr1⟩
      have HR1 : Hid (QAt w1 bq ao cap l (p + 8)) := hat1
      have HS1 : Hid (Fr (fun k => k = bq) w w1) := HS.out.trans hfr1 (fun _ _ hh => hh)
      obtain ⟨d0, d1, df⟩ := cell_of_two hat1.blk
      have hG : num (nextBits l p 8) < 256 := by
        have := num_lt (nextBits l p 8); rw [length_nextBits _ _ _ (by have := HE.out; omega)] at this; exact this
      have HF := rvarF_form l (9 - place) place n p HE.out
      have HL := rvarF_last l (9 - place) place n p HE.out
      have HM := rvarF_more l (9 - place) place n p HE.out
      rw [← HQ.out] at HF HL HM
      generalize num (nextBits l p 8) = G at *
      have KF : Hid (place = 9 ∧ 1 < G ∨ 0 < place ∧ G = 0 → (n0, er, p2) = (0, 16, p + 8)) := fun hh => hq.out.symm.trans (HF hh)
      have KL : Hid (¬ (place = 9 ∧ 1 < G ∨ 0 < place ∧ G = 0) → G < 128 → (n0, er, p2) = (n + G % 128 * 2 ^ (7 * place), 0, p + 8)) := fun hh h2 => hq.out.symm.trans (HL hh h2)
      have KM : Hid (¬ (place = 9 ∧ 1 < G ∨ 0 < place ∧ G = 0) → ¬ G < 128 → rvar l pos = rvarF l (9 - place) (place + 1) (n + G % 128 * 2 ^ (7 * place)) (p + 8)) := HM
      clear hat1 hfr1 HE HQ HF HL HM
      by_cases h9 : place = 9
      · subst h9
        by_cases hg1 : 1 < G
        · have HF : Hid ((n0, er, p2) = (0, 16, p + 8)) := KF.out (Or.inl ⟨rfl, hg1⟩)
          clear KF KL KM
          go_wp2_with fail
          go_ret2
          have hf := HF.out
          simp only [Prod.mk.injEq] at hf
          obtain ⟨rfl, rfl, rfl⟩ := hf
          exact ⟨rfl, by rw [backTo_back _ _ _ (by omega)]; exact HR1.out.moved rfl HPL.out, HS1.out.setCell (fun _ => rfl) _⟩
        · by_cases hz : G = 0
          · subst hz
            have HF : Hid ((n0, er, p2) = (0, 16, p + 8)) := KF.out (Or.inr ⟨by omega, rfl⟩)
            clear KF KL KM
            go_wp2_with fail
            go_ret2
            have hf := HF.out
            simp only [Prod.mk.injEq] at hf
            obtain ⟨rfl, rfl, rfl⟩ := hf
            exact ⟨rfl, by rw [backTo_back _ _ _ (by omega)]; exact HR1.out.moved rfl HPL.out, HS1.out.setCell (fun _ => rfl) _⟩
          · have hz1 : G = 1 := by omega
            subst hz1
            have HF : Hid ((n0, er, p2) = (n + 1 % 128 * 2 ^ (7 * 9), 0, p + 8)) := KL.out (by omega) (by omega)
            clear KF KL KM
            go_wp2_with fail
            go_ret2
            have hf := HF.out
            simp only [Prod.mk.injEq] at hf
            obtain ⟨rfl, rfl, rfl⟩ := hf
            exact ⟨ret_pair (sum_num9 n HN.out), by rw [backTo_ok]; exact HR1.out, HS1.out⟩
      · have h9' : ((place : Int) == 9) = false := by simp; omega
        by_cases h0 : place = 0
        · subst h0
          by_cases hg : G < 128
          · have HF : Hid ((n0, er, p2) = (n + G % 128 * 2 ^ (7 * 0), 0, p + 8)) := KL.out (by omega) hg
            clear KF KL KM
            go_wp2_with fail
            go_ret2
            have hf := HF.out
            simp only [Prod.mk.injEq] at hf
            obtain ⟨rfl, rfl, rfl⟩ := hf
            exact ⟨ret_pair (sum_num0 n G HN.out), by rw [backTo_ok]; exact HR1.out, HS1.out⟩
          · have HF : Hid (rvar l pos = rvarF l (9 - 0) (0 + 1) (n + G % 128 * 2 ^ (7 * 0)) (p + 8)) := KM.out (by omega) hg
            clear KF KL KM
            go_wp2_with fail
            go_roundw
            case rel => exact ⟨1, n + G % 128 * 2 ^ (7 * 0), p + 8, by omega, place_pow n G 0 HN.out, congrArg (Value.int .u64) (sum_num0 n G HN.out), rfl, HF, HR1.out, HS1.out⟩
            case measure => simp [intOf]
        · have h0' : 0 < place := by omega
          by_cases hz : G = 0
          · subst hz
            have HF : Hid ((n0, er, p2) = (0, 16, p + 8)) := KF.out (Or.inr ⟨h0', rfl⟩)
            clear KF KL KM
            go_wp2_with fail
            go_ret2
            have hf := HF.out
            simp only [Prod.mk.injEq] at hf
            obtain ⟨rfl, rfl, rfl⟩ := hf
            exact ⟨rfl, by rw [backTo_back _ _ _ (by omega)]; exact HR1.out.moved rfl HPL.out, HS1.out.setCell (fun _ => rfl) _⟩
          · have hz' : ((G : Int) == 0) = false := by simp; omega
            by_cases hg : G < 128
            · have HF : Hid ((n0, er, p2) = (n + G % 128 * 2 ^ (7 * place), 0, p + 8)) := KL.out (by omega) hg
              clear KF KL KM
              go_wp2_with fail
              go_ret2
              have hf := HF.out
              simp only [Prod.mk.injEq] at hf
              obtain ⟨rfl, rfl, rfl⟩ := hf
              exact ⟨ret_pair (place_sum n G place HN.out (Or.inl (by omega))), by rw [backTo_ok]; exact HR1.out, HS1.out⟩
            · have HF : Hid (rvar l pos = rvarF l (9 - (place + 1) + 1) (place + 1) (n + G % 128 * 2 ^ (7 * place)) (p + 8)) := by
                have := KM.out (by omega) hg
                rw [show 9 - (place + 1) + 1 = 9 - place from by omega]
                exact this
              clear KF KL KM
              go_wp2_with fail
              go_roundw
              case rel => exact ⟨place + 1, n + G % 128 * 2 ^ (7 * place), p + 8, by omega, place_pow n G place HN.out, congrArg (Value.int .u64) (place_sum n G place HN.out (Or.inl (by omega))), congrArg (Value.int .i64) (by omega), HF, HR1.out, HS1.out⟩
              case measure => simp [intOf]; omega

/-- Where the plain reader at b stands. -/
def posQ (w : World) (b : Nat) : Nat := match w.cell? ⟨b, 1, none⟩ with
  | some (.int _ n) => n.toNat
  | _ => 0
theorem posQ_of {w : World} {bq : Nat} {ao : Option Addr} {cap : Nat} {l : List Nat} {pos : Nat} (h : QAt w bq ao cap l pos) : posQ w bq = pos := by
  obtain ⟨c0, c1, cf⟩ := cell_of_two h.blk
  unfold posQ
  rw [c1]
  simp

theorem pad_one (l : List Nat) (pos z pad : Nat) (hz : z < pad) (hp : pos + pad ≤ 8 * l.length) (h1 : num (nextBits l (pos + z) 1) = 1) : num (nextBits l pos pad) ≠ 0 := by
  have e : nextBits l pos pad = nextBits l pos z ++ (nextBits l (pos + z) 1 ++ nextBits l (pos + z + 1) (pad - z - 1)) := by
    rw [← nextBits_add, ← nextBits_add, show z + (1 + (pad - z - 1)) = pad from by omega]
  rw [e, num_append, num_append, h1, length_nextBits l (pos + z + 1) (pad - z - 1) (by omega)]
  have : 0 < 2 ^ (pad - z - 1) := Nat.pow_pos (by omega)
  omega
theorem pad_zero (l : List Nat) (pos z : Nat) (h0 : num (nextBits l pos z) = 0) (h1 : num (nextBits l (pos + z) 1) = 0) : num (nextBits l pos (z + 1)) = 0 := by
  rw [nextBits_add, num_append, h0, h1]; simp

set_option maxRecDepth 100000 in
set_option maxHeartbeats 4000000 in
theorem qalign_any (bq : Nat) (ao : Option Addr) (cap : Nat) (l : List Nat) (pos n0 er p2 : Nat) (w : World) (h : QAt w bq ao cap l pos) (hq : Hid (rpad l pos = (n0, er, p2))) :
    Calls Tryd.prog 37 #[.pointer (some ⟨bq, 0, none⟩)] w fun e w' => e = .returned (.int .i64 er) ∧ QAt w' bq ao cap l (backTo er p2 pos) ∧ Fr (fun k => k = bq) w w' := by
  obtain ⟨c0, c1, cf⟩ := cell_of_two h.blk
  have hple := h.le
  have hlim := h.lim
  go_enter Tryd.func37, Tryd.ntmps37
  go_wp2
  go_loopw [4, 5] (fun _ _ wr => ∃ z : Nat, z ≤ (8 - pos % 8) % 8 ∧ Hid (num (nextBits l pos z) = 0) ∧ QAt wr bq ao cap l (pos + z) ∧ Fr (fun k => k = bq) w wr) (fun _ _ wr => (8 - posQ wr bq % 8) % 8)
  case atStart => exact ⟨0, Nat.zero_le _, rfl, h, Fr.refl _ _⟩
  case round =>
    obtain ⟨z, hz, HZ, hat, hfr⟩ := hrel
    have HS : Hid (Fr (fun k => k = bq) w wr) := hfr
    have HR : Hid (QAt wr bq ao cap l (pos + z)) := hat
    have HM : Hid (posQ wr bq = pos + z) := posQ_of hat
    obtain ⟨d0, d1, df⟩ := cell_of_two hat.blk
    clear hat hfr h c0 c1 cf
    have HPZ : Hid (∀ x, pos + z + x = pos + (z + x)) := fun x => by omega
    by_cases hmod : (pos + z) % 8 = 0
    · have hzp : z = (8 - pos % 8) % 8 := by omega
      have HF : Hid ((n0, er, p2) = (0, 0, pos + z)) := by
        have h1 := rpad_ok l pos (by rw [← hzp]; exact HZ.out)
        rw [← hzp] at h1
        exact hq.out.symm.trans h1
      clear hzp
      generalize pos + z = P at *
      go_wp2_with fail
      go_ret
      have hf := HF.out
      simp only [Prod.mk.injEq] at hf
      obtain ⟨rfl, rfl, rfl⟩ := hf
      exact ⟨rfl, by rw [backTo_ok]; exact HR.out, HS.out⟩
    · have hzl : z + 1 ≤ (8 - pos % 8) % 8 := by omega
      have hrm : pos + (8 - pos % 8) % 8 ≤ 8 * l.length := by omega
      have HON : Hid (num (nextBits l (pos + z) 1) = 1 → (n0, er, p2) = (0, 15, pos + (8 - pos % 8) % 8)) := fun h1 => hq.out.symm.trans (rpad_no l pos (pad_one l pos z _ (by omega) hrm h1))
      have HZN : Hid (num (nextBits l (pos + z) 1) = 0 → num (nextBits l pos (z + 1)) = 0) := pad_zero l pos z HZ.out
      have hnl : num (nextBits l (pos + z) 1) < 2 := by
        have := num_lt (nextBits l (pos + z) 1); rw [length_nextBits _ _ _ (by omega)] at this; exact this
      have HPE : Hid (pos + (z + 1) = pos + z + 1) := by show _ = _; omega
      have hP1 : pos + z + 1 ≤ 8 * l.length := by omega
      have HBK : Hid (pos ≤ 8 * l.length) := hple
      clear HPZ
      generalize pos + z = P at *
      go_wp2_with fail
      refine (qtake_any' bq ao cap l P 1 _ _ rfl HR.out (by omega) hP1).mono ?_
      generalize num (nextBits l P 1) = c at HON HZN hnl
      rintro e w1 ⟨rfl, hat1, hfr1⟩
      have HR1 : Hid (QAt w1 bq ao cap l (P + 1)) := hat1
      have HS1 : Hid (Fr (fun k => k = bq) w w1) := HS.out.trans hfr1 (fun _ _ hh => hh)
      have HM1 : Hid (posQ w1 bq = P + 1) := posQ_of hat1
      obtain ⟨f0, f1, ff⟩ := cell_of_two hat1.blk
      clear hat1 hfr1 d0 d1 df
      by_cases hc : c = 1
      · subst hc
        have HF : Hid ((n0, er, p2) = (0, 15, pos + (8 - pos % 8) % 8)) := HON.out rfl
        clear HON HZN
        go_wp2_with fail
        go_ret
        have hf := HF.out
        simp only [Prod.mk.injEq] at hf
        obtain ⟨rfl, rfl, rfl⟩ := hf
        exact ⟨rfl, by rw [backTo_back _ _ _ (by omega)]; exact HR1.out.moved rfl HBK.out, HS1.out.setCell (fun _ => rfl) _⟩
      · have hc0 : c = 0 := by omega
        subst hc0
        have HZ1 : Hid (num (nextBits l pos (z + 1)) = 0) := HZN.out rfl
        clear HON HZN
        go_wp2_with fail
        go_roundw
        case rel => exact ⟨z + 1, hzl, HZ1, by rw [HPE.out]; exact HR1.out, HS1.out⟩
        case measure => rw [HM.out, HM1.out]; omega

end Go.Proofs.YtamonbkhpbdojaaDoor
