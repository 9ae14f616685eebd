/- The reader of a pbm file: a number. -/
import Derived.Test.YtpfajkkjnobdlaaDoorRa
namespace Go.Proofs.YtpfajkkjnobdlaaDoor
set_option maxRecDepth 100000
open Go.RowKit

theorem first_look (l : List Nat) (a : Nat) : first (l.drop a) = digitI (lookV l a) := by
  rcases hr : l.drop a with _ | ⟨c, r⟩
  · rw [lookV_end hr]; rfl
  · rw [(lookV_cons hr).1, digitI_nat]; rfl
theorem numS_stop {l : List Nat} (n : Nat) (h : first l = false) : numS n l = (n, l) := by
  cases l with
  | nil => rfl
  | cons c r => simp only [first] at h; rw [numS, h]; rfl
theorem drop_same {l : List Nat} {a b : Nat} (ha : a ≤ l.length) (hb : b ≤ l.length) : (l.drop a).length = (l.drop b).length ↔ a = b := by
  simp only [List.length_drop]; omega

/-- A fault: what a call panics with. -/
def Pan (er : Int) (S : Nat → Prop) (w : World) (e : Ending) (w' : World) : Prop := e = .panicked [{ v := .iface 28 (.int .i64 er), recovered := false }] ∧ Fr S w w'

set_option maxHeartbeats 3000000 in
theorem number_ok (bs : Nat) (ao : Option Addr) (cap : Nat) (l : List Nat) (a : Nat) (w : World) (h : SR w bs ao cap l a) (N : Nat) (r : List Nat) (hn : numberS (l.drop a) = some (N, r)) :
    Calls Tryd.prog 45 #[.pointer (some ⟨bs, 0, none⟩)] w fun e w' => e = .returned (.int .i64 (N : Int)) ∧ ∃ a', SR w' bs ao cap l a' ∧ l.drop a' = r ∧ Fr (fun k => k = bs) w w' := by
  have HS : Hid (SR w bs ao cap l a) := h
  unfold numberS at hn
  split at hn
  · cases hn
  rename_i hne
  split at hn
  rotate_left
  · cases hn
  rename_i hfi
  simp only [Option.some.injEq] at hn
  have HNE : Hid (¬ (gapS false (l.drop a)).length = (l.drop a).length) := hne
  have HFI : Hid (first (gapS false (l.drop a)) = true) := hfi
  have HN : Hid (numS 0 (gapS false (l.drop a)) = (N, r)) := hn
  obtain ⟨c0, c1, cf⟩ := cell_of_two h.blk
  have hle := h.le
  have hlim := h.lim
  clear h hne hfi hn
  go_enter Tryd.func45, Tryd.ntmps45
  go_wp2_with fail
  obtain ⟨J0, HJ0⟩ : ∃ J : Nat → Act → World → Prop, Hid (∀ n f v, J n f v ↔ ∃ (a1 z : Nat) (zi : Int) (u1 u2 u4 u5 u6 u7 u8 u9 u10 u11 u12 u13 u14 u15 u16 u17 u18 u19 u20 u21 u22 u23 u24 u25 u26 u27 u28 u29 u30 u31 u32 u33 u34 u35 u36 u37 u38 u39 u40 u41 : Value), f = { tmps := #[.pointer (some ⟨bs, 0, none⟩), u1, u2, .int .i64 zi, u4, u5, u6, u7, u8, u9, u10, u11, u12, u13, u14, u15, u16, u17, u18, u19, u20, u21, u22, u23, u24, u25, u26, u27, u28, u29, u30, u31, u32, u33, u34, u35, u36, u37, u38, u39, u40, u41], defers := [] } ∧ zi = (z : Int) ∧ n = (l.drop a1).length ∧ z ≤ 2147483648 ∧ SR v bs ao cap l a1 ∧ first (l.drop a1) = true ∧ numS z (l.drop a1) = (N, r) ∧ Fr (fun k => k = bs) w v) := ⟨_, fun _ _ _ => Iff.rfl⟩
  refine scope_one 0 J0 rfl ?_ ?_
  · intro n f v hj
    obtain ⟨a1, z, zi, u1, u2, u4, u5, u6, u7, u8, u9, u10, u11, u12, u13, u14, u15, u16, u17, u18, u19, u20, u21, u22, u23, u24, u25, u26, u27, u28, u29, u30, u31, u32, u33, u34, u35, u36, u37, u38, u39, u40, u41, rfl, rfl, hn, hz, hs, hg, hnu, hf⟩ := (HJ0.out _ _ _).1 hj
    have HM : Hid (n = _) := hn
    clear hj hn HN HFI HNE c0 c1 cf hle
    have HS1 : Hid (SR v bs ao cap l a1) := hs
    have HF : Hid (Fr (fun k => k = bs) w v) := hf
    clear hs hf
    rcases hr : l.drop a1 with _ | ⟨c, t⟩
    · rw [hr] at hg; cases hg
    · rw [hr] at hg hnu
      have hd : digit c = true := hg
      obtain ⟨hv, hlt, hdr⟩ := lookV_cons hr
      have hc := HS1.out.byte hr
      have hc48 : 48 ≤ c ∧ c ≤ 57 := by unfold digit at hd; simpa using hd
      have HNU : Hid (numS (min (10 * z + (c - 48)) 2147483648) t = (N, r)) := by rw [numS, hd] at hnu; exact hnu
      have HD : Hid (l.drop (a1 + 1) = t) := hdr
      have HE : Hid (l.drop a1 = c :: t) := hr
      obtain ⟨z', hz'⟩ : ∃ z', z' = min (10 * z + (c - 48)) 2147483648 := ⟨_, rfl⟩
      rw [← hz'] at HNU
      have HZ : Hid (z' ≤ 2147483648) := by show _ ≤ _; omega
      have HZI : Hid ((10 * (z : Int) + (c : Int) - 48 ≤ 2147483648 → 10 * (z : Int) + (c : Int) - 48 = (z' : Int)) ∧ (2147483648 < 10 * (z : Int) + (c : Int) - 48 → (2147483648 : Int) = (z' : Int))) := ⟨fun h => by omega, fun h => by omega⟩
      clear hz' hg hnu hd hdr hr
      go_wp2_with fail
      refine (look_any bs ao cap l a1 v HS1.out).mono ?_
      rintro e v1 ⟨rfl, q, rfl⟩
      rw [hv]
      have HS2 : Hid (SR (v.drewN q) bs ao cap l a1) := HS1.out.drewN q
      have HF2 : Hid (Fr (fun k => k = bs) w (v.drewN q)) := HF.out.drewN q
      generalize v.drewN q = v2 at *
      clear HS1 HF
      obtain ⟨c0, c1, cf⟩ := cell_of_two HS2.out.blk
      have HS3 : Hid (∀ P : Int, P = ((a1 + 1 : Nat) : Int) → SR (v2.setCell ⟨bs, 1, none⟩ (.int .i64 P)) bs ao cap l (a1 + 1)) := fun P hP => HS2.out.moved hP hlt
      clear hv
      go_wp2_with fail
      all_goals
        have HS4 := HS3.out ((a1 : Int) + 1) (by omega)
        have HF4 : Hid (Fr (fun k => k = bs) w (v2.setCell ⟨bs, 1, none⟩ (.int .i64 ((a1 : Int) + 1)))) := HF2.out.setCell (fun _ => rfl) _
        generalize v2.setCell ⟨bs, 1, none⟩ (.int .i64 ((a1 : Int) + 1)) = v3 at *
        clear HS3 c0 c1 cf HS2 HF2
        refine (look_any bs ao cap l (a1 + 1) v3 HS4).mono ?_
        rintro e v1 ⟨rfl, q, rfl⟩
        have HS5 : Hid (SR (v3.drewN q) bs ao cap l (a1 + 1)) := HS4.drewN q
        have HF5 : Hid (Fr (fun k => k = bs) w (v3.drewN q)) := HF4.out.drewN q
        generalize v3.drewN q = v5 at *
        clear HS4 HF4
        go_wp2_with fail
        refine (isDigit_any _ _).mono ?_
        rintro e v1 ⟨rfl, rfl⟩
        rw [← first_look, HD.out]
        cases hft : first t
        · go_wp2_with fail
          simp only [jumpsE]
          show bodyPost Tryd.prog Tryd.f45 _ Exit.ret _ _
          have HR := HNU.out
          rw [numS_stop _ hft] at HR
          simp only [Prod.mk.injEq] at HR
          obtain ⟨h1, h2⟩ := HR
          refine bodyPost_ret (results_tmp rfl _ _ _) rfl ⟨?_, a1 + 1, HS5.out, by rw [HD.out]; exact h2, HF5.out⟩
          refine congrArg (fun x => Ending.returned (Value.int .i64 x)) ?_
          rw [← h1]
          first | exact HZI.out.1 (by assumption) | exact HZI.out.2 (by assumption)
        · go_wp2_with fail
          go_step3
          refine ⟨rfl, _, ?_, (HJ0.out _ _ _).2 ⟨a1 + 1, z', _, _, _, _, _, _, _, _, _, _, _, _, _, _, _, _, _, _, _, _, _, _, _, _, _, _, _, _, _, _, _, _, _, _, _, _, _, _, _, _, _, rfl, ?_, rfl, HZ.out, HS5.out, by rw [HD.out]; exact hft, by rw [HD.out]; exact HNU.out, HF5.out⟩⟩
          · rw [HM.out, HE.out, HD.out]; simp
          · first | exact HZI.out.1 (by assumption) | exact HZI.out.2 (by assumption)
  · intro k0
    go_wp2_with fail
    go_quiet (fail)
    have HK : Hid (∀ f v, (∃ n, J0 n f v) → _) := fun f v ⟨n, h⟩ => k0 n f v h
    clear k0
    go_wp2_with fail
    refine (gap_any bs ao cap l a _ (HS.out.drewN _)).mono ?_
    rintro e v ⟨rfl, a1, hs1, hd1, hf1⟩
    have HS1 : Hid (SR v bs ao cap l a1) := hs1
    have HF1 : Hid (Fr (fun k => k = bs) w v) := ((Fr.refl (fun k => k = bs) w).drewN _).trans hf1 (fun _ _ h => h)
    have HD1 : Hid (l.drop a1 = gapS false (l.drop a)) := hd1
    have hne : ((a1 : Int) == (a : Int)) = false := by
      have h1 := HNE.out
      rw [← hd1, drop_same hs1.le hle] at h1
      simp; omega
    have hdg : digitI (lookV l a1) = true := by rw [← first_look, hd1]; exact HFI.out
    clear c0 c1 cf hle hs1 hf1 hd1
    obtain ⟨c0, c1, cf⟩ := cell_of_two HS1.out.blk
    go_wp2_with fail
    refine (look_any bs ao cap l a1 v HS1.out).mono ?_
    rintro e v1 ⟨rfl, q, rfl⟩
    have HS2 : Hid (SR (v.drewN q) bs ao cap l a1) := HS1.out.drewN q
    have HF2 : Hid (Fr (fun k => k = bs) w (v.drewN q)) := HF1.out.drewN q
    generalize v.drewN q = v2 at *
    clear HS1 HF1 c0 c1 cf
    go_wp2_with fail
    refine (isDigit_any _ _).mono ?_
    rintro e v1 ⟨rfl, rfl⟩
    rw [hdg]
    go_wp2_with fail
    go_step3
    simp only [Exit.then]
    rename_i hK
    refine hK _ _ (HK.out _ _ ⟨_, (HJ0.out _ _ _).2 ⟨a1, 0, _, _, _, _, _, _, _, _, _, _, _, _, _, _, _, _, _, _, _, _, _, _, _, _, _, _, _, _, _, _, _, _, _, _, _, _, _, _, _, _, _, rfl, rfl, rfl, Nat.zero_le _, HS2.out, by rw [HD1.out]; exact HFI.out, by rw [HD1.out]; exact HN.out, HF2.out⟩⟩)

end Go.Proofs.YtpfajkkjnobdlaaDoor
