/- Segments' headers: the reader's 'number'. -/
import Derived.Test.YtamonbkhpbdojaaDoorSc
namespace Go.Proofs.YtamonbkhpbdojaaDoor
set_option maxRecDepth 100000
open Go.RowKit

/-- What the walk of 'number' needs of a Var that is read: A, B: bits left ahead and behind; q: bytes passed. -/
theorem num_parts2 {l : List Nat} {a lo hi n a' : Nat} (hb : ∀ x ∈ l, x < 256) (h : numS l a lo hi = (0, n, a')) : ∃ p, rvar (pt l a 10) 0 = (n, 0, p) ∧ (p + 8 * a) / 8 = a' ∧ lo ≤ n ∧ n ≤ hi := by
  obtain ⟨h1, h2, h3, h4⟩ := numS_ok h
  have h5 := rvar_part l a hb
  rw [h1] at h5
  refine ⟨(rvar (pt l a 10) 0).2.2, ?_, ?_, h3, h4⟩
  · simp only [Prod.mk.injEq] at h5
    exact Prod.ext h5.1.symm (Prod.ext h5.2.1.symm rfl)
  · rw [← h2]; rw [Prod.mk.injEq, Prod.mk.injEq] at h5; rw [h5.2.2]

set_option maxHeartbeats 2000000 in
theorem number_ok (bs : Nat) (ao : Option Addr) (cap : Nat) (l : List Nat) (a lo hi n a' : Nat) (w : World) (h : SR w bs ao cap l a) (hq : numS l a lo hi = (0, n, a')) (hlo : lo ≤ 4611686018427387904) (hhi : hi ≤ 4611686018427387904) :
    Calls Tryd.prog 56 #[.pointer (some ⟨bs, 0, none⟩), .int .i64 (lo : Int), .int .i64 (hi : Int)] w fun e w' => e = .returned (.int .i64 (n : Int)) ∧ SR w' bs ao cap l a' ∧ Fr (fun k => k = bs) w w' := by
  obtain ⟨p, hr, hp, hn1, hn2⟩ := num_parts2 h.byt hq
  have HS : Hid (SR w bs ao cap l a) := h
  have HR : Hid (rvar (pt l a 10) 0 = (n, 0, p)) := hr
  have hlen := length_pt l a 10
  have hla := h.le
  have hlim := h.lim
  have HP : Hid (Calls Tryd.prog 64 #[.pointer (some ⟨bs, 0, none⟩), .int .i64 10] w (PartP w (pt l a 10))) := part_any bs ao cap l a 10 w h (by omega) (by omega)
  have hlt := h.lt
  clear h hr hq
  go_enter Tryd.func56, Tryd.ntmps56
  go_wp2_with fail
  refine HP.out.mono ?_
  rintro e w1 ⟨br, v, rfl, hr1, hf1, hb1, hv1⟩
  have HRA : Hid (RAt w1 br v (pt l a 10) 0) := hr1
  have HF1 : Hid (Fr (fun _ => False) w w1) := hf1
  have HV1 : Hid (∀ k, v.ownBlock = some k → w.heap.size ≤ k) := hv1
  have HL1 : Hid (bs < w.heap.size ∧ w.heap.size ≤ br) := ⟨hlt, hb1⟩
  clear hr1 hf1 hv1 HP hb1 hlt
  generalize (pt l a 10) = L at *
  obtain ⟨A, hA⟩ : ∃ A : Int, A = ((8 * L.length - 0 : Nat) : Int) := ⟨_, rfl⟩
  obtain ⟨B, hB⟩ : ∃ B : Int, B = ((8 * L.length - p : Nat) : Int) := ⟨_, rfl⟩
  have HA : Hid (((8 * L.length - 0 : Nat) : Int) = A) := hA.symm
  have HB : Hid (((8 * L.length - p : Nat) : Int) = B) := hB.symm
  have HHL : Hid (L.length = min 10 (l.length - a)) := hlen
  have HHp : Hid ((p + 8 * a) / 8 = a') := hp
  clear hlen hA hB hp
  go_wp2_with fail
  refine (left_is br v L 0 A _ HRA.out HA.out).mono ?_
  rintro e w2 ⟨rfl, q2, rfl⟩
  go_wp2_with fail
  refine (rvar_any br v L 0 n 0 p _ (HRA.out.drewN q2) HR).mono ?_
  rintro e w3 ⟨rfl, hr3, hf3⟩
  have HR3 : Hid (RAt w3 br v L p) := hr3
  have hple := hr3.le
  rw [backTo_ok] at hple
  have HF3 : Hid (Fr (fun _ => False) w w3) := by
    refine (HF1.out.drewN q2).trans hf3 (fun i hi e => ?_)
    have := HL1.out; omega
  have HS3 : Hid (SR w3 bs ao cap l a) := HS.out.keptF HF3.out
  clear hr3 hf3
  go_wp2_with fail
  refine (demandBits_ok _).mono ?_
  rintro e w4 ⟨rfl, rfl⟩
  have c1 : IntKind.u64.wrap (lo : Int) = (lo : Int) := by rw [IntKind.wrap_u64]; omega
  have c2 : IntKind.u64.wrap (hi : Int) = (hi : Int) := by rw [IntKind.wrap_u64]; omega
  go_wp2_with fail
  refine (between64_any _ _ _ _).mono ?_
  rintro e w5 ⟨rfl, rfl⟩
  have d1 : decide ((lo : Int) ≤ (n : Int)) = true := decide_eq_true (by omega)
  have d2 : decide ((n : Int) ≤ (hi : Int)) = true := decide_eq_true (by omega)
  rw [d1, d2]
  go_wp2_with fail
  refine (demand_yes _ _).mono ?_
  rintro e w6 ⟨rfl, rfl⟩
  have ha' := HHp.out
  have hAo := HA.out
  have hBo := HB.out
  have hLo := HHL.out
  obtain ⟨q, hq⟩ : ∃ q, q = p / 8 := ⟨_, rfl⟩
  have e1 : A - B = (p : Int) := by omega
  have e2 : IntKind.i64.wrap (p : Int) = (p : Int) := by rw [IntKind.wrap_i64]; omega
  have e3 : Int.tdiv (p : Int) 8 = (q : Int) := by rw [Int.tdiv_eq_ediv_of_nonneg (by omega)]; omega
  have e4 : IntKind.i64.wrap (q : Int) = (q : Int) := by rw [IntKind.wrap_i64]; omega
  have e5 : (a : Int) + (q : Int) = (a' : Int) := by omega
  have e6 : IntKind.i64.wrap (a' : Int) = (a' : Int) := by rw [IntKind.wrap_i64]; omega
  have HE : Hid (a' ≤ l.length ∧ n ≤ 4611686018427387904) := ⟨by omega, by omega⟩
  obtain ⟨s0, s1, sf⟩ := cell_of_two HS3.out.blk
  have HLF : Hid (Calls Tryd.prog 65 #[.pointer (some ⟨br, 0, none⟩)] w6.drew fun e w'' => e = .returned (.int .i64 B) ∧ ∃ q, w'' = w6.drew.drewN q) := left_is br v L p B _ (HR3.out.drewN 1) HB.out
  have c3 : IntKind.i64.wrap (n : Int) = (n : Int) := by rw [IntKind.wrap_i64]; omega
  clear ha' hAo hBo hLo hq hple hn1 hn2 hlo hhi d1 d2 c1 c2
  go_wp2_with fail
  go_region_with (first | (go_at_call 65; refine HLF.out.mono ?_; rintro e w7 ⟨rfl, q7, rfl⟩))
  all_goals
    go_wp2_with fail
    go_ret
    exact ⟨rfl, (HS3.out.keptF ((Fr.refl _ _).drewN (1 + q7))).moved rfl HE.out.1, ((HF3.out.mono (T := fun k => k = bs) (fun _ _ h => h.elim)).drewN (1 + q7)).setCell (fun _ => rfl) _⟩

def Pan (er : Nat) (w : World) (e : Ending) (w' : World) : Prop := e = .panicked [{ v := .iface 29 (.int .i64 (er : Int)), recovered := false }] ∧ Fr (fun _ => False) w w'

set_option maxHeartbeats 2000000 in
theorem number_14 (bs : Nat) (ao : Option Addr) (cap : Nat) (l : List Nat) (a lo hi n p : Nat) (w : World) (h : SR w bs ao cap l a) (hr : rvar (pt l a 10) 0 = (n, 14, p)) :
    Calls Tryd.prog 56 #[.pointer (some ⟨bs, 0, none⟩), .int .i64 (lo : Int), .int .i64 (hi : Int)] w (Pan 163 w) := by
  have HR : Hid (rvar (pt l a 10) 0 = (n, 14, p)) := hr
  have HP : Hid (Calls Tryd.prog 64 #[.pointer (some ⟨bs, 0, none⟩), .int .i64 10] w (PartP w (pt l a 10))) := part_any bs ao cap l a 10 w h (by omega) (by omega)
  clear h hr
  go_enter Tryd.func56, Tryd.ntmps56
  go_wp2_with fail
  refine HP.out.mono ?_
  rintro e w1 ⟨br, v, rfl, hr1, hf1, hb1, hv1⟩
  have HRA : Hid (RAt w1 br v (pt l a 10) 0) := hr1
  have HF1 : Hid (Fr (fun _ => False) w w1) := hf1
  have HL1 : Hid (w.heap.size ≤ br) := hb1
  clear hr1 hf1 hv1 HP hb1
  generalize (pt l a 10) = L at *
  obtain ⟨A, hA⟩ : ∃ A : Int, A = ((8 * L.length - 0 : Nat) : Int) := ⟨_, rfl⟩
  have HA : Hid (((8 * L.length - 0 : Nat) : Int) = A) := hA.symm
  clear hA
  go_wp2_with fail
  refine (left_is br v L 0 A _ HRA.out HA.out).mono ?_
  rintro e w2 ⟨rfl, q2, rfl⟩
  go_wp2_with fail
  refine (rvar_any br v L 0 n 14 p _ (HRA.out.drewN q2) HR).mono ?_
  rintro e w3 ⟨rfl, hr3, hf3⟩
  have HF3 : Hid (Fr (fun _ => False) w w3) := by
    refine (HF1.out.drewN q2).trans hf3 (fun i hi e => ?_)
    have := HL1.out; omega
  clear hr3 hf3
  go_wp2_with fail
  refine (demandBits_end _).mono ?_
  rintro e w4 ⟨rfl, rfl⟩
  exact ⟨rfl, rfl, HF3.out⟩

set_option maxHeartbeats 2000000 in
theorem number_16 (bs : Nat) (ao : Option Addr) (cap : Nat) (l : List Nat) (a lo hi n p : Nat) (w : World) (h : SR w bs ao cap l a) (hr : rvar (pt l a 10) 0 = (n, 16, p)) :
    Calls Tryd.prog 56 #[.pointer (some ⟨bs, 0, none⟩), .int .i64 (lo : Int), .int .i64 (hi : Int)] w (Pan 161 w) := by
  have HR : Hid (rvar (pt l a 10) 0 = (n, 16, p)) := hr
  have HP : Hid (Calls Tryd.prog 64 #[.pointer (some ⟨bs, 0, none⟩), .int .i64 10] w (PartP w (pt l a 10))) := part_any bs ao cap l a 10 w h (by omega) (by omega)
  clear h hr
  go_enter Tryd.func56, Tryd.ntmps56
  go_wp2_with fail
  refine HP.out.mono ?_
  rintro e w1 ⟨br, v, rfl, hr1, hf1, hb1, hv1⟩
  have HRA : Hid (RAt w1 br v (pt l a 10) 0) := hr1
  have HF1 : Hid (Fr (fun _ => False) w w1) := hf1
  have HL1 : Hid (w.heap.size ≤ br) := hb1
  clear hr1 hf1 hv1 HP hb1
  generalize (pt l a 10) = L at *
  obtain ⟨A, hA⟩ : ∃ A : Int, A = ((8 * L.length - 0 : Nat) : Int) := ⟨_, rfl⟩
  have HA : Hid (((8 * L.length - 0 : Nat) : Int) = A) := hA.symm
  clear hA
  go_wp2_with fail
  refine (left_is br v L 0 A _ HRA.out HA.out).mono ?_
  rintro e w2 ⟨rfl, q2, rfl⟩
  go_wp2_with fail
  refine (rvar_any br v L 0 n 16 p _ (HRA.out.drewN q2) HR).mono ?_
  rintro e w3 ⟨rfl, hr3, hf3⟩
  have HF3 : Hid (Fr (fun _ => False) w w3) := by
    refine (HF1.out.drewN q2).trans hf3 (fun i hi e => ?_)
    have := HL1.out; omega
  clear hr3 hf3
  go_wp2_with fail
  refine (demandBits_16 _).mono ?_
  rintro e w4 ⟨rfl, rfl⟩
  exact ⟨rfl, rfl, HF3.out⟩

set_option maxHeartbeats 2000000 in
theorem number_out (bs : Nat) (ao : Option Addr) (cap : Nat) (l : List Nat) (a lo hi n p : Nat) (w : World) (h : SR w bs ao cap l a) (hr : rvar (pt l a 10) 0 = (n, 0, p)) (hlo : lo ≤ 4611686018427387904) (hhi : hi ≤ 4611686018427387904) (hn : n < lo ∨ hi < n) :
    Calls Tryd.prog 56 #[.pointer (some ⟨bs, 0, none⟩), .int .i64 (lo : Int), .int .i64 (hi : Int)] w (Pan 161 w) := by
  have HR : Hid (rvar (pt l a 10) 0 = (n, 0, p)) := hr
  have HP : Hid (Calls Tryd.prog 64 #[.pointer (some ⟨bs, 0, none⟩), .int .i64 10] w (PartP w (pt l a 10))) := part_any bs ao cap l a 10 w h (by omega) (by omega)
  clear h hr
  go_enter Tryd.func56, Tryd.ntmps56
  go_wp2_with fail
  refine HP.out.mono ?_
  rintro e w1 ⟨br, v, rfl, hr1, hf1, hb1, hv1⟩
  have HRA : Hid (RAt w1 br v (pt l a 10) 0) := hr1
  have HF1 : Hid (Fr (fun _ => False) w w1) := hf1
  have HL1 : Hid (w.heap.size ≤ br) := hb1
  clear hr1 hf1 hv1 HP hb1
  generalize (pt l a 10) = L at *
  obtain ⟨A, hA⟩ : ∃ A : Int, A = ((8 * L.length - 0 : Nat) : Int) := ⟨_, rfl⟩
  have HA : Hid (((8 * L.length - 0 : Nat) : Int) = A) := hA.symm
  clear hA
  go_wp2_with fail
  refine (left_is br v L 0 A _ HRA.out HA.out).mono ?_
  rintro e w2 ⟨rfl, q2, rfl⟩
  go_wp2_with fail
  refine (rvar_any br v L 0 n 0 p _ (HRA.out.drewN q2) HR).mono ?_
  rintro e w3 ⟨rfl, hr3, hf3⟩
  have HF3 : Hid (Fr (fun _ => False) w w3) := by
    refine (HF1.out.drewN q2).trans hf3 (fun i hi e => ?_)
    have := HL1.out; omega
  clear hr3 hf3
  go_wp2_with fail
  refine (demandBits_ok _).mono ?_
  rintro e w4 ⟨rfl, rfl⟩
  have c1 : IntKind.u64.wrap (lo : Int) = (lo : Int) := by rw [IntKind.wrap_u64]; omega
  have c2 : IntKind.u64.wrap (hi : Int) = (hi : Int) := by rw [IntKind.wrap_u64]; omega
  go_wp2_with fail
  refine (between64_any _ _ _ _).mono ?_
  rintro e w5 ⟨rfl, rfl⟩
  have d1 : (decide ((lo : Int) ≤ (n : Int)) && decide ((n : Int) ≤ (hi : Int))) = false := by
    rcases hn with h | h
    · rw [decide_eq_false (by omega), Bool.false_and]
    · rw [decide_eq_false (by omega : ¬ (n : Int) ≤ (hi : Int)), Bool.and_false]
  rw [d1]
  go_wp2_with fail
  refine (demand_no _ _).mono ?_
  rintro e w6 ⟨rfl, rfl⟩
  exact ⟨rfl, rfl, HF3.out⟩

theorem number_no (bs : Nat) (ao : Option Addr) (cap : Nat) (l : List Nat) (a lo hi er : Nat) (w : World) (h : SR w bs ao cap l a) (hq : (numS l a lo hi).1 = er) (h0 : er ≠ 0) (hlo : lo ≤ 4611686018427387904) (hhi : hi ≤ 4611686018427387904) :
    Calls Tryd.prog 56 #[.pointer (some ⟨bs, 0, none⟩), .int .i64 (lo : Int), .int .i64 (hi : Int)] w (Pan er w) := by
  have h5 := rvar_part l a h.byt
  rcases numS_er l a lo hi with e | e | e
  · exact absurd (hq.symm.trans e) h0
  · obtain rfl : er = 163 := hq.symm.trans e
    have h6 := numS_163 e
    rw [h5] at h6
    exact number_14 bs ao cap l a lo hi _ _ w h (Prod.ext rfl (Prod.ext h6 rfl))
  · obtain rfl : er = 161 := hq.symm.trans e
    have h6 := numS_161 e
    rw [h5] at h6
    rcases h6 with h6 | ⟨h6, h7⟩
    · exact number_16 bs ao cap l a lo hi _ _ w h (Prod.ext rfl (Prod.ext h6 rfl))
    · exact number_out bs ao cap l a lo hi _ _ w h (Prod.ext rfl (Prod.ext h6 rfl)) hlo hhi h7
end Go.Proofs.YtamonbkhpbdojaaDoor
