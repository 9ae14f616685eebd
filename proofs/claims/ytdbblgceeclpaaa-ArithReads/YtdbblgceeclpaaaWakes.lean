/- 'wakes'. -/
import Derived.Test.YtdbblgceeclpaaaEq
namespace Go.Proofs.Ytdbblgceeclpaaa
open Go.RowKit

def wakeC : Nat → Co
  | 0 => newP 2
  | k + 1 => putP (wakeC k) ((k % 2 : Nat) : Int) (k / 3 % 2)
def wakeB : List Nat := flushP (wakeC 40).s
def wakeD : Nat → De
  | 0 => newD wakeB 2
  | k + 1 => getP wakeB (wakeD k) ((k % 2 : Nat) : Int)

theorem wakeC_ok : ∀ k, k ≤ 40 → Ook (wakeC k) ∧ (wakeC k).made = k
  | 0, _ => ⟨newP_ok (by decide) (by decide), rfl⟩
  | k + 1, h => by
    obtain ⟨h1, h2⟩ := wakeC_ok k (by omega)
    exact ⟨putP_ok h1 _ _ (by omega), by show (wakeC k).made + 1 = _; omega⟩
theorem wakeB_lt : ∀ y ∈ wakeB, y < 256 := by
  have h : wakeB.all (fun y => decide (y < 256)) = true := by decide +kernel
  intro y hy
  simpa using List.all_eq_true.1 h y hy
theorem wakeB_len : wakeB.length = 5 := by decide +kernel
theorem wakeG (k : Nat) (hk : k < 40) : getBit (wakeD k) ((k % 2 : Nat) : Int) = k / 3 % 2 := by
  have h : (List.range 40).all (fun k => getBit (wakeD k) ((k % 2 : Nat) : Int) == k / 3 % 2) = true := by decide +kernel
  simpa using List.all_eq_true.1 h k (List.mem_range.2 hk)
theorem wakeD_ok : ∀ k, k ≤ 40 → Eok wakeB (wakeD k) ∧ (wakeD k).made = k
  | 0, _ => ⟨newD_ok (by decide) (by decide) wakeB_lt, rfl⟩
  | k + 1, h => by
    obtain ⟨h1, h2⟩ := wakeD_ok k (by omega)
    exact ⟨getP_ok h1 _ (by omega), by show (wakeD k).made + 1 = _; omega⟩

/-- Steps of a coder whose blocks are new. -/
theorem CStep.fresh {w w1 w2 : World} {bc gc gb gb' : Nat} {T : Nat → Prop} (f : Fr T w w1) (h : CStep bc gc gb gb' w1 w2) (s : w.heap.size ≤ bc ∧ w.heap.size ≤ gc ∧ w.heap.size ≤ gb) : Fr T w w2 ∧ w.heap.size ≤ gb' := by
  have hs := f.size
  refine ⟨f.trans h.fr (fun i hi e => by omega), ?_⟩
  rcases h.row with e | e <;> omega
theorem DStep.fresh {w w1 w2 : World} {bd gc : Nat} {T : Nat → Prop} (f : Fr T w w1) (h : DStep bd gc w1 w2) (s : w.heap.size ≤ bd ∧ w.heap.size ≤ gc) : Fr T w w2 :=
  f.trans h (fun i hi e => by omega)

set_option maxRecDepth 100000 in
set_option maxHeartbeats 2000000 in
theorem wakes_any (w : World) : Calls Try.prog 17 #[] w fun e w' => e = .returned (.bool true) ∧ Fr (fun _ => False) w w' := by
  go_enter Try.func17, Try.ntmps17
  go_wp2_with fail
  refine (new_any w 2 (by decide) (by decide)).mono ?_
  rintro e w1 ⟨bc, gc, gb, rfl, hc1, hf1, s1, s2, s3⟩
  have HC1 : Hid (CoAt w1 bc gc 2 gb 1 (wakeC 0)) := hc1
  have HF1 : Hid (Fr (fun _ => False) w w1) := hf1
  have HSZ : Hid (w.heap.size ≤ bc ∧ w.heap.size ≤ gc ∧ w.heap.size ≤ gb) := ⟨s1, s2, s3⟩
  clear hc1 hf1 s1 s2 s3
  go_wp2_with fail
  go_loopw [3] (fun i wr => ∃ (k gb' cb' : Nat), k ≤ 40 ∧ i = .int .i64 k ∧ CoAt wr bc gc 2 gb' cb' (wakeC k) ∧ Fr (fun _ => False) w wr ∧ w.heap.size ≤ gb') (fun i _ => 40 - (intOf i).toNat)
  case atStart => exact ⟨0, gb, 1, by decide, rfl, HC1.out, HF1.out, HSZ.out.2.2⟩
  case round =>
    obtain ⟨k, gb', cb', hk, rfl, hco, hfr, hgb⟩ := hrel
    have HCO : Hid (CoAt wr bc gc 2 gb' cb' (wakeC k)) := hco
    have HFR : Hid (Fr (fun _ => False) w wr ∧ w.heap.size ≤ gb') := ⟨hfr, hgb⟩
    clear hco hfr hgb
    by_cases hlt : k < 40
    · have HP : Hid (Calls Try.prog 11 #[.pointer (some ⟨bc, 0, none⟩), .int .i64 ((k : Int) % 2), .int .i64 ((k : Int) / 3 % 2)] wr fun e w' => e = .returned (.int .i64 0) ∧ ∃ gb2 cb2, CoAt w' bc gc 2 gb2 cb2 (wakeC (k + 1)) ∧ CStep bc gc gb' gb2 wr w') := by
        have hp := put_any wr bc gc 2 gb' cb' (wakeC k) HCO.out (wakeC_ok k hk).1 (by rw [(wakeC_ok k hk).2]; omega) ((k % 2 : Nat) : Int) (by omega) (k / 3 % 2) (by omega)
        exact hp
      go_wp2_with fail
      refine HP.out.mono ?_
      rintro e w2 ⟨rfl, gb2, cb2, hc2, hs2⟩
      obtain ⟨f2, g2⟩ := CStep.fresh HFR.out.1 hs2 ⟨HSZ.out.1, HSZ.out.2.1, HFR.out.2⟩
      have HE : Hid (CoAt w2 bc gc 2 gb2 cb2 (wakeC (k + 1)) ∧ Fr (fun _ => False) w w2 ∧ w.heap.size ≤ gb2) := ⟨hc2, f2, g2⟩
      clear hc2 hs2 f2 g2
      go_wp2_with fail
      refine ⟨⟨k + 1, gb2, cb2, by omega, congrArg (Value.int .i64) (by omega), HE.out⟩, by simp [intOf]; omega⟩
    · have hk40 : k = 40 := by omega
      subst hk40
      go_wp2_with fail
      refine (flush_any wr bc gc 2 gb' cb' (wakeC 40) HCO.out (wakeC_ok 40 (by decide)).1).mono ?_
      rintro e w3 ⟨gb3, n, cap, rfl, hse, hdo, hst, hn1, hn2⟩
      obtain ⟨f3, g3⟩ := CStep.fresh HFR.out.1 hst ⟨HSZ.out.1, HSZ.out.2.1, HFR.out.2⟩
      have HSE : Hid (SeenAt w3 (.slice (some ⟨gb3, 1, none⟩) n cap) wakeB) := hse
      have HF3 : Hid (Fr (fun _ => False) w w3) := f3
      have hn5 : n = 5 := by
        obtain ⟨ao, cp, e, _⟩ := hse
        simp only [Value.slice.injEq] at e
        rw [e.2.1]; exact wakeB_len
      subst hn5
      clear hse hdo hst hn1 hn2 f3 g3
      go_wp2_with fail
      refine (newDecoder_any w3 _ wakeB 2 (by decide) (by decide) HSE.out (Or.inr ⟨_, _, _, rfl⟩) wakeB_lt).mono ?_
      rintro e w4 ⟨bd, gd, vb, rfl, hd4, hf4, t1, t2, t3⟩
      have HD4 : Hid (DeAt w4 bd gd 2 vb wakeB (wakeD 0)) := hd4
      have HF4 : Hid (Fr (fun _ => False) w w4) := HF3.out.trans hf4 (fun _ _ hh => hh)
      have HT : Hid (w.heap.size ≤ bd ∧ w.heap.size ≤ gd) := by have := HF3.out.size; exact ⟨by omega, by omega⟩
      clear hd4 hf4 t1 t2 t3
      go_wp2_with fail
      go_loopw [7] (fun i wr => ∃ (k : Nat), k ≤ 40 ∧ i = .int .i64 k ∧ DeAt wr bd gd 2 vb wakeB (wakeD k) ∧ Fr (fun _ => False) w wr) (fun i _ => 40 - (intOf i).toNat)
      case atStart => exact ⟨0, by decide, rfl, HD4.out, HF4.out⟩
      case round =>
        obtain ⟨k, hk, rfl, hco, hfr⟩ := hrel
        have HCO : Hid (DeAt wr bd gd 2 vb wakeB (wakeD k)) := hco
        have HFR : Hid (Fr (fun _ => False) w wr) := hfr
        clear hco hfr
        by_cases hlt : k < 40
        · have HP : Hid (Calls Try.prog 15 #[.pointer (some ⟨bd, 0, none⟩), .int .i64 ((k : Int) % 2)] wr fun e w' => e = .returned (.tuple #[.int .i64 ((k : Int) / 3 % 2), .int .i64 0]) ∧ DeAt w' bd gd 2 vb wakeB (wakeD (k + 1)) ∧ DStep bd gd wr w') := by
            have hp := get_any wr bd gd 2 vb wakeB (wakeD k) HCO.out (wakeD_ok k hk).1 (by rw [(wakeD_ok k hk).2]; omega) ((k % 2 : Nat) : Int) (by omega)
            rw [wakeG k hlt] at hp
            exact hp
          go_wp2_with fail
          refine HP.out.mono ?_
          rintro e w5 ⟨rfl, hc5, hs5⟩
          have HE : Hid (DeAt w5 bd gd 2 vb wakeB (wakeD (k + 1)) ∧ Fr (fun _ => False) w w5) := ⟨hc5, DStep.fresh HFR.out hs5 HT.out⟩
          clear hc5 hs5
          have hbq : (((k : Int) / 3 % 2) != ((k : Int) / 3 % 2)) = false := by simp
          go_wp2_with fail
          refine ⟨⟨k + 1, by omega, congrArg (Value.int .i64) (by omega), HE.out⟩, by simp [intOf]; omega⟩
        · have hk40 : k = 40 := by omega
          subst hk40
          go_wp2_with fail
          go_ret
          exact ⟨rfl, HFR.out⟩

end Go.Proofs.Ytdbblgceeclpaaa
