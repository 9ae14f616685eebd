/- 'runsOf': the runs of a row of words. -/
import Derived.Test.YtgpciopoionmeaaTc
import Derived.Test.YtgpciopoionmeaaLz
import Derived.Deep.LoopGhost
import Derived.WalkMore
namespace Go.Proofs.Ytgpciopoionmeaa
open Go.RowKit

/-- Runs as cells. -/
def runCells (l : List (Nat × Nat)) : List Value := l.flatMap fun r => [.int .i64 (r.1 : Int), .int .i64 (r.2 : Int)]
theorem runCells_nil : runCells [] = [] := rfl
theorem runCells_append (a b : List (Nat × Nat)) : runCells (a ++ b) = runCells a ++ runCells b := by simp [runCells]
theorem runCells_one (a b : Nat) : runCells [(a, b)] = [.int .i64 (a : Int), .int .i64 (b : Int)] := rfl
theorem length_runCells : ∀ l : List (Nat × Nat), (runCells l).length = l.length * 2
  | [] => rfl
  | r :: t => by
    show (_ :: _ :: runCells t).length = _
    simp only [List.length_cons, length_runCells t]; omega
theorem runCells_ones (l : List (Nat × Nat)) : ∀ u ∈ runCells l, u.oneCell' = true := by
  intro u hu
  simp only [runCells, List.mem_flatMap] at hu
  obtain ⟨r, _, hr⟩ := hu
  simp at hr
  rcases hr with rfl | rfl <;> rfl

theorem Try.infoRun : (Try.prog.info? 100).map (fun i => (i.zero, i.size, i.bytes)) = some (some (.agg #[.int .i64 0, .int .i64 0]), 2, 16) := by kernel_rfl

/-- A colour as a word. -/
def turnW (t : Bool) : Nat := if t then 18446744073709551615 else 0
theorem turn_xor (t : Bool) (x : Nat) (hx : x < 18446744073709551616) : bits .xor .u64 (x : Int) (turnW t : Int) = ((flip t x : Nat) : Int) := by
  have h : turnW t < 18446744073709551616 := by cases t <;> decide
  rw [u64_xor_nat x (turnW t) hx h]
  cases t
  · simp [turnW, flip]
  · simp [turnW, flip, Nat.xor_comm]

theorem turn_flip (t : Bool) : 18446744073709551615 - (turnW t : Int) = (turnW (!t) : Int) := by cases t <;> rfl
theorem apart_len {hi : Nat} : ∀ {lo : Nat} {l : List (Nat × Nat)}, Apart hi lo l → lo ≤ hi + 1 → lo + l.length ≤ hi + 1
  | _, [], _, h => h
  | lo, (a, b) :: t, ⟨h1, h2, h3, h4⟩, _ => by
    have := apart_len h4 (by omega)
    simp only [List.length_cons]; omega
theorem st_len (f : Nat → Bool) (n : Nat) : (st f n).1.length ≤ n + 1 := by
  have := apart_len (st_facts f n).1 (by omega); omega
/-- Up to the next change of colour nothing changes. -/
theorem inner_stay {f : Nat → Bool} {W K G p q F Wd : Nat} {t : Bool} {L : List (Nat × Nat)} (hWd : wordOf (fun j => decide (64 * K + j < W) && f (64 * K + j)) = Wd) (hG : G < 64) (h1 : 64 * K + G ≤ p) (hst : st f p = (L, if t then some F else none))
    (hpq : p ≤ q) (hqW : q ≤ W) (hq1 : q ≤ 64 * K + G + lead t Wd G) (hq2 : q ≤ 64 * K + 64) : st f q = (L, if t then some F else none) := by
  rw [← hst]
  refine st_stay f hpq (fun i a b => ?_)
  have hs : (st f p).2.isSome = t := by rw [hst]; cases t <;> rfl
  rw [hs]
  have := (lead_spec t (fun j => decide (64 * K + j < W) && f (64 * K + j)) G hG).1 (i - 64 * K - G) (by rw [hWd]; omega) (by omega)
  simp only [show G + (i - 64 * K - G) = i - 64 * K from by omega, show 64 * K + (i - 64 * K) = i from by omega, decide_eq_true (show i < W by omega), Bool.true_and] at this
  exact this
theorem inner_pix {f : Nat → Bool} {W K G Wd : Nat} {t : Bool} (hWd : wordOf (fun j => decide (64 * K + j < W) && f (64 * K + j)) = Wd) (hG : G < 64) (hl : G + lead t Wd G < 64) (hx : 64 * K + (G + lead t Wd G) < W) : f (64 * K + (G + lead t Wd G)) = !t := by
  have := (lead_spec t (fun j => decide (64 * K + j < W) && f (64 * K + j)) G hG).2 (by rw [hWd]; exact hl)
  rw [hWd] at this
  simp only [decide_eq_true hx, Bool.true_and] at this
  exact this

set_option maxRecDepth 100000 in
set_option maxHeartbeats 2000000 in
theorem runsOf_any (b0 off W cap : Nat) (f : Nat → Bool) (w : World) (h1 : 1 ≤ W) (h2 : W ≤ 1048576)
    (hc : ∀ k, k < stride W → w.cell? ⟨b0, off + k, none⟩ = some (.int .u64 (wordOf (fun j => decide (64 * k + j < W) && f (64 * k + j)) : Nat))) :
    Calls Try.prog 55 #[.slice (some ⟨b0, off, none⟩) (stride W) cap, .int .i64 W] w fun e w' => ∃ rv, e = .returned rv ∧ w'.ownsRow w.heap.size 100 2 rv (rl f W).length (runCells (rl f W)) ∧ Fr (fun _ => False) w w' := by
  obtain ⟨i0, hi, hz0, hz1, hz2⟩ := info_parts Try.infoRun
  have HC : Hid (∀ w', Fr (fun _ => False) w w' → ∀ k, k < stride W → w'.cell? ⟨b0, off + k, none⟩ = some (.int .u64 (wordOf (fun j => decide (64 * k + j < W) && f (64 * k + j)) : Nat))) := fun w' hf k hk => by
    rw [hf.cellEq (seen_lt (hc k hk)) (fun h => h)]; exact hc k hk
  clear hc
  have hS : W ≤ 64 * stride W ∧ 64 * stride W < W + 64 := by unfold stride; omega
  generalize stride W = S at *
  go_enter Try.func55, Try.ntmps55
  go_wp2_with fail
  go_step3
  go_wp2_with fail
  go_step3
  go_wp2_with fail
  go_loopg [5, 6, 7, 8, 9, 10, 11, 14] S (fun q l fr tn k wo go x i wr => ∃ (K : Nat) (t : Bool) (F : Nat) (L : List (Nat × Nat)), K + q = S ∧ i = .int .i64 K ∧ fr = .int .i64 F ∧ tn = .int .u64 (turnW t : Nat) ∧ Hid (st f (min (64 * K) W) = (L, if t then some F else none)) ∧ F ≤ W ∧ wr.ownsRow w.heap.size 100 2 l L.length (runCells L) ∧ Fr (fun _ => False) w wr)
  case atStart => exact ⟨0, false, 0, [], by omega, rfl, rfl, rfl, by simp [Hid, st], by omega, World.ownsRow_nil _ _ _ _, Fr.refl _ _⟩
  case round =>
    obtain ⟨K, t, F, L, hKq, rfl, rfl, rfl, HST, hF, hown, hfr⟩ := hrel
    have HO : Hid (wr.ownsRow w.heap.size 100 2 u5 L.length (runCells L)) := hown
    have HFr : Hid (Fr (fun _ => False) w wr) := hfr
    clear hown hfr
    by_cases hKS : K < S
    · have hcw := HC.out wr HFr.out K hKS
      have hdK : decide (K < S) = true := decide_eq_true hKS
      generalize hWd : wordOf (fun j => decide (64 * K + j < W) && f (64 * K + j)) = Wd at *
      have HWd : Hid (wordOf (fun j => decide (64 * K + j < W) && f (64 * K + j)) = Wd) := hWd
      clear hWd
      go_wp2_with fail
      go_loopg [5, 6, 7, 10, 11] 64 (fun q l fr tn go x wr => ∃ (p G : Nat) (t : Bool) (F : Nat) (L : List (Nat × Nat)), q + p = 64 * K + 64 ∧ G < 64 ∧ 64 * K + G ≤ p ∧ p ≤ W ∧ go = .int .i64 G ∧ fr = .int .i64 F ∧ tn = .int .u64 (turnW t : Nat) ∧ Hid (st f p = (L, if t then some F else none)) ∧ Hid (∀ i, 64 * K + G ≤ i → i < p → f i = t) ∧ F ≤ W ∧ wr.ownsRow w.heap.size 100 2 l L.length (runCells L) ∧ Fr (fun _ => False) w wr)
      case atStart => exact ⟨64 * K, 0, t, F, L, by omega, by omega, by omega, by omega, rfl, rfl, rfl, by have := HST.out; rwa [Nat.min_eq_left (by omega)] at this, fun i a b => by omega, hF, HO.out, HFr.out⟩
      case round =>
        clear HO HFr HST hcw hF
        clear t F L
        obtain ⟨p, G, t, F, L, hqp, hG, hp1, hp2, rfl, rfl, rfl, HST, HSM, hF, hown, hfr⟩ := hrel
        have HO : Hid (wr.ownsRow w.heap.size 100 2 u5 L.length (runCells L)) := hown
        have HFr : Hid (Fr (fun _ => False) w wr) := hfr
        have hWl : Wd < 18446744073709551616 := by rw [← HWd.out]; exact wordOf_lt _
        have hx1 := turn_xor t Wd hWl
        have hfl : flip t Wd < 18446744073709551616 := by rw [← HWd.out]; exact flip_lt _ _
        have hld := lead_le t Wd G
        have HLZ : Hid (∀ w', Calls Try.prog 70 #[.int .u64 (IntKind.u64.wrap ((flip t Wd : Int) * 2 ^ G))] w' fun e w'' => e = .returned (.int .i64 (lead t Wd G : Nat)) ∧ w'' = w') := fun w' => by
          have e : IntKind.u64.wrap ((flip t Wd : Int) * 2 ^ G) = ((flip t Wd * 2 ^ G % 18446744073709551616 : Nat) : Int) := by rw [wrapu64]; exact cast_mul_pow _ _ _
          rw [e]
          have := leading_any ((flip t Wd * 2 ^ G % 18446744073709551616 : Nat) : Int) w' (by omega) (by omega)
          rwa [Int.toNat_natCast] at this
        have HSY : Hid (∀ q, p ≤ q → q ≤ W → q ≤ 64 * K + G + lead t Wd G → q ≤ 64 * K + 64 → st f q = (L, if t then some F else none)) := fun q a b c d => inner_stay HWd.out hG hp1 HST.out a b c d
        have HPX : Hid (G + lead t Wd G < 64 → 64 * K + (G + lead t Wd G) < W → f (64 * K + (G + lead t Wd G)) = !t) := fun a b => inner_pix HWd.out hG a b
        have HLN : Hid (L.length ≤ p + 1) := by have := st_len f p; rw [HST.out] at this; exact this
        clear hown hfr HWd
        generalize flip t Wd = X at *
        generalize lead t Wd G = D at *
        go_wp2_with fail
        refine (HLZ.out _).mono ?_
        rintro e w1 ⟨rfl, rfl⟩
        clear HLZ
        obtain ⟨XX, hXX⟩ : ∃ XX, XX = 64 * K + (G + D) := ⟨_, rfl⟩
        have hxx : (K : Int) * 64 + ((G : Int) + (D : Int)) = (XX : Int) := by omega
        have hxb : XX ≤ 64 * K + 128 := by omega
        have hKb : 64 * K < W + 64 := by omega
        by_cases hA : 64 ≤ G + D
        · have dA : decide (64 ≤ G + D) = true := decide_eq_true hA
          go_wp2_with fail
          go_roundg (S - (K + 1))
          case measure => omega
          case rel => exact ⟨K + 1, t, F, L, by omega, congrArg (Value.int .i64) (by omega), rfl, rfl, HSY.out _ (by omega) (by omega) (by omega) (by omega), hF, HO.out, HFr.out⟩
        · have dA : decide (64 ≤ G + D) = false := decide_eq_false hA
          by_cases hB : W ≤ XX
          · have dB : decide (W ≤ XX) = true := decide_eq_true hB
            have HSW : Hid (st f W = (L, if t then some F else none)) := HSY.out W (by omega) (by omega) (by omega) (by omega)
            clear HSY HPX
            cases t
            · have hT : ((turnW false : Nat) : Int) = 0 := rfl
              have HE : Hid (rl f W = L) := by show rl f W = L; unfold rl; rw [HSW.out]; rfl
              go_wp2_with fail
              (try rw [Exit.noGoto_ret])
              go_ret
              rw [HE.out]
              exact ⟨_, rfl, HO.out, HFr.out⟩
            · have hT : ((turnW true : Nat) : Int) = 18446744073709551615 := rfl
              have HE : Hid (rl f W = L ++ [(F, W)]) := by show rl f W = _; unfold rl; rw [HSW.out]; rfl
              have hln := HLN.out
              have hsz : w.heap.size ≤ w1.heap.size := HFr.out.size
              go_wp2_with (first | (at_builtin; refine wpList_append_own _ rfl _ _ 97 rfl w.heap.size 100 i0 (.agg #[.int .i64 0, .int .i64 0]) 2 16 Try.underlying97 hi hz0 hz1 hz2 rfl (by decide) _ _ _ rfl (HO.out.alloc _) ⟨w1.heap.size, 0, none⟩ 1 1 _ rfl rfl (cell_two_new _ _ _ _) ?_ ?_ ?_ ?_ ?_))
              · first | exact ⟨rfl, rfl⟩ | (intro u hu; simp at hu; rcases hu with rfl | rfl <;> rfl)
              · unfold maxLen; omega
              · omega
              · first | omega | (simp; omega)
              · intro v' w2 hown2 hgrow2 _
                have HF2 : Hid (Fr (fun _ => False) w w2) := (HFr.out.alloc _).grown hgrow2 (fun k hk hlt => by have := (HO.out.lt k hk).1; omega)
                have HO2 : Hid (w2.ownsRow w.heap.size 100 2 v' (rl f W).length (runCells (rl f W))) := by rw [HE.out, runCells_append, List.length_append]; exact hown2
                clear hown2 hgrow2
                go_wp2_with fail
                (try rw [Exit.noGoto_ret])
                go_ret
                exact ⟨_, rfl, HO2.out, HF2.out⟩
          · have dB : decide (W ≤ XX) = false := decide_eq_false hB
            have hpx := HPX.out (by omega) (by omega)
            have hpX : p ≤ XX := by
              rcases Nat.lt_or_ge XX p with hh | hh
              · have := HSM.out XX (by omega) hh
                rw [← hXX, this] at hpx
                cases t <;> cases hpx
              · exact hh
            have HPX2 : Hid (f XX = !t) := by rw [hXX]; exact hpx
            have HSX : Hid (st f XX = (L, if t then some F else none)) := HSY.out XX (by omega) (by omega) (by omega) (by omega)
            have HXX : Hid (XX = 64 * K + (G + D)) := hXX
            have HXN : Hid (∀ i, 64 * K + (G + D) ≤ i → i < XX + 1 → f i = !t) := fun i a b => by
              have e : i = XX := by omega
              rw [e]; exact HPX2.out
            clear HSY HPX hpx hXX
            have htf := turn_flip t
            cases t
            · have hT : ((turnW false : Nat) : Int) = 0 := rfl
              have HN : Hid (st f (XX + 1) = (L, some XX)) := by
                have h0 := HSX.out
                have := st_begin f (p := XX) (by rw [h0]; rfl) HPX2.out
                rw [h0] at this; exact this
              go_wp2_with fail
              go_roundg (64 * K + 64 - (XX + 1))
              case measure => have := HXX.out; omega
              case rel => exact ⟨XX + 1, G + D, true, XX, L, by have := HXX.out; omega, by omega, by have := HXX.out; omega, by omega, congrArg (Value.int .i64) (by omega), rfl, rfl, HN.out, HXN.out, by omega, HO.out, HFr.out⟩
            · have hT : ((turnW true : Nat) : Int) = 18446744073709551615 := rfl
              have HN : Hid (st f (XX + 1) = (L ++ [(F, XX)], none)) := by
                have h0 := HSX.out
                have := st_end f (p := XX) (a := F) (by rw [h0]; rfl) HPX2.out
                rw [h0] at this; exact this
              have hln := HLN.out
              have hsz : w.heap.size ≤ w1.heap.size := HFr.out.size
              go_wp2_with (first | (at_builtin; refine wpList_append_own _ rfl _ _ 97 rfl w.heap.size 100 i0 (.agg #[.int .i64 0, .int .i64 0]) 2 16 Try.underlying97 hi hz0 hz1 hz2 rfl (by decide) _ _ _ rfl (HO.out.alloc _) ⟨w1.heap.size, 0, none⟩ 1 1 _ rfl rfl (cell_two_new _ _ _ _) ?_ ?_ ?_ ?_ ?_))
              · first | exact ⟨rfl, rfl⟩ | (intro u hu; simp at hu; rcases hu with rfl | rfl <;> rfl)
              · unfold maxLen; omega
              · omega
              · first | omega | (simp; omega)
              · intro v' w2 hown2 hgrow2 _
                have HF2 : Hid (Fr (fun _ => False) w w2) := (HFr.out.alloc _).grown hgrow2 (fun k hk hlt => by have := (HO.out.lt k hk).1; omega)
                have HO2 : Hid (w2.ownsRow w.heap.size 100 2 v' (L ++ [(F, XX)]).length (runCells (L ++ [(F, XX)]))) := by rw [runCells_append, List.length_append]; exact hown2
                clear hown2 hgrow2
                go_wp2_with fail
                go_roundg (64 * K + 64 - (XX + 1))
                case measure => have := HXX.out; omega
                case rel => exact ⟨XX + 1, G + D, false, XX, L ++ [(F, XX)], by have := HXX.out; omega, by omega, by have := HXX.out; omega, by omega, congrArg (Value.int .i64) (by omega), rfl, rfl, HN.out, HXN.out, by omega, HO2.out, HF2.out⟩
    · have hKe : K = S := by omega
      have dK : decide (K < S) = false := decide_eq_false hKS
      have HSW : Hid (st f W = (L, if t then some F else none)) := by
        have := HST.out
        rwa [Nat.min_eq_right (by omega)] at this
      have HLN : Hid (L.length ≤ W + 1) := by have := st_len f W; rw [HSW.out] at this; exact this
      have hKb : 64 * K < W + 64 := by omega
      clear HST
      clear hKe
      cases t
      · have hT : ((turnW false : Nat) : Int) = 0 := rfl
        have HE : Hid (rl f W = L) := by show rl f W = L; unfold rl; rw [HSW.out]; rfl
        go_wp2_with fail
        (try rw [Exit.noGoto_ret])
        go_ret
        rw [HE.out]
        exact ⟨_, rfl, HO.out, HFr.out⟩
      · have hT : ((turnW true : Nat) : Int) = 18446744073709551615 := rfl
        have HE : Hid (rl f W = L ++ [(F, W)]) := by show rl f W = _; unfold rl; rw [HSW.out]; rfl
        have hln := HLN.out
        have hsz : w.heap.size ≤ wr.heap.size := HFr.out.size
        go_wp2_with (first | (at_builtin; refine wpList_append_own _ rfl _ _ 97 rfl w.heap.size 100 i0 (.agg #[.int .i64 0, .int .i64 0]) 2 16 Try.underlying97 hi hz0 hz1 hz2 rfl (by decide) _ _ _ rfl (HO.out.alloc _) ⟨wr.heap.size, 0, none⟩ 1 1 _ rfl rfl (cell_two_new _ _ _ _) ?_ ?_ ?_ ?_ ?_))
        · first | exact ⟨rfl, rfl⟩ | (intro u hu; simp at hu; rcases hu with rfl | rfl <;> rfl)
        · unfold maxLen; omega
        · omega
        · first | omega | (simp; omega)
        · intro v' w2 hown2 hgrow2 _
          have HF2 : Hid (Fr (fun _ => False) w w2) := (HFr.out.alloc _).grown hgrow2 (fun k hk hlt => by have := (HO.out.lt k hk).1; omega)
          have HO2 : Hid (w2.ownsRow w.heap.size 100 2 v' (rl f W).length (runCells (rl f W))) := by rw [HE.out, runCells_append, List.length_append]; exact hown2
          clear hown2 hgrow2
          go_wp2_with fail
          (try rw [Exit.noGoto_ret])
          go_ret
          exact ⟨_, rfl, HO2.out, HF2.out⟩

end Go.Proofs.Ytgpciopoionmeaa
