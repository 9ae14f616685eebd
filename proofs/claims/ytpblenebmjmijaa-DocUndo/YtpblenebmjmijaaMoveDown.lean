/- 'move' within one map. -/
import Derived.Test.YtpblenebmjmijaaMove
namespace Go.Proofs.Ytpblenebmjmijaa
open Go.RowKit

set_option maxRecDepth 100000 in
set_option maxHeartbeats 2000000 in
theorem move_down (f num : Nat) (opb : Bool → Bool → Bool) (hlay : LayOK f opb) (b g cap W H : Nat)  (Qk : Nat → Nat → Nat → Bool) (Ps : Nat → Nat → Bool) (sx ax n sy dy m : Nat) (w : World)
    (h : MapAt w b g cap W H (Qk 0))  (h1 : sx + n ≤ W) (h2 : ax + n ≤ W) (h3 : sy + m ≤ H) (h4 : dy + m ≤ H) (hdir : sy < dy)
    (hag : ∀ k x, k < m → x < W → Qk k x (sy + (m - 1 - k)) = Ps x (sy + (m - 1 - k)))
    (hst : ∀ k, k < m → laidAll (Qk k) (dy + (m - 1 - k)) ax n (fun a => opb (Qk k a (dy + (m - 1 - k))) (Ps (a - ax + sx) (sy + (m - 1 - k)))) = Qk (k + 1)) :
    Calls Try.prog 51 #[.pointer (some ⟨b, 0, none⟩), .pointer (some ⟨b, 0, none⟩), .agg #[.int .i64 sx, .int .i64 ax, .int .i64 n], .agg #[.int .i64 sy, .int .i64 dy, .int .i64 m], .agg #[.int .i64 num, .func (.func f) #[] #[]]] w fun e w' => e = .returned (.tuple #[]) ∧ MapAt w' b g cap W H (Qk m) ∧ Fr (fun k => k = g) w w' := by
  have HLAY : Hid (LayOK f opb) := hlay
  have HA : Hid (MapAt w b g cap W H (Qk 0)) := h
  
  have HAG : Hid (∀ k x, k < m → x < W → Qk k x (sy + (m - 1 - k)) = Ps x (sy + (m - 1 - k))) := hag
  have HST : Hid (∀ k, k < m → laidAll (Qk k) (dy + (m - 1 - k)) ax n (fun a => opb (Qk k a (dy + (m - 1 - k))) (Ps (a - ax + sx) (sy + (m - 1 - k)))) = Qk (k + 1)) := hst
  obtain ⟨i0, hi, hz0, hz1, hz2⟩ := info_parts Try.info70
  obtain ⟨s1, s2, s3⟩ := size_facts h.wpos h.hpos h.area
  
  obtain ⟨k0, k1, k2, k3, kf⟩ := cell_of_four h.blk
  have hgl := h.glt
  have hbl := h.lt
  
  obtain ⟨j59, hj59, hj4⟩ : ∃ j, Try.prog.info? 90 = some j ∧ j.size = 4 := by
    have := Try.info69
    cases h59 : Try.prog.info? 90 with
    | none => rw [h59] at this; simp at this
    | some j => rw [h59] at this; simp at this; exact ⟨j, rfl, this⟩
  have heql : ∀ w : World, (binOp .eql 57 (.pointer (some ⟨b, 0, none⟩)) (.pointer (some ⟨b, 0, none⟩))).run Try.prog w = .ok (.bool true) w := fun w => run_eql_ptr_same w _ Try.underlying57 hj59
  skip
  have HF3 : Hid (Fr (fun _ => False) w (((w.alloc (.cells #[.int .i64 sx, .int .i64 ax, .int .i64 n] 88)).alloc (.cells #[.int .i64 sy, .int .i64 dy, .int .i64 m] 88)).alloc (.cells #[.int .i64 num, .func (.func f) #[] #[]] 98))) := (((Fr.refl (fun _ => False) w).alloc _).alloc _).alloc _
  have k2' : ((((w.alloc (.cells #[.int .i64 sx, .int .i64 ax, .int .i64 n] 88)).alloc (.cells #[.int .i64 sy, .int .i64 dy, .int .i64 m] 88)).alloc (.cells #[.int .i64 num, .func (.func f) #[] #[]] 98))).cell? ⟨b, 2, none⟩ = some (.int .i64 (stride W : Nat)) := by rw [HF3.out.cell h.lt (fun hh => hh)]; exact k2
  have HB0 : Hid (((((w.alloc (.cells #[.int .i64 sx, .int .i64 ax, .int .i64 n] 88)).alloc (.cells #[.int .i64 sy, .int .i64 dy, .int .i64 m] 88)).alloc (.cells #[.int .i64 num, .func (.func f) #[] #[]] 98))).heap[w.heap.size]? = some (.cells #[.int .i64 sx, .int .i64 ax, .int .i64 n] 88 (0, 0)) ∧ ((((w.alloc (.cells #[.int .i64 sx, .int .i64 ax, .int .i64 n] 88)).alloc (.cells #[.int .i64 sy, .int .i64 dy, .int .i64 m] 88)).alloc (.cells #[.int .i64 num, .func (.func f) #[] #[]] 98))).heap[w.heap.size + 1]? = some (.cells #[.int .i64 sy, .int .i64 dy, .int .i64 m] 88 (0, 0)) ∧ ((((w.alloc (.cells #[.int .i64 sx, .int .i64 ax, .int .i64 n] 88)).alloc (.cells #[.int .i64 sy, .int .i64 dy, .int .i64 m] 88)).alloc (.cells #[.int .i64 num, .func (.func f) #[] #[]] 98))).heap[w.heap.size + 1 + 1]? = some (.cells #[.int .i64 num, .func (.func f) #[] #[]] 98 (0, 0)) ∧ ((((w.alloc (.cells #[.int .i64 sx, .int .i64 ax, .int .i64 n] 88)).alloc (.cells #[.int .i64 sy, .int .i64 dy, .int .i64 m] 88)).alloc (.cells #[.int .i64 num, .func (.func f) #[] #[]] 98))).heap.size = w.heap.size + 3) := by
    refine ⟨?_, ?_, ?_, by simp⟩
    · rw [Below.heap_alloc _ _ _ (by simp; omega), Below.heap_alloc _ _ _ (by simp)]; exact heap_alloc_new _ _
    · rw [Below.heap_alloc _ _ _ (by simp)]; exact heap_new1 _ _ _
    · exact heap_new2 _ _ _ _
  have hsb : stride W ≤ 1048576 := by unfold stride; omega
  clear h hlay hag hst kf k0 k1 k2 k3  hj59 hj4
  go_enter Try.func51, Try.ntmps51
  go_wp2_with (first | (at_make; refine wpList_make_full _ rfl _ _ 52 rfl 0 32 i0 (.int .u64 0) 1 Try.underlying52 hi hz0 hz1 .i64 .i64 _ _ (stride W + 2) rfl rfl ?_ ?_ ?_ ?_ ?_ ?_))
  all_goals first | omega | (rw [hz2]; omega) | (unfold maxLen; omega) | skip
  intro w2 hown hgrow
  have e3 : ((((w.alloc (.cells #[.int .i64 sx, .int .i64 ax, .int .i64 n] 88)).alloc (.cells #[.int .i64 sy, .int .i64 dy, .int .i64 m] 88)).alloc (.cells #[.int .i64 num, .func (.func f) #[] #[]] 98))).heap.size = w.heap.size + 1 + 1 + 1 := by simp
  try rw [e3] at hown
  try rw [e3]
  clear e3
  try rw [Nat.mul_one] at hown
  have HL0 : Hid (LineBlk w2 (w.heap.size + 1 + 1 + 1) (stride W + 2) (List.replicate (stride W + 2) 0)) := line_made hown (by omega)
  have HF00 : Hid (Fr (fun _ => False) (((w.alloc (.cells #[.int .i64 sx, .int .i64 ax, .int .i64 n] 88)).alloc (.cells #[.int .i64 sy, .int .i64 dy, .int .i64 m] 88)).alloc (.cells #[.int .i64 num, .func (.func f) #[] #[]] 98)) w2) := (Fr.refl _ _).grown hgrow (fun _ e _ => by cases e)
  have HF0 : Hid (Fr (fun i => i = g ∨ w.heap.size + 1 + 1 + 1 ≤ i) (((w.alloc (.cells #[.int .i64 sx, .int .i64 ax, .int .i64 n] 88)).alloc (.cells #[.int .i64 sy, .int .i64 dy, .int .i64 m] 88)).alloc (.cells #[.int .i64 num, .func (.func f) #[] #[]] 98)) w2) := (Fr.refl _ _).grown hgrow (fun _ e _ => by cases e)
  clear hown hgrow k2' heql
  obtain ⟨p0, p1, p2, p3⟩ := HB0.out
  have hc2 : w2.cell? ⟨w.heap.size + 1, 2, none⟩ = some (.int .i64 m) := by
    rw [HF0.out.cell (by rw [p3]; omega) (by omega)]; exact (cell_of_three p1).2.2.1
  clear p0 p1 p2 p3
  go_wp2_with fail
  go_loopw [32] (fun i wr => ∃ (k : Nat) (l : List Nat), k ≤ m ∧ i = .int .i64 k ∧ MapAt wr b g cap W H (Qk k) ∧ LineBlk wr (w.heap.size + 1 + 1 + 1) (stride W + 2) l ∧ Fr (fun i => i = g ∨ w.heap.size + 1 + 1 + 1 ≤ i) (((w.alloc (.cells #[.int .i64 sx, .int .i64 ax, .int .i64 n] 88)).alloc (.cells #[.int .i64 sy, .int .i64 dy, .int .i64 m] 88)).alloc (.cells #[.int .i64 num, .func (.func f) #[] #[]] 98)) wr) (fun i _ => m - (intOf i).toNat)
  case atStart => exact ⟨0, _, Nat.zero_le _, rfl, HA.out.kept (HF3.out.trans HF00.out (fun _ _ hh => hh)) (fun hh => hh) (fun hh => hh), HL0.out, HF0.out⟩
  case round =>
    obtain ⟨k, l, hk, rfl, hat, hlb, hfr⟩ := hrel
    have HM : Hid (MapAt wr b g cap W H (Qk k)) := hat
    have HLB : Hid (LineBlk wr (w.heap.size + 1 + 1 + 1) (stride W + 2) l) := hlb
    have HF : Hid (Fr (fun i => i = g ∨ w.heap.size + 1 + 1 + 1 ≤ i) (((w.alloc (.cells #[.int .i64 sx, .int .i64 ax, .int .i64 n] 88)).alloc (.cells #[.int .i64 sy, .int .i64 dy, .int .i64 m] 88)).alloc (.cells #[.int .i64 num, .func (.func f) #[] #[]] 98)) wr) := hfr
    have HSR : Hid (MapAt wr b g cap W H (Qk k)) := hat
    obtain ⟨p0, p1, p2, p3⟩ := HB0.out
    have q0 : wr.heap[w.heap.size]? = some (.cells #[.int .i64 sx, .int .i64 ax, .int .i64 n] 88 (0, 0)) := by rw [hfr.block _ (by rw [p3]; omega) (by omega)]; exact p0
    have q1 : wr.heap[w.heap.size + 1]? = some (.cells #[.int .i64 sy, .int .i64 dy, .int .i64 m] 88 (0, 0)) := by rw [hfr.block _ (by rw [p3]; omega) (by omega)]; exact p1
    have q2 : wr.heap[w.heap.size + 1 + 1]? = some (.cells #[.int .i64 num, .func (.func f) #[] #[]] 98 (0, 0)) := by rw [hfr.block _ (by rw [p3]; omega) (by omega)]; exact p2
    obtain ⟨d0, d1, d2, df⟩ := cell_of_three q1
    clear hat hlb hfr p0 p1 p2 p3 df
    by_cases hlt : k < m
    · have HQ : Hid (wr.heap[w.heap.size]? = some (.cells #[.int .i64 sx, .int .i64 ax, .int .i64 n] 88 (0, 0)) ∧ wr.heap[w.heap.size + 1 + 1]? = some (.cells #[.int .i64 num, .func (.func f) #[] #[]] 98 (0, 0))) := ⟨q0, q2⟩
      clear q0 q1 q2
      have HRW : Hid (∀ (w' : World) (x : Int), Fr (fun _ => False) wr w' → x = ((sy + (m - 1 - k) : Nat) : Int) → Calls Try.prog 44 #[.pointer (some ⟨b, 0, none⟩), .int .i64 x] w' fun e w'' => e = .returned (.slice (some ⟨g, (sy + (m - 1 - k)) * stride W, none⟩) (stride W) (stride W)) ∧ ∃ q, w'' = w'.drewN q) := fun w' x hf hx => row_any' _ _ _ _ _ _ x (sy + (m - 1 - k)) w' hx (HSR.out.kept hf (fun hh => hh) (fun hh => hh)) (by omega)
      obtain ⟨cs, hcs⟩ : ∃ cs, cs = wordCells ((List.range (stride W)).map fun j => wd W (Qk k) (sy + (m - 1 - k)) j) := ⟨_, rfl⟩
      have HCS : Hid (cs = wordCells ((List.range (stride W)).map fun j => wd W (Qk k) (sy + (m - 1 - k)) j)) := hcs
      have hcl : cs.length = stride W := by rw [hcs]; simp [wordCells]
      have HCO : Hid (∀ u ∈ cs, u.oneCell' = true) := by show ∀ _, _; rw [hcs]; exact wordCells_one _
      have HCC : Hid (∀ (w' : World), Fr (fun _ => False) wr w' → ∀ (j : Nat) (v : Value), cs[j]? = some v → w'.cell? ((⟨g, (sy + (m - 1 - k)) * stride W, none⟩ : Addr).add j) = some v) := fun w' hf => by rw [hcs]; exact (HSR.out.kept hf (fun hh => hh) (fun hh => hh)).rowCells (by omega)
      clear hcs
      have hspos : 0 < stride W := stride_pos (HSR.out.wpos)
      have hl1 : (1 : Int) ≤ ((stride W + 2 : Nat) : Int) := by omega
      have hl2 : ¬ stride W + 2 = 1 := by omega
      have hl3 : ¬ stride W + 2 - 1 = 0 := by omega
      have hl4 : (1 : Int) ≤ (stride W : Int) + 2 := by omega
      have HKP : Hid (∀ w' : World, Fr (fun k => (w.heap.size + 1 + 1 + 1) ≤ k) wr w' → w'.cell? ⟨w.heap.size + 1, 0, none⟩ = some (.int .i64 sy)) := fun w' hf => by
        rw [hf.cell (by have := HF.out.size; have := HB0.out.2.2.2; omega) (by omega)]; exact d0
      go_wp2_with fail
      go_region_held3 (fun w' => w'.cell? ⟨w.heap.size + 1, 0, none⟩ = some (.int .i64 sy)) (first | exact HKP.out _ ((Fr.refl _ _).drew) | exact HKP.out _ ((Fr.refl _ _).drewN _) | exact HKP.out _ (Fr.of_below_ge hb5)) (first | (go_at_call 44; refine (HRW.out _ _ ?_ ?_).mono ?_; (exact (Fr.refl _ _).drew); (first | omega | (rw [IntKind.wrap_i64]; omega)); rintro e w4 ⟨rfl, q4, hw4⟩) | (refine step_copy_splice rfl (.tmp 43) (.tmp 49) 52 52 rfl 32 Try.underlying52 Try.size60 _ _ _ _ _ _ rfl rfl (w.heap.size + 1 + 1 + 1) 1 (wordCells l) 32 ?_ cs ?_ ?_ ?_ HCO.out (w.heap.size + 1 + 1 + 1) wr ?_ (Nat.le_refl (w.heap.size + 1 + 1 + 1)) ?_; (exact HLB.out.1); (show cs.length = min _ _; omega); (intro _; exact ⟨rfl, _, rfl, HCC.out _ ((Fr.refl _ _).drewN _)⟩); (rw [length_wordCells, HLB.out.2.1, hcl]; omega); (exact ((Fr.refl (fun _ => False) wr).drewN _).below (Nat.le_of_lt (lt_of_block HLB.out.1)) (fun _ _ hh => hh)); intro w5 hg5 hb5))
      have HLB5 : Hid (LineBlk w5 (w.heap.size + 1 + 1 + 1) (stride W + 2) (rowLine W (Qk k) (sy + (m - 1 - k)))) := by
        refine LineBlk.row ?_ rfl
        rw [hg5.out, HCS.out, HLB.out.spliced rfl]
      have hf5 : Fr (fun k => (w.heap.size + 1 + 1 + 1) ≤ k) wr w5 := Fr.of_below_ge hb5
      have HM5 : Hid (MapAt w5 b g cap W H (Qk k)) := HM.out.kept hf5 (by omega) (by omega)
      have HF5 : Hid (Fr (fun i => i = g ∨ (w.heap.size + 1 + 1 + 1) ≤ i) (((w.alloc (.cells #[.int .i64 sx, .int .i64 ax, .int .i64 n] 88)).alloc (.cells #[.int .i64 sy, .int .i64 dy, .int .i64 m] 88)).alloc (.cells #[.int .i64 num, .func (.func f) #[] #[]] 98)) w5) := HF.out.trans hf5 (fun _ _ hh => Or.inr hh)
      have hsz5 : w.heap.size + 3 ≤ w5.heap.size := by have := HF5.out.size; have := HB0.out.2.2.2; omega
      have HB5 : Hid (w5.heap[w.heap.size]? = some (.cells #[.int .i64 sx, .int .i64 ax, .int .i64 n] 88 (0, 0)) ∧ w5.heap[w.heap.size + 1]? = some (.cells #[.int .i64 sy, .int .i64 dy, .int .i64 m] 88 (0, 0)) ∧ w5.heap[w.heap.size + 1 + 1]? = some (.cells #[.int .i64 num, .func (.func f) #[] #[]] 98 (0, 0))) := by
        obtain ⟨p0, p1, p2, p3⟩ := HB0.out
        exact ⟨by rw [HF5.out.block _ (by omega) (by omega)]; exact p0, by rw [HF5.out.block _ (by omega) (by omega)]; exact p1, by rw [HF5.out.block _ (by omega) (by omega)]; exact p2⟩
      have HK2 : Hid (∀ w' : World, Fr (fun k => k = g) w5 w' → w'.cell? ⟨w.heap.size + 1, 1, none⟩ = some (.int .i64 dy) ∧ w'.cell? ⟨w.heap.size, 0, none⟩ = some (.int .i64 sx) ∧ w'.cell? ⟨w.heap.size, 1, none⟩ = some (.int .i64 ax) ∧ w'.cell? ⟨w.heap.size, 2, none⟩ = some (.int .i64 n) ∧ w'.cell? ⟨w.heap.size + 1 + 1, 1, none⟩ = some (.func (.func f) #[] #[])) := fun w' hf => by
        obtain ⟨p0, p1, p2⟩ := HB5.out
        obtain ⟨u0, u1, u2, _⟩ := cell_of_three p0
        obtain ⟨v0, v1, v2, _⟩ := cell_of_three p1
        have x1 : w5.cell? ⟨w.heap.size + 1 + 1, 1, none⟩ = some (.func (.func f) #[] #[]) := by unfold World.cell?; rw [p2]; rfl
        refine ⟨?_, ?_, ?_, ?_, ?_⟩ <;> rw [hf.cell (by omega) (by omega)] <;> assumption
      have HRD : Hid (∀ (w' : World) (x : Int), Fr (fun _ => False) w5 w' → x = ((dy + (m - 1 - k) : Nat) : Int) → Calls Try.prog 44 #[.pointer (some ⟨b, 0, none⟩), .int .i64 x] w' fun e w'' => e = .returned (.slice (some ⟨g, (dy + (m - 1 - k)) * stride W, none⟩) (stride W) (stride W)) ∧ ∃ q, w'' = w'.drewN q) := fun w' x hf hx => row_any' _ _ _ _ _ _ x (dy + (m - 1 - k)) w' hx (HM5.out.kept hf (fun hh => hh) (fun hh => hh)) (by omega)
      have HLY : Hid (∀ (w' : World), Fr (fun _ => False) w5 w' → Calls Try.prog 63 #[.slice (some ⟨g, (dy + (m - 1 - k)) * stride W, none⟩) (stride W) (stride W), .slice (some ⟨(w.heap.size + 1 + 1 + 1), 0, none⟩) (stride W + 2) (stride W + 2), .agg #[.int .i64 sx, .int .i64 ax, .int .i64 n], .func (.func f) #[] #[]] w' fun e w'' => e = .returned (.tuple #[]) ∧ MapAt w'' b g cap W H (Qk (k + 1)) ∧ Fr (fun k => k = g) w' w'') := fun w' hf => by
        refine (HLAY.out b g cap W H (Qk k) (dy + (m - 1 - k)) sx ax n (w.heap.size + 1 + 1 + 1) (stride W + 2) (rowLine W (Qk k) (sy + (m - 1 - k))) w' (HM5.out.kept hf (fun hh => hh) (fun hh => hh)) (HLB5.out.line.kept hf (fun hh => hh)) (length_rowLine _ _ _) (by omega) (by omega) h2 (by omega) (by unfold stride; omega) (by omega)).mono ?_
        rintro e w'' ⟨he, hm, hfr⟩
        refine ⟨he, ?_, hfr⟩
        rw [← HST.out k hlt]
        refine hm.pix ?_
        intro a y _ _
        unfold laidAll
        by_cases hin : y = dy + (m - 1 - k) ∧ ax ≤ a ∧ a < ax + n
        · rw [if_pos hin, if_pos hin]
          dsimp only
          rw [rowLine_pix _ _ _ _ (by omega)]
          rw [HAG.out k _ hlt (by omega)]
        · rw [if_neg hin, if_neg hin]
      clear HM HLB HF HSR HRW HCC HCO HCS hf5 hg5 hb5 hcl d0 d1 d2 HKP HQ
      go_wp2_with fail
      go_region_held3 (fun w' => w'.cell? ⟨w.heap.size + 1, 1, none⟩ = some (.int .i64 dy) ∧ w'.cell? ⟨w.heap.size, 0, none⟩ = some (.int .i64 sx) ∧ w'.cell? ⟨w.heap.size, 1, none⟩ = some (.int .i64 ax) ∧ w'.cell? ⟨w.heap.size, 2, none⟩ = some (.int .i64 n) ∧ w'.cell? ⟨w.heap.size + 1 + 1, 1, none⟩ = some (.func (.func f) #[] #[])) (first | exact HK2.out _ ((Fr.refl _ _).drew) | exact HK2.out _ ((Fr.refl _ _).drewN _) | exact HK2.out _ (((Fr.refl _ _).drewN _).trans hf7 (fun _ _ hh => hh)) | exact HK2.out _ (((Fr.refl _ _).drew).trans hf7 (fun _ _ hh => hh))) (first | (go_at_call 44; refine (HRD.out _ _ ?_ ?_).mono ?_; (exact (Fr.refl _ _).drew); (first | omega | (rw [IntKind.wrap_i64]; omega)); rintro e w6 ⟨rfl, q6, hw6⟩) | (go_at_call 63; refine (HLY.out _ ?_).mono ?_; (exact (Fr.refl _ _).drewN _); rintro e w7 ⟨rfl, hm7, hf7⟩))
      have HM7 : Hid (MapAt w7 b g cap W H (Qk (k + 1))) := hm7
      have HF7 : Hid (Fr (fun i => i = g ∨ w.heap.size + 1 + 1 + 1 ≤ i) (((w.alloc (.cells #[.int .i64 sx, .int .i64 ax, .int .i64 n] 88)).alloc (.cells #[.int .i64 sy, .int .i64 dy, .int .i64 m] 88)).alloc (.cells #[.int .i64 num, .func (.func f) #[] #[]] 98)) w7) := (HF5.out.drewN _).trans hf7 (fun _ _ hh => Or.inl hh)
      have HL7 : Hid (LineBlk w7 (w.heap.size + 1 + 1 + 1) (stride W + 2) (rowLine W (Qk k) (sy + (m - 1 - k)))) := ⟨by rw [hf7.block _ (lt_of_block HLB5.out.1) (by omega)]; exact HLB5.out.1, HLB5.out.2⟩
      clear hm7 hf7 HLB5 HM5 HF5 HB5 HK2 HRD HLY
      go_wp2_with fail
      go_roundw
      case rel => exact ⟨k + 1, _, by omega, congrArg (Value.int .i64) (by omega), HM7.out, HL7.out, HF7.out⟩
      case measure => simp [intOf]; omega
    · have hkn : k = m := by omega
      subst hkn
      go_wp2_with fail
      go_end0
      refine ⟨rfl, HM.out, (HF3.out.mono (fun _ _ hh => hh.elim)).trans HF.out (fun i hi hh => ?_)⟩
      rcases hh with h | h
      · exact h
      · omega

end Go.Proofs.Ytpblenebmjmijaa
