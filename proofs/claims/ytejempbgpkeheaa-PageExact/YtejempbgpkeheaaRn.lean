/- The reference's page: New. -/
import Derived.Test.YtejempbgpkeheaaRp
import Derived.Deep.LoopGhost
namespace Go.Proofs.Ytejempbgpkeheaa
open Go.RowKit

theorem put_rb (W H g N : Nat) (P : Nat → Nat → Bool) (x y : Nat) (w : World) (hv : RB w g N W H P) (h1 : 1 ≤ W) (h2 : 1 ≤ H) (h3 : W * H ≤ 1048576) (hx : x < W) (hy : y < H) :
    Calls Try.prog 29 #[.agg #[.int .i64 W, .int .i64 H, .slice (some ⟨g, 0, none⟩) N N], .int .i64 x, .int .i64 y, .int .i64 1] w fun e w' => e = .returned (.tuple #[]) ∧ RB w' g N W H (putPix P x y true) ∧ Fr (fun k => k = g) w w' := by
  obtain ⟨rfl, hr⟩ := hv
  refine (zput_any W H g _ P x y true w hr h1 h2 h3 hx hy).mono ?_
  rintro e w' ⟨he, hr', hf⟩
  exact ⟨he, ⟨rfl, hr'⟩, hf⟩
/-- Rows that are black already: those ahead of Y, and X pixels of Y. -/
def blk (Y X : Nat) : Nat → Nat → Bool := fun a e => decide (e < Y ∨ (e = Y ∧ a < X))
theorem blk_zero : (fun _ _ => false) = blk 0 0 := by funext a e; unfold blk; exact (decide_eq_false (by omega)).symm
theorem blk_put (Y X : Nat) : putPix (blk Y X) X Y true = blk Y (X + 1) := by
  funext a e
  unfold putPix blk
  by_cases h : a = X ∧ e = Y
  · rw [if_pos h]; exact (decide_eq_true (by omega)).symm
  · rw [if_neg h]; exact decide_eq_decide.2 (by omega)
theorem blk_row {W Y : Nat} : ∀ a e, a < W → blk Y W a e = blk (Y + 1) 0 a e := by
  intro a e ha
  unfold blk
  exact decide_eq_decide.2 (by omega)
theorem blk_all {H : Nat} : ∀ a e, e < H → blk H 0 a e = true := by
  intro a e he
  unfold blk
  exact decide_eq_true (by omega)
theorem nine_new (w : World) (x0 x1 x2 x3 x4 x5 x6 x7 x8 : Value) : (w.alloc (.cells #[x0, x1, x2, x3, x4, x5, x6, x7, x8] 42)).heap[w.heap.size]? = some (.cells #[x0, x1, x2, x3, x4, x5, x6, x7, x8] 42 (0, 0)) := heap_alloc_new _ _
theorem nxq {J H q : Nat} (h : J + q = H) (k : J < H) : (J + 1 + (q - 1) = H) ∧ q - 1 < q := ⟨by omega, by omega⟩
theorem nxw {J : Nat} : ((J : Int) + 1) = ((J + 1 : Nat) : Int) := by omega

def RnPost (w : World) (W H d s : Nat) (e : Ending) (w' : World) : Prop := ∃ r g N, e = .returned (.pointer (some ⟨r, 0, none⟩)) ∧ RpAt w' r g N W H d s 0 false (fun _ _ => decide (d = 1)) ∧ Fr (fun _ => False) w w' ∧ w.heap.size ≤ r ∧ w.heap.size ≤ g
set_option maxRecDepth 100000 in
set_option maxHeartbeats 4000000 in
theorem rnew_ok (W H d s : Nat) (w : World) (h1 : 1 ≤ W) (h2 : 1 ≤ H) (h3 : W * H ≤ 1048576) (hd : d ≤ 1) (hs : s ≤ 1048576) :
    Calls Try.prog 9 #[.agg #[.int .i64 W, .int .i64 H, .int .i64 d, .int .i64 s]] w (RnPost w W H d s) := by
  obtain ⟨f1, f2, -⟩ := size_facts h1 h2 h3
  have HSZ : Hid (1 ≤ W ∧ 1 ≤ H ∧ W * H ≤ 1048576 ∧ s ≤ 1048576 ∧ W ≤ 1048576 ∧ H ≤ 1048576) := ⟨h1, h2, h3, hs, f1, f2⟩
  have HWH : Hid (∀ w' : World, Calls Try.prog 23 #[.int .i64 W, .int .i64 H] w' fun e w'' => ∃ g N, e = .returned (.agg #[.int .i64 W, .int .i64 H, .slice (some ⟨g, 0, none⟩) N N]) ∧ RB w'' g N W H (fun _ _ => false) ∧ Fr (fun _ => False) w' w'' ∧ w'.heap.size ≤ g) := fun w' => white_rb W H H w' rfl h1 h2 h3
  have HB : Hid (∀ w', Fr (fun _ => False) (w.alloc (.cells #[.int .i64 W, .int .i64 H, .int .i64 d, .int .i64 s] 23)) w' → w'.cell? ⟨w.heap.size, 0, none⟩ = some (.int .i64 W) ∧ w'.cell? ⟨w.heap.size, 1, none⟩ = some (.int .i64 H) ∧ w'.cell? ⟨w.heap.size, 2, none⟩ = some (.int .i64 d) ∧ w'.cell? ⟨w.heap.size, 3, none⟩ = some (.int .i64 s)) := fun w' f => by
    obtain ⟨c0, c1, c2, c3, _⟩ := cell_of_four (blk_kept (four_new w (.int .i64 W) (.int .i64 H) (.int .i64 d) (.int .i64 s) 23) f (fun h => h))
    exact ⟨c0, c1, c2, c3⟩
  have HF0 : Hid (Fr (fun _ => False) w (w.alloc (.cells #[.int .i64 W, .int .i64 H, .int .i64 d, .int .i64 s] 23)) ∧ w.heap.size < (w.alloc (.cells #[.int .i64 W, .int .i64 H, .int .i64 d, .int .i64 s] 23)).heap.size) := ⟨(Fr.refl _ _).alloc _, by simp⟩
  clear h1 h2 h3 hs f1 f2
  go_enter Try.func9, Try.ntmps9
  go_wp2_with fail
  generalize w.alloc (.cells #[.int .i64 W, .int .i64 H, .int .i64 d, .int .i64 s] 23) = w0 at *
  go_region_held3 (fun w' => w'.cell? ⟨w.heap.size, 0, none⟩ = some (.int .i64 W) ∧ w'.cell? ⟨w.heap.size, 1, none⟩ = some (.int .i64 H) ∧ w'.cell? ⟨w.heap.size, 2, none⟩ = some (.int .i64 d) ∧ w'.cell? ⟨w.heap.size, 3, none⟩ = some (.int .i64 s)) (first | exact HB.out _ ((Fr.refl _ _).drew) | exact HB.out _ (((Fr.refl _ _).drew).trans hf1 (fun _ _ h => h)) | exact HB.out _ ((((Fr.refl _ _).drew).trans hf1 (fun _ _ h => h)).alloc _)) (first | (go_at_call 23; refine (HWH.out _).mono ?_; rintro e w1 ⟨g, N, rfl, hr1, hf1, hg1⟩))
  have HFA : Hid (Fr (fun _ => False) w0 (w1.alloc (.cells #[.int .i64 W, .int .i64 H, .int .i64 d, .int .i64 s, .int .i64 W, .int .i64 H, .slice (some ⟨g, 0, none⟩) N N, .int .i64 0, .bool false] 42))) := (((Fr.refl _ _).drew).trans hf1 (fun _ _ h => h)).alloc _
  have HR1 : Hid (RB (w1.alloc (.cells #[.int .i64 W, .int .i64 H, .int .i64 d, .int .i64 s, .int .i64 W, .int .i64 H, .slice (some ⟨g, 0, none⟩) N N, .int .i64 0, .bool false] 42)) g N W H (fun _ _ => false)) := hr1.kept ((Fr.refl (fun _ => False) _).alloc _) (fun h => h)
  have HBK : Hid ((w1.alloc (.cells #[.int .i64 W, .int .i64 H, .int .i64 d, .int .i64 s, .int .i64 W, .int .i64 H, .slice (some ⟨g, 0, none⟩) N N, .int .i64 0, .bool false] 42)).heap[w1.heap.size]? = some (.cells #[.int .i64 W, .int .i64 H, .int .i64 d, .int .i64 s, .int .i64 W, .int .i64 H, .slice (some ⟨g, 0, none⟩) N N, .int .i64 0, .bool false] 42 (0, 0))) := nine_new _ _ _ _ _ _ _ _ _ _
  have HGG : Hid (w1.heap.size ≠ g ∧ w0.heap.size ≤ g ∧ w0.heap.size ≤ w1.heap.size ∧ w.heap.size < w0.heap.size) := by
    have a1 := hr1.lt
    have a2 : w0.heap.size ≤ w1.heap.size := hf1.size
    have a3 : w0.heap.size ≤ g := hg1
    exact ⟨by omega, a3, a2, HF0.out.2⟩
  clear hr1 hf1 hg1 HWH
  go_wp2_with fail
  generalize w1.alloc (.cells #[.int .i64 W, .int .i64 H, .int .i64 d, .int .i64 s, .int .i64 W, .int .i64 H, .slice (some ⟨g, 0, none⟩) N N, .int .i64 0, .bool false] 42) = w3 at *
  generalize w1.heap.size = r at *
  have HEND : Hid (∀ w', Fr (fun k => k = g) w3 w' → RB w' g N W H (fun _ _ => decide (d = 1)) → RpAt w' r g N W H d s 0 false (fun _ _ => decide (d = 1)) ∧ Fr (fun _ => False) w w' ∧ w.heap.size ≤ r ∧ w.heap.size ≤ g) := fun w' f hr => by
    have q := HGG.out
    have z := HSZ.out
    exact ⟨⟨blk_kept HBK.out f q.1, hr, q.1, z.1, z.2.1, z.2.2.1, Nat.zero_le _, z.2.2.2.1⟩, HF0.out.1.trans (HFA.out.new0 f q.2.1) (fun _ _ h => h), by omega, by omega⟩
  have HCL : Hid (∀ w', Fr (fun k => k = g) w3 w' → (w'.cell? ⟨w.heap.size, 0, none⟩ = some (.int .i64 W) ∧ w'.cell? ⟨w.heap.size, 1, none⟩ = some (.int .i64 H) ∧ w'.cell? ⟨w.heap.size, 2, none⟩ = some (.int .i64 d)) ∧ w'.cell? ⟨r, 4, none⟩ = some (.int .i64 W) ∧ w'.cell? ⟨r, 5, none⟩ = some (.int .i64 H) ∧ w'.cell? ⟨r, 6, none⟩ = some (.slice (some ⟨g, 0, none⟩) N N)) := fun w' f => by
    have q := HGG.out
    obtain ⟨a0, a1, a2, _⟩ := HB.out w' (HFA.out.new0 f q.2.1)
    obtain ⟨_, _, _, _, q4, q5, q6, _⟩ := cell_of_nine (blk_kept HBK.out f q.1)
    exact ⟨⟨a0, a1, a2⟩, q4, q5, q6⟩
  clear HB HBK HFA HF0 HGG
  rcases (show d = 0 ∨ d = 1 by omega) with rfl | rfl
  · have HR2 : Hid (RB w3 g N W H (fun _ _ => decide (0 = 1))) := HR1.out
    clear HR1
    go_loopg [4, 5] 0 (fun _ y _ wr => y = .int .i64 0 ∧ wr = w3)
    case atStart => exact ⟨rfl, rfl⟩
    case round =>
      obtain ⟨rfl, hw⟩ := hrel
      subst hw
      obtain ⟨⟨c0, c1, c2⟩, -⟩ := HCL.out _ (Fr.refl _ _)
      have dH : decide ((0 : Int) < (H : Int)) = true := decide_eq_true (by have := HSZ.out; omega)
      have dH' : decide (0 < H) = true := decide_eq_true (by have := HSZ.out; omega)
      go_wp2_with fail
      (try simp only [Exit.inBlock, Exit.then])
      refine bodyPost_ret (v := .pointer (some ⟨r, 0, none⟩)) (by simp [results, Try.results9, go_sem]) rfl ?_
      exact ⟨r, g, N, rfl, HEND.out _ (Fr.refl _ _) HR2.out⟩
  · have HR2 : Hid (RB w3 g N W H (blk 0 0)) := by rw [← blk_zero]; exact HR1.out
    clear HR1
    go_loopg [4, 5] H (fun q y _ wr => ∃ Y : Nat, Y + q = H ∧ y = .int .i64 Y ∧ RB wr g N W H (blk Y 0) ∧ Fr (fun k => k = g) w3 wr)
    case atStart => exact ⟨0, Nat.zero_add _, rfl, HR2.out, Fr.refl _ _⟩
    case round =>
      obtain ⟨Y, hYq, rfl, hrb, hfq⟩ := hrel
      have HYQ : Hid (Y + gk = H) := hYq
      have HRB : Hid (RB wr g N W H (blk Y 0)) := hrb
      have HFQ : Hid (Fr (fun k => k = g) w3 wr) := hfq
      obtain ⟨⟨c0, c1, c2⟩, -⟩ := HCL.out _ hfq
      have hYl : Y ≤ 1048576 := by have := HSZ.out; omega
      clear hYq hrb hfq
      by_cases hYH : Y < H
      · have dY : decide (Y < H) = true := decide_eq_true hYH
        have HYH : Hid (Y < H) := hYH
        have HGK : Hid ((Y + 1 + (gk - 1) = H) ∧ gk - 1 < gk) := nxq HYQ.out hYH
        generalize hgq : gk - 1 = gp at *
        clear hgq
        go_wp2_with fail
        clear c0 c1 c2
        go_loopg [5] W (fun q x wr => ∃ X : Nat, X + q = W ∧ x = .int .i64 X ∧ RB wr g N W H (blk Y X) ∧ Fr (fun k => k = g) w3 wr)
        case atStart => exact ⟨0, Nat.zero_add _, rfl, HRB.out, HFQ.out⟩
        case round =>
          obtain ⟨X, hXq, rfl, hrb, hfq⟩ := hrel
          have HXQ : Hid (X + gk = W) := hXq
          have HRX : Hid (RB wr g N W H (blk Y X)) := hrb
          have HFX : Hid (Fr (fun k => k = g) w3 wr) := hfq
          obtain ⟨⟨c0, c1, c2⟩, q4, q5, q6⟩ := HCL.out _ hfq
          have hXl : X ≤ 1048576 := by have := HSZ.out; omega
          clear hXq hrb hfq
          by_cases hXW : X < W
          · have dX : decide (X < W) = true := decide_eq_true hXW
            have HPU : Hid (Calls Try.prog 29 #[.agg #[.int .i64 W, .int .i64 H, .slice (some ⟨g, 0, none⟩) N N], .int .i64 X, .int .i64 Y, .int .i64 1] wr fun e w' => e = .returned (.tuple #[]) ∧ RB w' g N W H (blk Y (X + 1)) ∧ Fr (fun k => k = g) wr w') := by
              have z := HSZ.out
              have := put_rb W H g N (blk Y X) X Y wr HRX.out z.1 z.2.1 z.2.2.1 hXW HYH.out
              rwa [blk_put] at this
            have HXK : Hid ((X + 1 + (gk - 1) = W) ∧ gk - 1 < gk) := nxq HXQ.out hXW
            go_wp2_with fail
            refine HPU.out.mono ?_
            rintro e w5 ⟨rfl, hr5, hf5⟩
            have HR5 : Hid (RB w5 g N W H (blk Y (X + 1))) := hr5
            have HF5 : Hid (Fr (fun k => k = g) w3 w5) := HFX.out.trans hf5 (fun _ _ h => h)
            clear hr5 hf5 HPU c0 c1 c2 q4 q5 q6
            go_wp2_with fail
            go_roundg (gk - 1)
            case measure => exact HXK.out.2
            case rel => exact ⟨X + 1, HXK.out.1, congrArg (Value.int .i64) nxw, HR5.out, HF5.out⟩
          · have dX : decide (X < W) = false := decide_eq_false hXW
            have HRY : Hid (RB wr g N W H (blk (Y + 1) 0)) := by
              have e : X = W := by have := HXQ.out; omega
              have := HRX.out
              rw [e] at this
              exact this.pix (fun a e ha _ => blk_row a e ha)
            go_wp2_with fail
            go_roundg gp
            case measure => exact HGK.out.2
            case rel => exact ⟨Y + 1, HGK.out.1, congrArg (Value.int .i64) nxw, HRY.out, HFX.out⟩
      · have dY : decide (Y < H) = false := decide_eq_false hYH
        have HRH : Hid (RB wr g N W H (fun _ _ => decide (1 = 1))) := by
          have e : Y = H := by have := HYQ.out; omega
          have := HRB.out
          rw [e] at this
          exact this.pix (fun a e _ he => blk_all a e he)
        go_wp2_with fail
        (try simp only [Exit.inBlock, Exit.then])
        refine bodyPost_ret (v := .pointer (some ⟨r, 0, none⟩)) (by simp [results, Try.results9, go_sem]) rfl ?_
        exact ⟨r, g, N, rfl, HEND.out _ HFQ.out HRH.out⟩

end Go.Proofs.Ytejempbgpkeheaa
