/- The document's own 'White', 'Put', 'Count'. -/
import Derived.Test.YtgpciopoionmeaaCrop
import Derived.Test.YtgpciopoionmeaaPaint
namespace Go.Proofs.Ytgpciopoionmeaa
open Go.RowKit

/-- A plain bitmap's words: block g. -/
def RowAt (w : World) (g cap W H : Nat) (P : Nat → Nat → Bool) : Prop := w.ownsRow 0 62 1 (.slice (some ⟨g, 0, none⟩) (H * stride W) cap) (H * stride W) (wordCells (render W H P))
theorem RowAt.kept {S : Nat → Prop} {w w' : World} {g cap W H : Nat} {P : Nat → Nat → Bool} (h : RowAt w g cap W H P) (f : Fr S w w') (h1 : ¬ S g) : RowAt w' g cap W H P :=
  row_kept h f (fun k hk => by simp [Value.ownBlock] at hk; subst hk; exact h1)
theorem RowAt.seen {w : World} {g cap W H : Nat} {P : Nat → Nat → Bool} (h : RowAt w g cap W H P) (hl : H * stride W ≤ 1048576) : Seen w (.slice (some ⟨g, 0, none⟩) (H * stride W) cap) (render W H P) := by
  have := Seen.of_row (base := 0) (w := w) (v := .slice (some ⟨g, 0, none⟩) (H * stride W) cap) (l := render W H P) (by rw [length_render]; exact h) (by rw [length_render]; omega)
  exact this
theorem RowAt.lt {w : World} {g cap W H : Nat} {P : Nat → Nat → Bool} (h : RowAt w g cap W H P) : g < w.heap.size := (World.ownsRow.lt h g rfl).2
def putPix (P : Nat → Nat → Bool) (x y : Nat) (c : Bool) : Nat → Nat → Bool := fun a e => if a = x ∧ e = y then c else P a e

theorem RowAt.put {w : World} {g cap W H : Nat} {P Q : Nat → Nat → Bool} (h : RowAt w g cap W H P) {y j x : Nat} (hy : y < H) (hj : j < stride W) (hx : x < 18446744073709551616)
    (hw : ∀ k, k < 64 → x.testBit (63 - k) = (decide (64 * j + k < W) && Q (64 * j + k) y)) (ho : ∀ a b, a < W → b < H → ¬ (b = y ∧ a / 64 = j) → Q a b = P a b) :
    RowAt (w.setCell ⟨g, y * stride W + j, none⟩ (.int .u64 (x : Int))) g cap W H Q := by
  have := (World.ownsRow.stored h (y * stride W + j) (.int .u64 (x : Int))).1
  rw [wordCells_set, render_set hy hj hx hw ho] at this
  exact this

theorem one_shl (k : Nat) (hk : k < 64) : (2 ^ k % 18446744073709551616) = 2 ^ k := Nat.mod_eq_of_lt (Nat.pow_lt_pow_right (by omega) (show k < 64 from hk))

set_option maxRecDepth 100000 in
set_option maxHeartbeats 1000000 in
theorem zput_any (W H g cap : Nat) (P : Nat → Nat → Bool) (x y : Nat) (c : Bool) (w : World) (hv : RowAt w g cap W H P) (h1 : 1 ≤ W) (h2 : 1 ≤ H) (h3 : W * H ≤ 1048576) (hx : x < W) (hy : y < H) :
    Calls Try.prog 53 #[.agg #[.int .i64 W, .int .i64 H, .slice (some ⟨g, 0, none⟩) (H * stride W) cap], .int .i64 x, .int .i64 y, .int .i64 (c.toNat : Nat)] w fun e w' => e = .returned (.tuple #[]) ∧ RowAt w' g cap W H (putPix P x y c) ∧ Fr (fun k => k = g) w w' := by
  obtain ⟨f1, f2, f3⟩ := size_facts h1 h2 h3
  have hj : x / 64 < stride W := by unfold stride; omega
  have hat := at_lt hy hj
  have hgl := hv.lt
  have HWD : Hid (∀ w' : World, Calls Try.prog 44 #[.int .i64 W] w' fun e w'' => e = .returned (.int .i64 (stride W : Nat)) ∧ w'' = w') := fun w' => words_any W w' f1
  have hm1 : (y : Int) * (stride W : Int) = ((y * stride W : Nat) : Int) := by push_cast; rfl
  have hlt := wd_lt W P y (x / 64)
  have HV1 : Hid (RowAt (w.alloc (.cells #[.int .i64 W, .int .i64 H, .slice (some ⟨g, 0, none⟩) (H * stride W) cap] 25)) g cap W H P) := hv.kept ((Fr.refl (fun _ => False) _).alloc _) (fun hh => hh)
  have hcw : (w.alloc (.cells #[.int .i64 W, .int .i64 H, .slice (some ⟨g, 0, none⟩) (H * stride W) cap] 25)).cell? ⟨g, y * stride W + x / 64, none⟩ = some (.int .u64 (wd W P y (x / 64) : Nat)) := by
    rw [World.ownsRow.cellAt HV1.out _ (by omega), wordCells_get, render_get P hy hj]; rfl
  have hfz := World.ownsRow.frozenAt HV1.out (y * stride W + x / 64)
  have HPT : Hid (∀ (w2 : World) (v : Nat), RowAt w2 g cap W H P → v < 18446744073709551616 → (∀ k, k < 64 → v.testBit (63 - k) = (if k = x % 64 then c else (wd W P y (x / 64)).testBit (63 - k))) → RowAt (w2.setCell ⟨g, y * stride W + x / 64, none⟩ (.int .u64 (v : Int))) g cap W H (putPix P x y c)) := fun w2 v a b e => by
    refine a.put hy hj b ?_ ?_
    · intro k hk
      rw [e k hk]
      unfold putPix
      by_cases hkx : k = x % 64
      · rw [if_pos hkx, if_pos ⟨by omega, rfl⟩, decide_eq_true (by omega), Bool.true_and]
      · rw [if_neg hkx, if_neg (by omega)]
        unfold wd
        rw [bit_wordOf _ _ hk]
    · intro a' b' _ _ hn
      unfold putPix
      rw [if_neg]
      rintro ⟨rfl, rfl⟩
      exact hn ⟨rfl, rfl⟩
  have hpow : 2 ^ (63 - x % 64) < 18446744073709551616 := Nat.pow_lt_pow_right (by omega) (show 63 - x % 64 < 64 by omega)
  have HPB : Hid (∀ k, k < 64 → (2 ^ (63 - x % 64)).testBit (63 - k) = decide (k = x % 64)) := fun k hk => by
    rw [Nat.testBit_two_pow]
    rw [decide_eq_decide]
    omega
  clear hv h1 h2 h3
  generalize wd W P y (x / 64) = D at *
  generalize hN : H * stride W = N at *
  generalize hY : y * stride W = Y at *
  clear hN hY
  have g1 : IntKind.i64.wrap (Y : Int) = (Y : Int) := by rw [IntKind.wrap_i64]; omega
  obtain ⟨A, hA⟩ : ∃ A, A = Y + x / 64 := ⟨_, rfl⟩
  rw [← hA] at hcw hfz HPT hat
  have g2 : (Y : Int) + (x : Int) / 64 = (A : Int) := by omega
  obtain ⟨m, hm⟩ : ∃ m, m = 2 ^ (63 - x % 64) := ⟨_, rfl⟩
  rw [← hm] at hpow HPB
  have HMM : Hid (m = 2 ^ (63 - x % 64)) := hm
  clear hA hm
  obtain ⟨X1, hX1⟩ : ∃ X1, X1 = D &&& 18446744073709551615 - m := ⟨_, rfl⟩
  have k1 : bits .andNot .u64 (D : Int) (m : Int) = (X1 : Int) := by rw [hX1]; exact u64_andNot_nat D m hlt hpow
  have hX1l : X1 < 18446744073709551616 := by rw [hX1]; exact Nat.lt_of_le_of_lt Nat.and_le_left hlt
  have k2 : bits .or .u64 (X1 : Int) (m : Int) = ((X1 ||| m : Nat) : Int) := u64_or_nat X1 m hX1l hpow
  have HX : Hid (∀ i, i < 64 → X1.testBit (63 - i) = (D.testBit (63 - i) && !m.testBit (63 - i))) := fun i hi => by rw [hX1]; exact not_mask D m hpow _ (by omega)
  have HX2 : Hid ((X1 ||| m) < 18446744073709551616) := Nat.or_lt_two_pow (n := 64) hX1l hpow
  have HX1 : Hid (X1 < 18446744073709551616) := hX1l
  clear hX1
  go_enter Try.func53, Try.ntmps53
  go_wp2_with fail
  refine (HWD.out _).mono ?_
  rintro e w1 ⟨rfl, rfl⟩
  have g3 : (0 : Int) ≤ (A : Int) := by omega
  have g4 : (A : Int) < (N : Int) := by omega
  have hsh : IntKind.u64.wrap (2 ^ (63 - x % 64)) = (m : Int) := by rw [wrapu64, show ((2 : Int) ^ (63 - x % 64)) = ((2 ^ (63 - x % 64) : Nat) : Int) from by push_cast; rfl, ← HMM.out]; exact Int.emod_eq_of_lt (by omega) (by omega)
  have HF1 : Hid (Fr (fun _ => False) w (w.alloc (.cells #[.int .i64 W, .int .i64 H, .slice (some ⟨g, 0, none⟩) N cap] 25))) := (Fr.refl _ _).alloc _
  have hB := heap_alloc_new w (.cells #[.int .i64 W, .int .i64 H, .slice (some ⟨g, 0, none⟩) N cap] 25)
  obtain ⟨c0, c1, c2, cf⟩ := cell_of_three hB
  have hne : w.heap.size ≠ g := by omega
  generalize (w.alloc (.cells #[.int .i64 W, .int .i64 H, .slice (some ⟨g, 0, none⟩) N cap] 25)) = w1 at *
  clear hB
  cases c
  · go_wp2_with fail
    go_region
    go_wp2_with fail
    go_end0
    refine ⟨rfl, (HPT.out w1 X1 HV1.out HX1.out ?_).kept ((Fr.refl (fun _ => False) _).drew) (fun hh => hh), ((HF1.out.mono (T := fun k => k = g) (fun _ _ hh => hh.elim)).setCell (fun _ => rfl) _).drew⟩
    intro k hk
    rw [HX.out k hk, HPB.out k hk]
    by_cases hkx : k = x % 64 <;> simp [hkx]
  · go_wp2_with fail
    go_region
    go_wp2_with fail
    go_region
    go_wp2_with fail
    go_end0
    rw [setCell_twice]
    refine ⟨rfl, (HPT.out w1 (X1 ||| m) HV1.out HX2.out ?_).kept (((Fr.refl (fun _ => False) _).drew).drew) (fun hh => hh), (((HF1.out.mono (T := fun k => k = g) (fun _ _ hh => hh.elim)).setCell (fun _ => rfl) _).drew).drew⟩
    intro k hk
    rw [Nat.testBit_or, HX.out k hk, HPB.out k hk]
    by_cases hkx : k = x % 64 <;> simp [hkx]

set_option maxRecDepth 100000 in
set_option maxHeartbeats 1000000 in
theorem zwhite_any (W H : Nat) (w : World) (h1 : 1 ≤ W) (h2 : 1 ≤ H) (h3 : W * H ≤ 1048576) :
    Calls Try.prog 30 #[.int .i64 W, .int .i64 H] w fun e w' => ∃ g, e = .returned (.agg #[.int .i64 W, .int .i64 H, .slice (some ⟨g, 0, none⟩) (H * stride W) (H * stride W)]) ∧ RowAt w' g (H * stride W) W H (fun _ _ => false) ∧ Fr (fun _ => False) w w' ∧ w.heap.size ≤ g := by
  obtain ⟨i0, hi, hz0, hz1, hz2⟩ := info_parts Try.infoUw
  obtain ⟨f1, f2, f3⟩ := size_facts h1 h2 h3
  have HR : Hid (wordCells (render W H (fun _ _ => false)) = List.replicate (H * stride W) (.int .u64 0)) := by show _ = _; rw [render_white, wordCells_replicate]
  unfold RowAt
  rw [HR.out]
  clear h3 HR
  go_enter Try.func30, Try.ntmps30
  go_wp2_with fail
  refine (words_any W _ f1).mono ?_
  rintro e w1 ⟨rfl, hw1⟩
  have hm1 : (H : Int) * (stride W : Int) = ((H * stride W : Nat) : Int) := by push_cast; rfl
  obtain ⟨N, hN⟩ : ∃ N, N = H * stride W := ⟨_, rfl⟩
  rw [← hN] at hm1 f3
  have HSN : Hid (N = H * stride W) := hN
  clear hN
  have HF1 : Hid (Fr (fun _ => False) w w1) := by rw [hw1]; exact (Fr.refl _ _).alloc _
  have HB1 : Hid (w1.heap[w.heap.size]? = some (.cells #[.int .i64 0, .int .i64 0, .slice none 0 0] 25 (0, 0))) := by show _ = _; rw [hw1]; exact heap_alloc_new _ _
  clear hw1
  go_wp2_with (first | (at_make; refine wpList_make_full _ rfl _ _ 23 rfl w1.heap.size 62 i0 (.int .u64 0) 1 Try.underlying23 hi hz0 hz1 .i64 .i64 _ _ N rfl rfl ?_ ?_ ?_ ?_ ?_ ?_))
  · omega
  · omega
  · rw [hz2]; omega
  · unfold maxLen; omega
  · omega
  · intro w2 hown hgrow
    have HO : Hid (w2.ownsRow w1.heap.size 62 1 (.slice (some ⟨w1.heap.size, 0, none⟩) N N) N (List.replicate N (.int .u64 0))) := by rw [← toList_madeCells_one]; exact hown
    have hf2 : Fr (fun _ => False) w1 w2 := (Fr.refl _ _).grown hgrow (fun _ e _ => by cases e)
    have hs1 : w.heap.size < w1.heap.size := lt_of_block HB1.out
    have hbk : w2.heap[w.heap.size]? = some (.cells #[.int .i64 0, .int .i64 0, .slice none 0 0] 25 (0, 0)) := by rw [hf2.block _ hs1 (fun hh => hh)]; exact HB1.out
    have HF2 : Hid (Fr (fun _ => False) w w2) := HF1.out.trans hf2 (fun _ _ hh => hh)
    obtain ⟨z0, z1, z2, zf⟩ := cell_of_three hbk
    have hfz : Fr (fun k => k = w.heap.size) w2 (((w2.setCell ⟨w.heap.size, 0, none⟩ (.int .i64 W)).setCell ⟨w.heap.size, 1, none⟩ (.int .i64 H)).setCell ⟨w.heap.size, 2, none⟩ (.slice (some ⟨w1.heap.size, 0, none⟩) N N)) := (((Fr.refl (fun k => k = w.heap.size) w2).setCell (p := ⟨w.heap.size, 0, none⟩) (fun _ => rfl) _).setCell (p := ⟨w.heap.size, 1, none⟩) (fun _ => rfl) _).setCell (p := ⟨w.heap.size, 2, none⟩) (fun _ => rfl) _
    have HO3 : Hid ((((w2.setCell ⟨w.heap.size, 0, none⟩ (.int .i64 W)).setCell ⟨w.heap.size, 1, none⟩ (.int .i64 H)).setCell ⟨w.heap.size, 2, none⟩ (.slice (some ⟨w1.heap.size, 0, none⟩) N N)).ownsRow 0 62 1 (.slice (some ⟨w1.heap.size, 0, none⟩) N N) N (List.replicate N (.int .u64 0))) := row_kept (ownsRow_base HO.out (fun _ _ => Nat.zero_le _)) hfz (fun k hk => by simp [Value.ownBlock] at hk; omega)
    have HF3 : Hid (Fr (fun _ => False) w (((w2.setCell ⟨w.heap.size, 0, none⟩ (.int .i64 W)).setCell ⟨w.heap.size, 1, none⟩ (.int .i64 H)).setCell ⟨w.heap.size, 2, none⟩ (.slice (some ⟨w1.heap.size, 0, none⟩) N N))) := HF2.out.trans hfz (fun i hi hh => by omega)
    have hb5 : (((w2.setCell ⟨w.heap.size, 0, none⟩ (.int .i64 W)).setCell ⟨w.heap.size, 1, none⟩ (.int .i64 H)).setCell ⟨w.heap.size, 2, none⟩ (.slice (some ⟨w1.heap.size, 0, none⟩) N N)).heap[w.heap.size]? = some (.cells #[.int .i64 W, .int .i64 H, .slice (some ⟨w1.heap.size, 0, none⟩) N N] 25 (0, 0)) := by
      simp [World.setCell, Array.getElem?_modify, hbk]
    clear hfz hgrow hown hf2 hbk HO HF2
    go_wp2_with fail
    generalize (((w2.setCell ⟨w.heap.size, 0, none⟩ (.int .i64 W)).setCell ⟨w.heap.size, 1, none⟩ (.int .i64 H)).setCell ⟨w.heap.size, 2, none⟩ (.slice (some ⟨w1.heap.size, 0, none⟩) N N)) = w5 at HO3 HF3 hb5 ⊢
    obtain ⟨y0, y1, y2, yf⟩ := cell_of_three hb5
    clear hb5 yf z0 z1 z2 zf
    go_wp2_with fail
    (try simp only [Exit.inBlock, Exit.then])
    refine bodyPost_ret (by simp [results, Try.results30, go_sem, y0, y1, y2]; rfl) rfl ?_
    rw [← HSN.out]
    exact ⟨w1.heap.size, rfl, HO3.out, HF3.out, by omega⟩

end Go.Proofs.Ytgpciopoionmeaa
