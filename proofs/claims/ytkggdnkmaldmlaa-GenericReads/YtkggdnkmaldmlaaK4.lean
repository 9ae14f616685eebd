/- The document's own 'White', 'Put', 'Count'. -/
import Derived.Test.YtkggdnkmaldmlaaK3
import Derived.Test.YtkggdnkmaldmlaaK2
import Derived.WalkKit
import Derived.WalkSpells
import Derived.WalkLawsBesides
namespace Go.Proofs.Ytkggdnkmaldmlaa
open Go.RowKit

/-- A plain bitmap's words: block g. -/
def RowAt (w : World) (g cap W H : Nat) (P : Nat → Nat → Bool) : Prop := w.ownsRow 0 83 1 (.slice (some ⟨g, 0, none⟩) (H * stride W) cap) (H * stride W) (wordCells (render W H P))
theorem RowAt.kept {S : Nat → Prop} {w w' : World} {g cap W H : Nat} {P : Nat → Nat → Bool} (h : RowAt w g cap W H P) (f : Fr S w w') (h1 : ¬ S g) : RowAt w' g cap W H P :=
  row_kept h f (fun k hk => by simp [Value.ownBlock] at hk; subst hk; exact h1)
theorem RowAt.seen {w : World} {g cap W H : Nat} {P : Nat → Nat → Bool} (h : RowAt w g cap W H P) (hl : H * stride W ≤ 1048576) : Seen w (.slice (some ⟨g, 0, none⟩) (H * stride W) cap) (render W H P) := by
  have := Seen.of_row (base := 0) (w := w) (v := .slice (some ⟨g, 0, none⟩) (H * stride W) cap) (l := render W H P) (by rw [length_render]; exact h) (by rw [length_render]; omega)
  exact this
theorem RowAt.lt {w : World} {g cap W H : Nat} {P : Nat → Nat → Bool} (h : RowAt w g cap W H P) : g < w.heap.size := (World.ownsRow.lt h g rfl).2
def putPix (P : Nat → Nat → Bool) (x y : Nat) (c : Bool) : Nat → Nat → Bool := fun a e => if a = x ∧ e = y then c else P a e

theorem RowAt.put {w : World} {g cap W H : Nat} {P Q : Nat → Nat → Bool} (h : RowAt w g cap W H P) {y j x : Nat} (hy : y < H) (hj : j < stride W) (hx : x < 18446744073709551616)
    (hw : ∀ k, k < 64 → x.testBit (63 - k) = (decide (64 * j + k < W) && Q (64 * j + k) y)) (ho : ∀ a b, a < W → b < H → ¬ (b = y ∧ a / 64 = j) → Q a b = P a b) :
    RowAt (w.setCell ⟨g, y * stride W + j, none⟩ (.int .u64 (x : Int))) g cap W H Q := by
  have := (World.ownsRow.stored h (y * stride W + j) (.int .u64 (x : Int))).1
  rw [wordCells_set, render_set hy hj hx hw ho] at this
  exact this

theorem one_shl (k : Nat) (hk : k < 64) : (2 ^ k % 18446744073709551616) = 2 ^ k := Nat.mod_eq_of_lt (Nat.pow_lt_pow_right (by omega) (show k < 64 from hk))

set_option maxRecDepth 100000 in
set_option maxHeartbeats 1000000 in
theorem zput_any (W H g cap : Nat) (P : Nat → Nat → Bool) (x y : Nat) (c : Bool) (w : World) (hv : RowAt w g cap W H P) (h1 : 1 ≤ W) (h2 : 1 ≤ H) (h3 : W * H ≤ 1048576) (hx : x < W) (hy : y < H) :
    Calls Try.prog 67 #[.agg #[.int .i64 W, .int .i64 H, .slice (some ⟨g, 0, none⟩) (H * stride W) cap], .int .i64 x, .int .i64 y, .int .i64 (c.toNat : Nat)] w fun e w' => e = .returned (.tuple #[]) ∧ RowAt w' g cap W H (putPix P x y c) ∧ Fr (fun k => k = g) w w' := by
  obtain ⟨f1, f2, f3⟩ := size_facts h1 h2 h3
  have hj : x / 64 < stride W := by unfold stride; omega
  have hat := at_lt hy hj
  have hgl := hv.lt
  have HWD : Hid (∀ w' : World, Calls Try.prog 44 #[.int .i64 W] w' fun e w'' => e = .returned (.int .i64 (stride W : Nat)) ∧ w'' = w') := fun w' => words_any W w' f1
  have hm1 : (y : Int) * (stride W : Int) = ((y * stride W : Nat) : Int) := by push_cast; rfl
  have hlt := wd_lt W P y (x / 64)
  have HV1 : Hid (RowAt (w.alloc (.cells #[.int .i64 W, .int .i64 H, .slice (some ⟨g, 0, none⟩) (H * stride W) cap] 26)) g cap W H P) := hv.kept ((Fr.refl (fun _ => False) _).alloc _) (fun hh => hh)
  have hcw : (w.alloc (.cells #[.int .i64 W, .int .i64 H, .slice (some ⟨g, 0, none⟩) (H * stride W) cap] 26)).cell? ⟨g, y * stride W + x / 64, none⟩ = some (.int .u64 (wd W P y (x / 64) : Nat)) := by
    rw [World.ownsRow.cellAt HV1.out _ (by omega), wordCells_get, render_get P hy hj]; rfl
  have hfz := World.ownsRow.frozenAt HV1.out (y * stride W + x / 64)
  have HPT : Hid (∀ (w2 : World) (v : Nat), RowAt w2 g cap W H P → v < 18446744073709551616 → (∀ k, k < 64 → v.testBit (63 - k) = (if k = x % 64 then c else (wd W P y (x / 64)).testBit (63 - k))) → RowAt (w2.setCell ⟨g, y * stride W + x / 64, none⟩ (.int .u64 (v : Int))) g cap W H (putPix P x y c)) := fun w2 v a b e => by
    refine a.put hy hj b ?_ ?_
    · intro k hk
      rw [e k hk]
      unfold putPix
      by_cases hkx : k = x % 64
      · rw [if_pos hkx, if_pos ⟨by omega, rfl⟩, decide_eq_true (by omega), Bool.true_and]
      · rw [if_neg hkx, if_neg (by omega)]
        unfold wd
        rw [bit_wordOf _ _ hk]
    · intro a' b' _ _ hn
      unfold putPix
      rw [if_neg]
      rintro ⟨rfl, rfl⟩
      exact hn ⟨rfl, rfl⟩
  have hpow : 2 ^ (63 - x % 64) < 18446744073709551616 := Nat.pow_lt_pow_right (by omega) (show 63 - x % 64 < 64 by omega)
  have HPB : Hid (∀ k, k < 64 → (2 ^ (63 - x % 64)).testBit (63 - k) = decide (k = x % 64)) := fun k hk => by
    rw [Nat.testBit_two_pow]
    rw [decide_eq_decide]
    omega
  clear hv h1 h2 h3
  generalize wd W P y (x / 64) = D at *
  generalize hN : H * stride W = N at *
  generalize hY : y * stride W = Y at *
  clear hN hY
  have g1 : IntKind.i64.wrap (Y : Int) = (Y : Int) := by rw [IntKind.wrap_i64]; omega
  obtain ⟨A, hA⟩ : ∃ A, A = Y + x / 64 := ⟨_, rfl⟩
  rw [← hA] at hcw hfz HPT hat
  have g2 : (Y : Int) + (x : Int) / 64 = (A : Int) := by omega
  obtain ⟨m, hm⟩ : ∃ m, m = 2 ^ (63 - x % 64) := ⟨_, rfl⟩
  rw [← hm] at hpow HPB
  have HMM : Hid (m = 2 ^ (63 - x % 64)) := hm
  clear hA hm
  obtain ⟨X1, hX1⟩ : ∃ X1, X1 = D &&& 18446744073709551615 - m := ⟨_, rfl⟩
  have k1 : bits .andNot .u64 (D : Int) (m : Int) = (X1 : Int) := by rw [hX1]; exact u64_andNot_nat D m hlt hpow
  have hX1l : X1 < 18446744073709551616 := by rw [hX1]; exact Nat.lt_of_le_of_lt Nat.and_le_left hlt
  have k2 : bits .or .u64 (X1 : Int) (m : Int) = ((X1 ||| m : Nat) : Int) := u64_or_nat X1 m hX1l hpow
  have HX : Hid (∀ i, i < 64 → X1.testBit (63 - i) = (D.testBit (63 - i) && !m.testBit (63 - i))) := fun i hi => by rw [hX1]; exact not_mask D m hpow _ (by omega)
  have HX2 : Hid ((X1 ||| m) < 18446744073709551616) := Nat.or_lt_two_pow (n := 64) hX1l hpow
  have HX1 : Hid (X1 < 18446744073709551616) := hX1l
  clear hX1
  go_enter Try.func67, Try.ntmps67
  go_wp2_with fail
  refine (HWD.out _).mono ?_
  rintro e w1 ⟨rfl, rfl⟩
  have g3 : (0 : Int) ≤ (A : Int) := by omega
  have g4 : (A : Int) < (N : Int) := by omega
  have hsh : IntKind.u64.wrap (2 ^ (63 - x % 64)) = (m : Int) := by rw [wrapu64, show ((2 : Int) ^ (63 - x % 64)) = ((2 ^ (63 - x % 64) : Nat) : Int) from by push_cast; rfl, ← HMM.out]; exact Int.emod_eq_of_lt (by omega) (by omega)
  have HF1 : Hid (Fr (fun _ => False) w (w.alloc (.cells #[.int .i64 W, .int .i64 H, .slice (some ⟨g, 0, none⟩) N cap] 26))) := (Fr.refl _ _).alloc _
  have hB := heap_alloc_new w (.cells #[.int .i64 W, .int .i64 H, .slice (some ⟨g, 0, none⟩) N cap] 26)
  obtain ⟨c0, c1, c2, cf⟩ := cell_of_three hB
  have hne : w.heap.size ≠ g := by omega
  generalize (w.alloc (.cells #[.int .i64 W, .int .i64 H, .slice (some ⟨g, 0, none⟩) N cap] 26)) = w1 at *
  clear hB
  cases c
  · go_wp2_with fail
    go_region
    go_wp2_with fail
    go_end0
    refine ⟨rfl, (HPT.out w1 X1 HV1.out HX1.out ?_).kept ((Fr.refl (fun _ => False) _).drew) (fun hh => hh), ((HF1.out.mono (T := fun k => k = g) (fun _ _ hh => hh.elim)).setCell (fun _ => rfl) _).drew⟩
    intro k hk
    rw [HX.out k hk, HPB.out k hk]
    by_cases hkx : k = x % 64 <;> simp [hkx]
  · go_wp2_with fail
    go_region
    go_wp2_with fail
    go_region
    go_wp2_with fail
    go_end0
    rw [setCell_twice]
    refine ⟨rfl, (HPT.out w1 (X1 ||| m) HV1.out HX2.out ?_).kept (((Fr.refl (fun _ => False) _).drew).drew) (fun hh => hh), (((HF1.out.mono (T := fun k => k = g) (fun _ _ hh => hh.elim)).setCell (fun _ => rfl) _).drew).drew⟩
    intro k hk
    rw [Nat.testBit_or, HX.out k hk, HPB.out k hk]
    by_cases hkx : k = x % 64 <;> simp [hkx]

set_option maxRecDepth 100000 in
set_option maxHeartbeats 1000000 in
theorem zwhite_any (W H : Nat) (w : World) (h1 : 1 ≤ W) (h2 : 1 ≤ H) (h3 : W * H ≤ 1048576) :
    Calls Try.prog 35 #[.int .i64 W, .int .i64 H] w fun e w' => ∃ g, e = .returned (.agg #[.int .i64 W, .int .i64 H, .slice (some ⟨g, 0, none⟩) (H * stride W) (H * stride W)]) ∧ RowAt w' g (H * stride W) W H (fun _ _ => false) ∧ Fr (fun _ => False) w w' ∧ w.heap.size ≤ g := by
  obtain ⟨i0, hi, hz0, hz1, hz2⟩ := info_parts Try.info139
  obtain ⟨f1, f2, f3⟩ := size_facts h1 h2 h3
  have HR : Hid (wordCells (render W H (fun _ _ => false)) = List.replicate (H * stride W) (.int .u64 0)) := by show _ = _; rw [render_white, wordCells_replicate]
  unfold RowAt
  rw [HR.out]
  clear h3 HR
  go_enter Try.func35, Try.ntmps35
  go_wp2_with fail
  refine (words_any W _ f1).mono ?_
  rintro e w1 ⟨rfl, hw1⟩
  have hm1 : (H : Int) * (stride W : Int) = ((H * stride W : Nat) : Int) := by push_cast; rfl
  obtain ⟨N, hN⟩ : ∃ N, N = H * stride W := ⟨_, rfl⟩
  rw [← hN] at hm1 f3
  have HSN : Hid (N = H * stride W) := hN
  clear hN
  have HF1 : Hid (Fr (fun _ => False) w w1) := by rw [hw1]; exact (Fr.refl _ _).alloc _
  have HB1 : Hid (w1.heap[w.heap.size]? = some (.cells #[.int .i64 0, .int .i64 0, .slice none 0 0] 26 (0, 0))) := by show _ = _; rw [hw1]; exact heap_alloc_new _ _
  clear hw1
  go_wp2_with (first | (at_make; refine wpList_make_full _ rfl _ _ 24 rfl w1.heap.size 83 i0 (.int .u64 0) 1 Try.underlying24 hi hz0 hz1 .i64 .i64 _ _ N rfl rfl ?_ ?_ ?_ ?_ ?_ ?_))
  · omega
  · omega
  · rw [hz2]; omega
  · unfold maxLen; omega
  · omega
  · intro w2 hown hgrow
    have HO : Hid (w2.ownsRow w1.heap.size 83 1 (.slice (some ⟨w1.heap.size, 0, none⟩) N N) N (List.replicate N (.int .u64 0))) := by rw [← toList_madeCells_one]; exact hown
    have hf2 : Fr (fun _ => False) w1 w2 := (Fr.refl _ _).grown hgrow (fun _ e _ => by cases e)
    have hs1 : w.heap.size < w1.heap.size := lt_of_block HB1.out
    have hbk : w2.heap[w.heap.size]? = some (.cells #[.int .i64 0, .int .i64 0, .slice none 0 0] 26 (0, 0)) := by rw [hf2.block _ hs1 (fun hh => hh)]; exact HB1.out
    have HF2 : Hid (Fr (fun _ => False) w w2) := HF1.out.trans hf2 (fun _ _ hh => hh)
    obtain ⟨z0, z1, z2, zf⟩ := cell_of_three hbk
    have hfz : Fr (fun k => k = w.heap.size) w2 (((w2.setCell ⟨w.heap.size, 0, none⟩ (.int .i64 W)).setCell ⟨w.heap.size, 1, none⟩ (.int .i64 H)).setCell ⟨w.heap.size, 2, none⟩ (.slice (some ⟨w1.heap.size, 0, none⟩) N N)) := (((Fr.refl (fun k => k = w.heap.size) w2).setCell (p := ⟨w.heap.size, 0, none⟩) (fun _ => rfl) _).setCell (p := ⟨w.heap.size, 1, none⟩) (fun _ => rfl) _).setCell (p := ⟨w.heap.size, 2, none⟩) (fun _ => rfl) _
    have HO3 : Hid ((((w2.setCell ⟨w.heap.size, 0, none⟩ (.int .i64 W)).setCell ⟨w.heap.size, 1, none⟩ (.int .i64 H)).setCell ⟨w.heap.size, 2, none⟩ (.slice (some ⟨w1.heap.size, 0, none⟩) N N)).ownsRow 0 83 1 (.slice (some ⟨w1.heap.size, 0, none⟩) N N) N (List.replicate N (.int .u64 0))) := row_kept (ownsRow_base HO.out (fun _ _ => Nat.zero_le _)) hfz (fun k hk => by simp [Value.ownBlock] at hk; omega)
    have HF3 : Hid (Fr (fun _ => False) w (((w2.setCell ⟨w.heap.size, 0, none⟩ (.int .i64 W)).setCell ⟨w.heap.size, 1, none⟩ (.int .i64 H)).setCell ⟨w.heap.size, 2, none⟩ (.slice (some ⟨w1.heap.size, 0, none⟩) N N))) := HF2.out.trans hfz (fun i hi hh => by omega)
    have hb5 : (((w2.setCell ⟨w.heap.size, 0, none⟩ (.int .i64 W)).setCell ⟨w.heap.size, 1, none⟩ (.int .i64 H)).setCell ⟨w.heap.size, 2, none⟩ (.slice (some ⟨w1.heap.size, 0, none⟩) N N)).heap[w.heap.size]? = some (.cells #[.int .i64 W, .int .i64 H, .slice (some ⟨w1.heap.size, 0, none⟩) N N] 26 (0, 0)) := by
      simp [World.setCell, Array.getElem?_modify, hbk]
    clear hfz hgrow hown hf2 hbk HO HF2
    go_wp2_with fail
    generalize (((w2.setCell ⟨w.heap.size, 0, none⟩ (.int .i64 W)).setCell ⟨w.heap.size, 1, none⟩ (.int .i64 H)).setCell ⟨w.heap.size, 2, none⟩ (.slice (some ⟨w1.heap.size, 0, none⟩) N N)) = w5 at HO3 HF3 hb5 ⊢
    obtain ⟨y0, y1, y2, yf⟩ := cell_of_three hb5
    clear hb5 yf z0 z1 z2 zf
    go_wp2_with fail
    (try simp only [Exit.inBlock, Exit.then])
    refine bodyPost_ret (by simp [results, Try.results35, go_sem, y0, y1, y2]; rfl) rfl ?_
    rw [← HSN.out]
    exact ⟨w1.heap.size, rfl, HO3.out, HF3.out, by omega⟩

end Go.Proofs.Ytkggdnkmaldmlaa

/- The coder and the decoder as plain functions, and what stays within bounds. -/
namespace Go.Proofs.Ytkggdnkmaldmlaa
open Go.RowKit

/-- The table: sizes, next states. -/
def qs : List Nat := [0x5601, 0x3401, 0x1801, 0x0ac1, 0x0521, 0x0221, 0x5601, 0x5401, 0x4801, 0x3801, 0x3001, 0x2401, 0x1c01, 0x1601, 0x5601, 0x5401, 0x5101, 0x4801, 0x3801, 0x3401, 0x3001, 0x2801, 0x2401, 0x2201, 0x1c01, 0x1801, 0x1601, 0x1401, 0x1201, 0x1101, 0x0ac1, 0x09c1, 0x08a1, 0x0521, 0x0441, 0x02a1, 0x0221, 0x0141, 0x0111, 0x0085, 0x0049, 0x0025, 0x0015, 0x0009, 0x0005, 0x0001, 0x5601]
def ms : List Nat := [1, 2, 3, 4, 5, 38, 7, 8, 9, 10, 11, 12, 13, 29, 15, 16, 17, 18, 19, 20, 21, 22, 23, 24, 25, 26, 27, 28, 29, 30, 31, 32, 33, 34, 35, 36, 37, 38, 39, 40, 41, 42, 43, 44, 45, 45, 46]
def ls : List Nat := [1, 6, 9, 12, 29, 33, 6, 14, 14, 14, 17, 18, 20, 21, 14, 14, 15, 16, 17, 18, 19, 19, 20, 21, 22, 23, 24, 25, 26, 27, 28, 29, 30, 31, 32, 33, 34, 35, 36, 37, 38, 39, 40, 41, 42, 43, 46]
def rQ (s : Nat) : Nat := qs.getD s 0
def rM (s : Nat) : Nat := ms.getD s 0
def rL (s : Nat) : Nat := ls.getD s 0
def rS (s : Nat) : Bool := s == 0 || s == 6 || s == 14

theorem rQ_bd : ∀ s, s < 47 → 1 ≤ rQ s ∧ rQ s ≤ 22017 := by decide
theorem rM_bd : ∀ s, s < 47 → rM s < 47 := by decide
theorem rL_bd : ∀ s, s < 47 → rL s < 47 := by decide

/-- A context behind a decision. -/
def learnP (likely : Bool) (x : Nat) : Nat :=
  if likely then 2 * rM (x / 2) + x % 2 else 2 * rL (x / 2) + (if rS (x / 2) then 1 - x % 2 else x % 2)

theorem learnP_lt (k : Bool) (x : Nat) (h : x < 94) : learnP k x < 94 := by
  have h1 := rM_bd (x / 2) (by omega)
  have h2 := rL_bd (x / 2) (by omega)
  unfold learnP
  split
  · omega
  · split <;> omega

/-- The coder's registers, the bytes but the last one, the last one. -/
structure Cs where
  a : Nat
  c : Nat
  t : Nat
  b : List Nat
  l : Nat
deriving DecidableEq

def Cs.bytes (s : Cs) : List Nat := s.b ++ [s.l]

/-- A byte goes out. -/
def outC (c l : Nat) : Nat := if 134217728 ≤ c ∧ l ≠ 255 then c % 134217728 else c
def outL (c l : Nat) : Nat := if 134217728 ≤ c ∧ l ≠ 255 then l + 1 else l
def outLow (l : Nat) : Nat := if l = 255 then 20 else 19
def outT (l : Nat) : Nat := if l = 255 then 7 else 8
def outP (s : Cs) : Cs :=
  { a := s.a, c := outC s.c s.l % 2 ^ outLow (outL s.c s.l), t := outT (outL s.c s.l), b := s.b ++ [outL s.c s.l], l := outC s.c s.l / 2 ^ outLow (outL s.c s.l) % 256 }

def doubled (s : Cs) : Cs :=
  if s.t = 1 then outP { s with a := 2 * s.a, c := 2 * s.c, t := 0 } else { s with a := 2 * s.a, c := 2 * s.c, t := s.t - 1 }

def renewP : Nat → Cs → Cs
  | 0, s => s
  | n + 1, s => if (doubled s).a < 32768 then renewP n (doubled s) else doubled s

/-- Ahead of a decision: what A becomes, what C becomes. -/
def codeS (s : Cs) (q : Nat) (likely : Bool) : Cs :=
  if likely = decide (s.a - q < q) then { s with a := q } else { s with a := s.a - q, c := s.c + q }
def codeP (s : Cs) (x bit : Nat) : Cs :=
  if bit = x % 2 ∧ 32768 ≤ s.a - rQ (x / 2) then { s with a := s.a - rQ (x / 2), c := s.c + rQ (x / 2) }
  else renewP 16 (codeS s (rQ (x / 2)) (decide (bit = x % 2)))
def codeX (s : Cs) (x bit : Nat) : Nat :=
  if bit = x % 2 ∧ 32768 ≤ s.a - rQ (x / 2) then x else learnP (decide (bit = x % 2)) x

/-- What holds while it is renewed. -/
structure Cw (s : Cs) : Prop where
  apos : 1 ≤ s.a
  alt : s.a < 65536
  room : (s.c + s.a) * 2 ^ s.t ≤ 268435456
  tpos : 1 ≤ s.t
  tlt : s.t ≤ 12
  llt : s.l < 256
  blt : ∀ x ∈ s.b, x < 256

theorem Cw.c_lt {s : Cs} (h : Cw s) : s.c + s.a ≤ 134217728 := by
  have h1 := h.room
  have h2 : 2 ^ 1 ≤ 2 ^ s.t := Nat.pow_le_pow_right (by omega) h.tpos
  have h3 := Nat.mul_le_mul_left (s.c + s.a) h2
  omega

theorem outC_lt {c l : Nat} (h : c < 268435456) : outC c l < 268435456 := by
  unfold outC; split <;> omega
theorem outL_lt {c l : Nat} (h : l < 256) : outL c l < 256 := by
  unfold outL; split <;> omega

theorem outP_cw {s : Cs} (h1 : 1 ≤ s.a) (h2 : s.a < 65536) (h4 : s.l < 256) (h5 : ∀ x ∈ s.b, x < 256) : Cw (outP s) := by
  have hl := outL_lt (c := s.c) h4
  refine ⟨h1, h2, ?_, ?_, ?_, ?_, ?_⟩
  · show (outC s.c s.l % 2 ^ outLow (outL s.c s.l) + s.a) * 2 ^ outT (outL s.c s.l) ≤ 268435456
    unfold outLow outT
    split
    · have : outC s.c s.l % 2 ^ 20 < 2 ^ 20 := Nat.mod_lt _ (by decide)
      omega
    · have : outC s.c s.l % 2 ^ 19 < 2 ^ 19 := Nat.mod_lt _ (by decide)
      omega
  · show 1 ≤ outT (outL s.c s.l)
    unfold outT; split <;> omega
  · show outT (outL s.c s.l) ≤ 12
    unfold outT; split <;> omega
  · exact Nat.mod_lt _ (by decide)
  · intro x hx
    simp only [outP, List.mem_append, List.mem_singleton] at hx
    rcases hx with hx | rfl
    · exact h5 x hx
    · exact hl

theorem doubled_cw {s : Cs} (h : Cw s) (ha : s.a < 32768) : Cw (doubled s) := by
  unfold doubled
  split
  · exact outP_cw (by have := h.apos; show 1 ≤ 2 * s.a; omega) (by show 2 * s.a < 65536; omega) h.llt h.blt
  · rename_i ht
    have hp := h.tpos
    refine ⟨?_, ?_, ?_, ?_, ?_, h.llt, h.blt⟩
    · have := h.apos; show 1 ≤ 2 * s.a; omega
    · show 2 * s.a < 65536; omega
    · show (2 * s.c + 2 * s.a) * 2 ^ (s.t - 1) ≤ 268435456
      have h1 := h.room
      obtain ⟨k, hk⟩ : ∃ k, s.t = k + 1 := ⟨s.t - 1, by omega⟩
      rw [hk, Nat.pow_succ] at h1
      rw [hk, Nat.add_sub_cancel, ← Nat.mul_add, Nat.mul_comm 2, Nat.mul_assoc, Nat.mul_comm 2]
      exact h1
    · show 1 ≤ s.t - 1; omega
    · show s.t - 1 ≤ 12; have := h.tlt; omega

theorem doubled_a (s : Cs) : (doubled s).a = 2 * s.a := by unfold doubled; split <;> rfl

theorem renewP_cw : ∀ (n : Nat) (s : Cs), Cw s → s.a < 32768 → 32768 ≤ s.a * 2 ^ n → Cw (renewP n s) ∧ 32768 ≤ (renewP n s).a
  | 0, s, _, ha, hn => by omega
  | n + 1, s, h, ha, hn => by
    have hd := doubled_cw h ha
    unfold renewP
    split
    · rename_i hlt
      refine renewP_cw n (doubled s) hd hlt ?_
      rw [doubled_a, Nat.mul_comm 2, Nat.mul_assoc, Nat.mul_comm 2, ← Nat.pow_succ]; exact hn
    · exact ⟨hd, by omega⟩

/-- What holds ahead of a decision. -/
structure Cok (s : Cs) : Prop where
  cw : Cw s
  half : 32768 ≤ s.a

theorem codeS_cw {s : Cs} (h : Cok s) {q : Nat} (h1 : 1 ≤ q) (h2 : q ≤ 22017) (k : Bool) : Cw (codeS s q k) := by
  have hh := h.half
  have hr := h.cw.room
  unfold codeS
  split
  · refine ⟨h1, by show q < 65536; omega, ?_, h.cw.tpos, h.cw.tlt, h.cw.llt, h.cw.blt⟩
    exact Nat.le_trans (Nat.mul_le_mul_right _ (by show s.c + q ≤ s.c + s.a; omega)) hr
  · refine ⟨by show 1 ≤ s.a - q; omega, by have := h.cw.alt; show s.a - q < 65536; omega, ?_, h.cw.tpos, h.cw.tlt, h.cw.llt, h.cw.blt⟩
    exact Nat.le_trans (Nat.mul_le_mul_right _ (by show s.c + q + (s.a - q) ≤ s.c + s.a; omega)) hr

theorem codeS_a {s : Cs} (h : Cok s) {q : Nat} (h1 : 1 ≤ q) (h2 : q ≤ 22017) (k : Bool) (hk : ¬ (k = true ∧ 32768 ≤ s.a - q)) : (codeS s q k).a < 32768 := by
  have hh := h.half
  unfold codeS
  split
  · show q < 32768; omega
  · rename_i hn
    show s.a - q < 32768
    by_cases hq : s.a - q < q
    · omega
    · cases k
      · simp [hq] at hn
      · simp at hk; omega

theorem codeP_ok {s : Cs} (h : Cok s) {x : Nat} (hx : x < 94) (bit : Nat) : Cok (codeP s x bit) := by
  obtain ⟨h1, h2⟩ := rQ_bd (x / 2) (by omega)
  have hh := h.half
  unfold codeP
  split
  · rename_i hc
    refine ⟨⟨?_, ?_, ?_, h.cw.tpos, h.cw.tlt, h.cw.llt, h.cw.blt⟩, hc.2⟩
    · show 1 ≤ s.a - _; omega
    · have := h.cw.alt; show s.a - _ < 65536; omega
    · exact Nat.le_trans (Nat.mul_le_mul_right _ (by show s.c + _ + (s.a - _) ≤ s.c + s.a; omega)) h.cw.room
  · rename_i hc
    have hw := codeS_cw h h1 h2 (decide (bit = x % 2))
    have ha := codeS_a h h1 h2 (decide (bit = x % 2)) (by rw [decide_eq_true_eq]; exact hc)
    obtain ⟨r1, r2⟩ := renewP_cw 16 _ hw ha (by have := hw.apos; omega)
    exact ⟨r1, r2⟩

theorem codeX_lt (s : Cs) {x : Nat} (hx : x < 94) (bit : Nat) : codeX s x bit < 94 := by
  unfold codeX; split
  · exact hx
  · exact learnP_lt _ _ hx

theorem doubled_len (s : Cs) : (doubled s).b.length ≤ s.b.length + 1 := by
  unfold doubled; split
  · simp [outP]
  · simp
theorem renewP_len : ∀ (n : Nat) (s : Cs), (renewP n s).b.length ≤ s.b.length + n
  | 0, s => by simp [renewP]
  | n + 1, s => by
    have := doubled_len s
    unfold renewP
    split
    · have := renewP_len n (doubled s); omega
    · omega
theorem codeP_len (s : Cs) (x bit : Nat) : (codeP s x bit).b.length ≤ s.b.length + 16 := by
  unfold codeP; split
  · simp
  · have := renewP_len 16 (codeS s (rQ (x / 2)) (decide (bit = x % 2)))
    have h : (codeS s (rQ (x / 2)) (decide (bit = x % 2))).b = s.b := by unfold codeS; split <;> rfl
    rw [h] at this; exact this

/-- A coder: its registers, its contexts, how many decisions were made. -/
structure Co where
  s : Cs
  x : List Nat
  made : Nat

def placeOf (k : Int) (n : Nat) : Nat := (k % (n : Int)).toNat
theorem placeOf_lt (k : Int) {n : Nat} (h : 0 < n) : placeOf k n < n := by
  unfold placeOf
  have h1 := Int.emod_nonneg k (b := (n : Int)) (by omega)
  have h2 := Int.emod_lt_of_pos k (b := (n : Int)) (by omega)
  omega

def newP (n : Nat) : Co := { s := { a := 32768, c := 0, t := 12, b := [], l := 0 }, x := List.replicate n 0, made := 0 }
def putP (o : Co) (k : Int) (bit : Nat) : Co :=
  { s := codeP o.s (o.x.getD (placeOf k o.x.length) 0) bit, x := o.x.set (placeOf k o.x.length) (codeX o.s (o.x.getD (placeOf k o.x.length) 0) bit), made := o.made + 1 }

structure Ook (o : Co) : Prop where
  ok : Cok o.s
  pos : 0 < o.x.length
  lim : o.x.length ≤ 131072
  cells : ∀ y ∈ o.x, y < 94
  len : o.s.b.length ≤ 16 * o.made
  made : o.made ≤ 16777216

theorem newP_ok {n : Nat} (h : 0 < n) (h2 : n ≤ 131072) : Ook (newP n) := by
  have e : (newP n).s = { a := 32768, c := 0, t := 12, b := [], l := 0 } := rfl
  refine ⟨⟨⟨by rw [e]; decide, by rw [e]; decide, by rw [e]; decide, by rw [e]; decide, by rw [e]; decide, by rw [e]; decide, by simp [newP]⟩, by rw [e]; decide⟩, by simpa [newP] using h, by simpa [newP] using h2, ?_, by simp [newP], by simp [newP]⟩
  intro y hy
  simp [newP] at hy
  omega

theorem getD_lt {l : List Nat} (h : ∀ y ∈ l, y < 94) (i : Nat) : l.getD i 0 < 94 := by
  rw [List.getD_eq_getElem?_getD]
  by_cases hi : i < l.length
  · rw [List.getElem?_eq_getElem hi]; exact h _ (List.getElem_mem hi)
  · rw [List.getElem?_eq_none (by omega)]; decide

theorem putP_ok {o : Co} (h : Ook o) (k : Int) (bit : Nat) (hm : o.made < 16777216) : Ook (putP o k bit) := by
  refine ⟨codeP_ok h.ok (getD_lt h.cells _) bit, ?_, ?_, ?_, ?_, ?_⟩
  · simpa [putP] using h.pos
  · simpa [putP] using h.lim
  · intro y hy
    simp only [putP] at hy
    rcases List.mem_or_eq_of_mem_set hy with hy | rfl
    · exact h.cells y hy
    · exact codeX_lt _ (getD_lt h.cells _) bit
  · have := codeP_len o.s (o.x.getD (placeOf k o.x.length) 0) bit
    have := h.len
    show (codeP _ _ _).b.length ≤ 16 * (o.made + 1)
    omega
  · show o.made + 1 ≤ 16777216; omega

/-- Flushed. -/
def flushC (c a : Nat) : Nat := if c + a ≤ c ||| 65535 then (c ||| 65535) - 32768 else c ||| 65535
def flush1 (s : Cs) : Cs := outP { s with c := flushC s.c s.a * 2 ^ s.t }
def flush2 (s : Cs) : Cs := outP { flush1 s with c := (flush1 s).c * 2 ^ (flush1 s).t }
def flushP (s : Cs) : List Nat := if (flush2 s).l = 255 then (flush2 s).b.drop 1 else ((flush2 s).b ++ [(flush2 s).l]).drop 1

theorem or_low_le (c : Nat) : c ||| 65535 ≤ c + 65535 := by
  have h := Nat.or_lt_two_pow (x := c % 65536) (y := 65535) (n := 16) (Nat.mod_lt _ (by decide)) (by decide)
  have e : c ||| 65535 = 65536 * (c / 65536) + (c % 65536 ||| 65535) := by
    have hd : (c ||| 65535) / 65536 = c / 65536 := by
      rw [show (65536 : Nat) = 2 ^ 16 from rfl, ← Nat.shiftRight_eq_div_pow, ← Nat.shiftRight_eq_div_pow, Nat.shiftRight_or_distrib]
      simp
    have hm : (c ||| 65535) % 65536 = (c % 65536 ||| 65535) := by
      rw [show (65536 : Nat) = 2 ^ 16 from rfl, Nat.or_mod_two_pow]
    rw [← hd, ← hm]; omega
  omega

theorem flushC_lt {c a : Nat} (ha : 32768 ≤ a) : flushC c a < c + a := by
  have := or_low_le c
  unfold flushC; split <;> omega

end Go.Proofs.Ytkggdnkmaldmlaa
