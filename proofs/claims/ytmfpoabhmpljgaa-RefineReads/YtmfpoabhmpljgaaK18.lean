/- Package refine: shiftOf, wordsOf, row's closures, three. -/
import Derived.Test.YtmfpoabhmpljgaaK15
import Derived.Test.YtmfpoabhmpljgaaK17
import Derived.Deep.RegionHeld3
import Derived.Deep.RegionWith
import Derived.Deep.Cut
import Derived.Deep.CutRange
import Derived.Deep.Light
namespace Go.Proofs.Ytmfpoabhmpljgaa
open Go.RowKit

set_option maxRecDepth 100000 in
set_option maxHeartbeats 1000000 in
theorem shiftOf_any (x : Nat) (w : World) (hx : x ≤ 9223372036854775807) :
    Calls Try.prog 79 #[.int .i64 x] w fun e w' => e = .returned (.int .i64 ((63 - x % 64 : Nat) : Int)) ∧ w' = w := by
  have e2 : (x : Int).tmod 64 = (x : Int) % 64 := Int.tmod_eq_emod_of_nonneg (by omega)
  have g7 : IntKind.i64.wrap (63 - (x : Int) % 64) = ((63 - x % 64 : Nat) : Int) := by rw [IntKind.wrap_i64]; omega
  go_enter Try.func79, Try.ntmps79
  go_wp2_with fail
  go_ret
  exact ⟨rfl, rfl⟩

/-- The words of a bitmap's row. -/
def lineL (W : Nat) (P : Pxs) (y : Nat) : List Nat := (List.range (stride W)).map fun j => wd W P y j
theorem length_lineL (W : Nat) (P : Pxs) (y : Nat) : (lineL W P y).length = stride W := by simp [lineL]
theorem lineL_get (W : Nat) (P : Pxs) (y j : Nat) (hj : j < stride W) : (lineL W P y)[j]? = some (wd W P y j) := by
  unfold lineL; rw [List.getElem?_map, List.getElem?_range hj]; rfl

/-- A function that tells pixels of a row of a bitmap: outside all is white; else its captured variables: the shift, the bitmap, the words. -/
def RowFn (w : World) (fv : Value) (p : Int → Nat) : Prop :=
  (fv = .func (.func 91) #[] #[] ∧ ∀ x, p x = 0) ∨
  ∃ (bs bb bw W H y : Nat) (P : Pxs) (v u : Value) (s : Int), fv = .func (.func 92) #[] #[.pointer (some ⟨bs, 0, none⟩), .pointer (some ⟨bb, 0, none⟩), .pointer (some ⟨bw, 0, none⟩)] ∧
    w.heap[bs]? = some (.cells #[.int .i64 s] 3 (0, 0)) ∧ w.heap[bb]? = some (.cells #[.int .i64 W, .int .i64 H, v] 26 (0, 0)) ∧ w.heap[bw]? = some (.cells #[u] 24 (0, 0)) ∧
    Seen w u (lineL W P y) ∧ 1 ≤ W ∧ W ≤ 1048576 ∧ y < H ∧ -1048576 ≤ s ∧ s ≤ 1048576 ∧ ∀ x, p x = pixI W H P (x - s) y

set_option maxRecDepth 100000 in
set_option maxHeartbeats 1000000 in
theorem row1_any (x : Int) (w : World) : Calls Try.prog 91 #[.int .i64 x] w fun e w' => e = .returned (.int .i64 0) ∧ w' = w := by
  go_enter Try.func91, Try.ntmps91
  go_wp2_with fail
  go_ret
  exact ⟨rfl, rfl⟩

theorem lineL_lt (W : Nat) (P : Pxs) (y j : Nat) : (lineL W P y)[j]?.getD 0 < 18446744073709551616 := by
  by_cases h : j < stride W
  · rw [lineL_get W P y j h]; exact wd_lt _ _ _ _
  · rw [List.getElem?_eq_none (by rw [length_lineL]; omega)]; simp

set_option maxRecDepth 100000 in
set_option maxHeartbeats 1000000 in
theorem row2_any (bs bb bw W H y : Nat) (P : Pxs) (v u : Value) (s x : Int) (w : World) (hs : w.heap[bs]? = some (.cells #[.int .i64 s] 3 (0, 0))) (hb : w.heap[bb]? = some (.cells #[.int .i64 W, .int .i64 H, v] 26 (0, 0))) (hw : w.heap[bw]? = some (.cells #[u] 24 (0, 0)))
    (hu : Seen w u (lineL W P y)) (h1 : 1 ≤ W) (h2 : W ≤ 1048576) (hy : y < H) (hs1 : -1048576 ≤ s) (hs2 : s ≤ 1048576) (hx : -4611686018427387904 ≤ x ∧ x ≤ 4611686018427387904) :
    Calls Try.prog 92 #[.int .i64 x, .pointer (some ⟨bs, 0, none⟩), .pointer (some ⟨bb, 0, none⟩), .pointer (some ⟨bw, 0, none⟩)] w fun e w' => e = .returned (.int .i64 (pixI W H P (x - s) y : Nat)) ∧ Fr (fun _ => False) w w' := by
  have k0 := cell_of_one hs
  obtain ⟨b0, b1, b2, bf⟩ := cell_of_three hb
  have k1 := cell_of_one hw
  have g0 : IntKind.i64.wrap (x - s) = x - s := by rw [IntKind.wrap_i64]; omega
  by_cases h0 : x - s < 0
  · have e : pixI W H P (x - s) y = 0 := by unfold pixI; rw [if_neg (by omega)]
    rw [e]
    have hd : decide (x - s < 0) = true := decide_eq_true h0
    clear e h0 hx hu
    go_enter Try.func92, Try.ntmps92
    go_wp2_with fail
    go_ret
    exact ⟨rfl, Fr.refl _ _⟩
  · by_cases h3 : (W : Int) ≤ x - s
    · have e : pixI W H P (x - s) y = 0 := by unfold pixI; rw [if_neg (by omega)]
      rw [e]
      have hd : decide (x - s < 0) = false := decide_eq_false h0
      have hd2 : decide ((W : Int) ≤ x - s) = true := decide_eq_true h3
      clear e h0 hx hu h3
      go_enter Try.func92, Try.ntmps92
      go_wp2_with fail
      go_ret
      exact ⟨rfl, Fr.refl _ _⟩
    · obtain ⟨k, hk⟩ : ∃ k : Nat, x - s = (k : Int) := ⟨(x - s).toNat, by omega⟩
      rw [hk] at g0 h0 h3 ⊢
      have hkW : k < W := by omega
      have hj : k / 64 < stride W := by unfold stride; omega
      obtain ⟨ao, cap, rfl, hll, hcc⟩ := hu
      rw [length_lineL] at hcc hll
      obtain ⟨b, off, rfl, hc⟩ := hcc (by intro e; have := length_lineL W P y; rw [e] at this; simp at this; omega)
      have hcw := hc _ hj
      rw [lineL_get W P y _ hj, Option.getD_some] at hcw
      have hX := wd_lt W P y (k / 64)
      have HE : Hid (pixI W H P (k : Int) y = ((wd W P y (k / 64)).testBit (63 - k % 64)).toNat) := by
        show _ = _
        rw [pix_wd (y := y) P hkW]; unfold pixI; rw [if_pos (by omega)]; rfl
      have HBN := bit_num (wd W P y (k / 64)) (63 - k % 64) hX
      have HSO : Hid (∀ w', Calls Try.prog 79 #[.int .i64 (k : Int)] w' fun e w'' => e = .returned (.int .i64 ((63 - k % 64 : Nat) : Int)) ∧ w'' = w') := fun w' => shiftOf_any k w' (by omega)
      generalize wd W P y (k / 64) = X at *
      obtain ⟨A, hA⟩ : ∃ A, A = k / 64 := ⟨_, rfl⟩
      rw [← hA] at hcw hj
      have hd : decide ((k : Int) < 0) = false := decide_eq_false (by omega)
      have hd2 : decide ((W : Int) ≤ (k : Int)) = false := decide_eq_false (by omega)
      have e1 : (k : Int).tdiv 64 = (k : Int) / 64 := Int.tdiv_eq_ediv_of_nonneg (by omega)
      have g6 : IntKind.i64.wrap ((k : Int) / 64) = (A : Int) := by rw [IntKind.wrap_i64]; omega
      have g3 : (A : Int).toNat = A := by omega
      have g4 : (0 : Int) ≤ (A : Int) := by omega
      have g5 : (A : Int) < (stride W : Int) := by omega
      rw [HE.out, length_lineL] at *
      obtain ⟨M, hM⟩ : ∃ M, M = 63 - k % 64 := ⟨_, rfl⟩
      rw [← hM] at HBN HSO ⊢
      have hM2 : M < 64 := by omega
      clear hA hcc hc h0 h3 hx HE hs hb hw hM
      generalize stride W = S at *
      have HD : Hid (∀ w', Fr (fun _ => False) w w' → w'.cell? ⟨bw, 0, none⟩ = some (.slice (some ⟨b, off, none⟩) S cap) ∧ w'.cell? ⟨b, off + A, none⟩ = some (.int .u64 (X : Nat))) := fun w' f => ⟨by rw [f.cellEq (seen_lt k1) (fun h => h)]; exact k1, by rw [f.cellEq (seen_lt hcw) (fun h => h)]; exact hcw⟩
      go_enter Try.func92, Try.ntmps92
      go_wp2_with fail
      clear b0 b1 b2 bf k0 hd hd2
      go_region_held3 (fun w' => w'.cell? ⟨bw, 0, none⟩ = some (.slice (some ⟨b, off, none⟩) S cap) ∧ w'.cell? ⟨b, off + A, none⟩ = some (.int .u64 (X : Nat))) (first | exact HD.out _ ((Fr.refl _ _).drew) | exact HD.out _ ((Fr.refl _ _).drewN _)) (first | (go_at_call 79; refine (HSO.out _).mono ?_; rintro e w4 ⟨rfl, rfl⟩))
      go_wp2_with fail
      go_ret
      refine ⟨congrArg (fun x => Ending.returned (Value.int .i64 x)) ?_, (Fr.refl _ _).drew⟩
      rw [← HBN]
      generalize bits BinOp.and IntKind.u64 ((X : Int) / 2 ^ M) 1 = z
      rw [IntKind.wrap_i64]
      simp only [wrap64]

/-- A function that tells pixels is asked. -/
theorem RowFn.kept {w w' : World} {fv : Value} {p : Int → Nat} (h : RowFn w fv p) (f : Fr (fun _ => False) w w') : RowFn w' fv p := by
  rcases h with h | ⟨bs, bb, bw, W, H, y, P, v, u, s, e, a, b, c, d, r⟩
  · exact Or.inl h
  · exact Or.inr ⟨bs, bb, bw, W, H, y, P, v, u, s, e, by rw [f.block _ (lt_of_block a) (fun h => h)]; exact a, by rw [f.block _ (lt_of_block b) (fun h => h)]; exact b, by rw [f.block _ (lt_of_block c) (fun h => h)]; exact c, d.kept f, r⟩
theorem RowFn.le {w : World} {fv : Value} {p : Int → Nat} (h : RowFn w fv p) (x : Int) : p x ≤ 1 := by
  rcases h with ⟨_, h⟩ | ⟨bs, bb, bw, W, H, y, P, v, u, s, _, _, _, _, _, _, _, _, _, _, h⟩
  · rw [h]; omega
  · rw [h]; exact pixI_le _ _ _ _ _

theorem bor3 (a b c : Nat) (ha : a ≤ 1) (hb : b ≤ 1) (hc : c ≤ 1) : bits .or .i64 (bits .or .i64 ((a : Int) * 4) ((b : Int) * 2)) (c : Int) = ((4 * a + 2 * b + c : Nat) : Int) := by
  have h1 := bor64 a 2 (b * 2) (by omega) (by omega) (by omega)
  rw [show ((a * 2 ^ 2 : Nat) : Int) = (a : Int) * 4 by omega, show ((b * 2 : Nat) : Int) = (b : Int) * 2 by omega] at h1
  have h2 := bor64 (2 * a + b) 1 c (by omega) (by omega) (by omega)
  rw [show (((2 * a + b) * 2 ^ 1 : Nat) : Int) = ((a * 2 ^ 2 + b * 2 : Nat) : Int) by omega] at h2
  rw [h1, h2]; omega

set_option maxRecDepth 100000 in
set_option maxHeartbeats 1000000 in
theorem three_any (fv : Value) (p : Int → Nat) (x : Int) (w : World) (h : RowFn w fv p) (hx : -4611686018427387000 ≤ x ∧ x ≤ 4611686018427387000) :
    Calls Try.prog 94 #[fv, .int .i64 x] w fun e w' => e = .returned (.int .i64 (triN p x : Nat)) ∧ Fr (fun _ => False) w w' := by
  have hb := bor3 (p (x - 1)) (p x) (p (x + 1)) (h.le _) (h.le _) (h.le _)
  have l1 := h.le (x - 1)
  have l2 := h.le x
  have l3 := h.le (x + 1)
  have g1 : IntKind.i64.wrap (x - 1) = x - 1 := by rw [IntKind.wrap_i64]; omega
  have g2 : IntKind.i64.wrap (x + 1) = x + 1 := by rw [IntKind.wrap_i64]; omega
  rcases h with ⟨rfl, h⟩ | ⟨bs, bb, bw, W, H, y, P, v, u, s, rfl, a, b, c, d, h1, h2, h3, h4, h5, h6⟩
  · have e : triN p x = 0 := by unfold triN; rw [h, h, h]
    rw [e]
    go_enter Try.func94, Try.ntmps94
    go_wp2_with fail
    refine (row1_any _ _).mono ?_
    rintro e w1 ⟨rfl, rfl⟩
    go_wp2_with fail
    refine (row1_any _ _).mono ?_
    rintro e w1 ⟨rfl, rfl⟩
    go_wp2_with fail
    refine (row1_any _ _).mono ?_
    rintro e w1 ⟨rfl, rfl⟩
    go_wp2_with fail
    go_ret
    exact ⟨rfl, Fr.refl _ _⟩
  · have HR : Hid (∀ (z : Int) (w' : World), Fr (fun _ => False) w w' → (-4611686018427387904 ≤ z ∧ z ≤ 4611686018427387904) → Calls Try.prog 92 #[.int .i64 z, .pointer (some ⟨bs, 0, none⟩), .pointer (some ⟨bb, 0, none⟩), .pointer (some ⟨bw, 0, none⟩)] w' fun e w'' => e = .returned (.int .i64 (p z : Nat)) ∧ Fr (fun _ => False) w' w'') := fun z w' f hz => by
      rw [h6]
      exact row2_any bs bb bw W H y P v u s z w' (by rw [f.block _ (lt_of_block a) (fun h => h)]; exact a) (by rw [f.block _ (lt_of_block b) (fun h => h)]; exact b) (by rw [f.block _ (lt_of_block c) (fun h => h)]; exact c) (d.kept f) h1 h2 h3 h4 h5 hz
    unfold triN
    rw [← hb]
    have HX : Hid (-4611686018427387000 ≤ x ∧ x ≤ 4611686018427387000) := hx
    have w1 : IntKind.i64.wrap ((p (x - 1) : Int) * 4) = (p (x - 1) : Int) * 4 := by rw [IntKind.wrap_i64]; omega
    have w2 : IntKind.i64.wrap ((p x : Int) * 2) = (p x : Int) * 2 := by rw [IntKind.wrap_i64]; omega
    clear hb a b c d h1 h2 h3 h4 h5 h6 hx
    go_enter Try.func94, Try.ntmps94
    go_wp2_with fail
    refine (HR.out _ _ (Fr.refl _ _) (by have := HX.out; omega)).mono ?_
    rintro e u1 ⟨rfl, f1⟩
    go_wp2_with fail
    refine (HR.out _ _ f1 (by have := HX.out; omega)).mono ?_
    rintro e u2 ⟨rfl, f2⟩
    go_wp2_with fail
    refine (HR.out _ _ (f1.trans f2 (fun _ _ h => h)) (by have := HX.out; omega)).mono ?_
    rintro e u3 ⟨rfl, f3⟩
    go_wp2_with fail
    go_ret
    exact ⟨rfl, (f1.trans f2 (fun _ _ h => h)).trans f3 (fun _ _ h => h)⟩

end Go.Proofs.Ytmfpoabhmpljgaa

/- Package refine: wordsOf, row. -/
namespace Go.Proofs.Ytmfpoabhmpljgaa
open Go.RowKit

theorem seen_line {w : World} {b off cap W H : Nat} {P : Pxs} (h : Seen w (.slice (some ⟨b, off, none⟩) (H * stride W) cap) (render W H P)) (h1 : 1 ≤ W) {y : Nat} (hy : y < H) (hS : stride W ≤ 1048576) (c : Nat) : Seen w (.slice (some ⟨b, off + y * stride W, none⟩) (stride W) c) (lineL W P y) := by
  obtain ⟨ao, cap', e, hl, hc⟩ := h
  have hS0 := stride_pos (W := W) h1
  have hend : y * stride W + stride W ≤ H * stride W := by rw [← Nat.succ_mul]; exact Nat.mul_le_mul_right _ hy
  have hne : render W H P ≠ [] := by
    intro e
    have := length_render W H P
    rw [e] at this
    simp only [List.length_nil] at this
    omega
  obtain ⟨b1, off1, rfl, hcell⟩ := hc hne
  simp only [Value.slice.injEq, Option.some.injEq, Addr.mk.injEq] at e
  obtain ⟨⟨rfl, rfl, _⟩, _⟩ := e
  refine ⟨some ⟨b, off + y * stride W, none⟩, c, by rw [length_lineL], by rw [length_lineL]; omega, fun _ => ⟨b, off + y * stride W, rfl, fun j hj => ?_⟩⟩
  rw [length_lineL] at hj
  have := hcell (y * stride W + j) (by rw [length_render]; exact at_lt hy hj)
  rw [render_get P hy hj, Option.getD_some, ← Nat.add_assoc] at this
  rw [lineL_get W P y j hj]; exact this

set_option maxRecDepth 100000 in
set_option maxHeartbeats 1000000 in
theorem wordsOf_any (W H y b off cap : Nat) (w : World) (h1 : 1 ≤ W) (h2 : 1 ≤ H) (h3 : W * H ≤ 1048576) (hy : y < H) (hc1 : H * stride W ≤ cap) (_hc2 : cap ≤ maxLen) :
    Calls Try.prog 78 #[.agg #[.int .i64 W, .int .i64 H, .slice (some ⟨b, off, none⟩) (H * stride W) cap], .int .i64 y] w fun e w' => e = .returned (.slice (some ⟨b, off + y * stride W, none⟩) (stride W) (cap - y * stride W)) ∧ Fr (fun _ => False) w w' := by
  obtain ⟨f1, f2, f3⟩ := size_facts h1 h2 h3
  have hS := stride_pos (W := W) h1
  have hend : y * stride W + stride W ≤ H * stride W := by rw [← Nat.succ_mul]; exact Nat.mul_le_mul_right _ hy
  have hq : ((H * stride W : Nat) : Int).tdiv (H : Int) = (stride W : Int) := by
    rw [Int.natCast_mul, Int.mul_tdiv_cancel_left _ (by omega)]
  have hH0 : ((H : Int) == 0) = false := by simp; omega
  have hH1 : ¬ (H : Int) = 0 := by omega
  generalize hSS : stride W = S at *
  generalize hN : H * S = N at *
  have hm1 : (y : Int) * (S : Int) = ((y * S : Nat) : Int) := by push_cast; rfl
  have hm2 : ((y : Int) + 1) * (S : Int) = ((y * S : Nat) : Int) + (S : Int) := by rw [Int.add_mul, hm1]; omega
  generalize y * S = a at *
  have hn1 : ¬ a + S = a := by omega
  have hn2 : ¬ S = 0 := by omega
  clear hSS hN h3
  go_enter Try.func78, Try.ntmps78
  go_wp2
  all_goals first | (exfalso; omega) | skip
  go_ret
  refine ⟨?_, (Fr.refl _ _).alloc _⟩
  simp

/-- A function that 'row' has made: its variables lie from `lo` on. -/
def RowCl (w : World) (lo : Nat) (fv : Value) (W H : Nat) (v : Value) (y s : Int) : Prop :=
  (fv = .func (.func 91) #[] #[] ∧ ¬ (0 ≤ y ∧ y < H)) ∨
  ∃ (bs bb bw : Nat) (u : Value), fv = .func (.func 92) #[] #[.pointer (some ⟨bs, 0, none⟩), .pointer (some ⟨bb, 0, none⟩), .pointer (some ⟨bw, 0, none⟩)] ∧
    w.heap[bs]? = some (.cells #[.int .i64 s] 3 (0, 0)) ∧ w.heap[bb]? = some (.cells #[.int .i64 W, .int .i64 H, v] 26 (0, 0)) ∧ w.heap[bw]? = some (.cells #[u] 24 (0, 0)) ∧
    lo ≤ bs ∧ lo ≤ bb ∧ lo ≤ bw ∧ 0 ≤ y ∧ y < H ∧ ∀ (w' : World) (P : Pxs), Seen w' v (render W H P) → Seen w' u (lineL W P y.toNat)
theorem RowCl.kept {S : Nat → Prop} {w w' : World} {lo : Nat} {fv : Value} {W H : Nat} {v : Value} {y s : Int} (h : RowCl w lo fv W H v y s) (f : Fr S w w') (hs : ∀ k, lo ≤ k → k < w.heap.size → ¬ S k) : RowCl w' lo fv W H v y s := by
  rcases h with h | ⟨bs, bb, bw, u, e, a, b, c, l1, l2, l3, r⟩
  · exact Or.inl h
  · exact Or.inr ⟨bs, bb, bw, u, e, by rw [f.block _ (lt_of_block a) (hs _ l1 (lt_of_block a))]; exact a, by rw [f.block _ (lt_of_block b) (hs _ l2 (lt_of_block b))]; exact b, by rw [f.block _ (lt_of_block c) (hs _ l3 (lt_of_block c))]; exact c, l1, l2, l3, r⟩
theorem RowCl.less {w : World} {lo lo' : Nat} {fv : Value} {W H : Nat} {v : Value} {y s : Int} (h : RowCl w lo fv W H v y s) (hl : lo' ≤ lo) : RowCl w lo' fv W H v y s := by
  rcases h with h | ⟨bs, bb, bw, u, e, a, b, c, l1, l2, l3, r⟩
  · exact Or.inl h
  · exact Or.inr ⟨bs, bb, bw, u, e, a, b, c, by omega, by omega, by omega, r⟩
theorem RowCl.fn {w : World} {lo : Nat} {fv : Value} {W H : Nat} {v : Value} {y s : Int} (h : RowCl w lo fv W H v y s) {P : Pxs} (hv : Seen w v (render W H P)) (h1 : 1 ≤ W) (h2 : W ≤ 1048576) (hs : -1048576 ≤ s ∧ s ≤ 1048576) : RowFn w fv (fun x => pixI W H P (x - s) y) := by
  rcases h with ⟨e, h⟩ | ⟨bs, bb, bw, u, e, a, b, c, _, _, _, y1, y2, r⟩
  · exact Or.inl ⟨e, fun x => by show pixI _ _ _ _ _ = 0; unfold pixI; rw [if_neg (by omega)]⟩
  · refine Or.inr ⟨bs, bb, bw, W, H, y.toNat, P, v, u, s, e, a, b, c, r _ _ hv, h1, h2, by omega, hs.1, hs.2, fun x => ?_⟩
    rw [show ((y.toNat : Nat) : Int) = y by omega]

set_option maxRecDepth 100000 in
set_option maxHeartbeats 1000000 in
theorem mkrow_any (W H : Nat) (v : Value) (P : Pxs) (y s : Int) (w : World) (hb : Bm w v W H P) (hy : -4611686018427387904 ≤ y ∧ y ≤ 4611686018427387904) :
    Calls Try.prog 76 #[.agg #[.int .i64 W, .int .i64 H, v], .int .i64 y, .int .i64 s] w fun e w' => ∃ fv, e = .returned fv ∧ RowCl w' w.heap.size fv W H v y s ∧ Fr (fun _ => False) w w' := by
  obtain ⟨f1, f2, f3⟩ := size_facts hb.h1 hb.h2 hb.h3
  have hS := stride_pos (W := W) hb.h1
  obtain ⟨ao, cap, hv, hll, hcc⟩ := hb.seen
  rw [length_render] at hv hll
  have hne : render W H P ≠ [] := by
    intro e
    have := length_render W H P
    have h0 := Nat.mul_pos hb.h2 hS
    rw [e] at this
    simp only [List.length_nil] at this
    omega
  obtain ⟨b0, off, rfl, _⟩ := hcc hne
  subst hv
  obtain ⟨hc1, hc2⟩ := hb.cap _ _ _ rfl
  have hmf : ∀ (fn : Fn) (first cap : Array Value) (w : World), (Instr.makeFunc fn first cap).run Try.prog w = .ok (.func fn first cap) w := fun _ _ _ _ => rfl
  have HB : Hid (1 ≤ W ∧ 1 ≤ H ∧ W * H ≤ 1048576 ∧ stride W ≤ 1048576) := ⟨hb.h1, hb.h2, hb.h3, by unfold stride; omega⟩
  by_cases h0 : y < 0
  · have hd : decide (y < 0) = true := decide_eq_true h0
    clear hcc hne hb
    generalize H * stride W = N at *
    go_enter Try.func76, Try.ntmps76
    go_wp2_with fail
    go_ret
    exact ⟨_, rfl, Or.inl ⟨rfl, by omega⟩, ((Fr.refl _ _).alloc _).alloc _⟩
  · by_cases hH : (H : Int) ≤ y
    · have hd : decide (y < 0) = false := decide_eq_false h0
      have hd2 : decide ((H : Int) ≤ y) = true := decide_eq_true hH
      clear hcc hne hb
      generalize H * stride W = N at *
      go_enter Try.func76, Try.ntmps76
      go_wp2_with fail
      go_ret
      exact ⟨_, rfl, Or.inl ⟨rfl, by omega⟩, ((Fr.refl _ _).alloc _).alloc _⟩
    · obtain ⟨k, rfl⟩ : ∃ k : Nat, y = (k : Int) := ⟨y.toNat, by omega⟩
      have hd : decide ((k : Int) < 0) = false := decide_eq_false h0
      have hd2 : decide ((H : Int) ≤ (k : Int)) = false := decide_eq_false hH
      have hkH : k < H := by omega
      have HWO : Hid (∀ w', Calls Try.prog 78 #[.agg #[.int .i64 W, .int .i64 H, .slice (some ⟨b0, off, none⟩) (H * stride W) cap], .int .i64 k] w' fun e w'' => e = .returned (.slice (some ⟨b0, off + k * stride W, none⟩) (stride W) (cap - k * stride W)) ∧ Fr (fun _ => False) w' w'') := fun w' => wordsOf_any W H k b0 off cap w' HB.out.1 HB.out.2.1 HB.out.2.2.1 hkH hc1 hc2
      have HSL : Hid (∀ (w' : World) (P : Pxs), Seen w' (.slice (some ⟨b0, off, none⟩) (H * stride W) cap) (render W H P) → Seen w' (.slice (some ⟨b0, off + k * stride W, none⟩) (stride W) (cap - k * stride W)) (lineL W P (k : Int).toNat)) := fun w' P h => seen_line h HB.out.1 hkH HB.out.2.2.2 _
      clear hcc hne hb h0 hH
      generalize H * stride W = N at *
      generalize k * stride W = A at *
      generalize stride W = S at *
      have HA : Hid (Fr (fun _ => False) w ((w.alloc (.cells #[.int .i64 W, .int .i64 H, .slice (some ⟨b0, off, none⟩) N cap] 26)).alloc (.cells #[.int .i64 s] 3))) := ((Fr.refl _ _).alloc _).alloc _
      have e1 : ((w.alloc (.cells #[.int .i64 W, .int .i64 H, .slice (some ⟨b0, off, none⟩) N cap] 26)).alloc (.cells #[.int .i64 s] 3)).heap[w.heap.size]? = some (.cells #[.int .i64 W, .int .i64 H, .slice (some ⟨b0, off, none⟩) N cap] 26 (0, 0)) := blkUp (heap_alloc_new _ _) _
      have e2 : ((w.alloc (.cells #[.int .i64 W, .int .i64 H, .slice (some ⟨b0, off, none⟩) N cap] 26)).alloc (.cells #[.int .i64 s] 3)).heap[w.heap.size + 1]? = some (.cells #[.int .i64 s] 3 (0, 0)) := by
        have := heap_alloc_new (w.alloc (.cells #[.int .i64 W, .int .i64 H, .slice (some ⟨b0, off, none⟩) N cap] 26)) (.cells #[.int .i64 s] 3)
        rwa [World.size_alloc] at this
      have HE : Hid (∀ w', Fr (fun _ => False) ((w.alloc (.cells #[.int .i64 W, .int .i64 H, .slice (some ⟨b0, off, none⟩) N cap] 26)).alloc (.cells #[.int .i64 s] 3)) w' → w'.heap[w.heap.size]? = some (.cells #[.int .i64 W, .int .i64 H, .slice (some ⟨b0, off, none⟩) N cap] 26 (0, 0)) ∧ w'.heap[w.heap.size + 1]? = some (.cells #[.int .i64 s] 3 (0, 0))) := fun w' f => ⟨blkOld f e1, blkOld f e2⟩
      clear e1 e2
      go_enter Try.func76, Try.ntmps76
      go_wp2_with fail
      refine (HWO.out _).mono ?_
      rintro e w1 ⟨rfl, hf1⟩
      obtain ⟨q1, q2⟩ := HE.out _ hf1
      have hl1 := lt_of_block q1
      have hl2 := lt_of_block q2
      have HQ : Hid (w1.heap[w.heap.size]? = some (.cells #[.int .i64 W, .int .i64 H, .slice (some ⟨b0, off, none⟩) N cap] 26 (0, 0)) ∧ w1.heap[w.heap.size + 1]? = some (.cells #[.int .i64 s] 3 (0, 0)) ∧ Fr (fun _ => False) w w1) := ⟨q1, q2, HA.out.trans hf1 (fun _ _ h => h)⟩
      clear q1 q2 hf1
      go_wp2_with fail
      go_ret
      have q := HQ.out
      refine ⟨_, rfl, Or.inr ⟨w.heap.size + 1, w.heap.size, w1.heap.size, _, rfl, ?_, ?_, ?_, by omega, by omega, by omega, by omega, by omega, HSL.out⟩, q.2.2.alloc _⟩
      · exact blkUp q.2.1 _
      · exact blkUp q.1 _
      · exact heap_alloc_new w1 _

end Go.Proofs.Ytmfpoabhmpljgaa

/- Package refine: told and its closure. -/
namespace Go.Proofs.Ytmfpoabhmpljgaa
open Go.RowKit

/-- A function that 'told' has made. -/
structure ToldCl (w : World) (lo ba bo bt bm bl : Nat) (W H : Nat) (v : Value) (WR HR : Nat) (vR : Value) (dx dy y : Int) : Prop where
  ex : ∃ (fa fo ft fm fl : Value),
    w.heap[ba]? = some (.cells #[fa] 85 (0, 0)) ∧ w.heap[bo]? = some (.cells #[fo] 85 (0, 0)) ∧ w.heap[bt]? = some (.cells #[ft] 85 (0, 0)) ∧ w.heap[bm]? = some (.cells #[fm] 85 (0, 0)) ∧ w.heap[bl]? = some (.cells #[fl] 85 (0, 0)) ∧
    RowCl w lo fa W H v (y - 1) 0 ∧ RowCl w lo fo W H v y 0 ∧ RowCl w lo ft WR HR vR (y - dy - 1) dx ∧ RowCl w lo fm WR HR vR (y - dy) dx ∧ RowCl w lo fl WR HR vR (y - dy + 1) dx
  la : lo ≤ ba
  lb : lo ≤ bo
  lt : lo ≤ bt
  lm : lo ≤ bm
  ll : lo ≤ bl
def toldV (ba bo bt bm bl : Nat) : Value := .func (.func 93) #[] #[.pointer (some ⟨ba, 0, none⟩), .pointer (some ⟨bo, 0, none⟩), .pointer (some ⟨bt, 0, none⟩), .pointer (some ⟨bm, 0, none⟩), .pointer (some ⟨bl, 0, none⟩)]
theorem ToldCl.kept {S : Nat → Prop} {w w' : World} {lo ba bo bt bm bl W H : Nat} {v : Value} {WR HR : Nat} {vR : Value} {dx dy y : Int} (h : ToldCl w lo ba bo bt bm bl W H v WR HR vR dx dy y) (f : Fr S w w') (hs : ∀ k, lo ≤ k → k < w.heap.size → ¬ S k) : ToldCl w' lo ba bo bt bm bl W H v WR HR vR dx dy y := by
  obtain ⟨⟨fa, fo, ft, fm, fl, a, b, c, d, e, r1, r2, r3, r4, r5⟩, l1, l2, l3, l4, l5⟩ := h
  refine ⟨⟨fa, fo, ft, fm, fl, ?_, ?_, ?_, ?_, ?_, r1.kept f hs, r2.kept f hs, r3.kept f hs, r4.kept f hs, r5.kept f hs⟩, l1, l2, l3, l4, l5⟩
  · rw [f.block _ (lt_of_block a) (hs _ l1 (lt_of_block a))]; exact a
  · rw [f.block _ (lt_of_block b) (hs _ l2 (lt_of_block b))]; exact b
  · rw [f.block _ (lt_of_block c) (hs _ l3 (lt_of_block c))]; exact c
  · rw [f.block _ (lt_of_block d) (hs _ l4 (lt_of_block d))]; exact d
  · rw [f.block _ (lt_of_block e) (hs _ l5 (lt_of_block e))]; exact e

theorem bor_itself (a b : Nat) (ha : a < 8) (hb : b ≤ 1) : bits .or .i64 ((a : Int) * 2) (b : Int) = ((2 * a + b : Nat) : Int) := bor64_one a b (by omega) hb
theorem bor_all (a b c d : Nat) (ha : a < 16) (hb : b < 8) (hc : c < 8) (hd : d < 8) : bits .or .i64 (bits .or .i64 (bits .or .i64 ((a : Int) * 512) ((b : Int) * 64)) ((c : Int) * 8)) (d : Int) = ((a * 512 + b * 64 + c * 8 + d : Nat) : Int) := by
  have h1 := bor64 a 9 (b * 64) (by omega) (by omega) (by omega)
  rw [show ((a * 2 ^ 9 : Nat) : Int) = (a : Int) * 512 by omega, show ((b * 64 : Nat) : Int) = (b : Int) * 64 by omega] at h1
  have h2 := bor64 (a * 8 + b) 6 (c * 8) (by omega) (by omega) (by omega)
  rw [show (((a * 8 + b) * 2 ^ 6 : Nat) : Int) = ((a * 2 ^ 9 + b * 64 : Nat) : Int) by omega, show ((c * 8 : Nat) : Int) = (c : Int) * 8 by omega] at h2
  have h3 := bor64 (a * 64 + b * 8 + c) 3 d (by omega) (by omega) (by omega)
  rw [show (((a * 64 + b * 8 + c) * 2 ^ 3 : Nat) : Int) = (((a * 8 + b) * 2 ^ 6 + c * 8 : Nat) : Int) by omega] at h3
  rw [h1, h2, h3]; omega

set_option maxRecDepth 100000 in
set_option maxHeartbeats 4000000 in
theorem context_any (lo ba bo bt bm bl W H : Nat) (v : Value) (P : Pxs) (WR HR : Nat) (vR : Value) (PR : Pxs) (dx dy : Int) (x y : Nat) (w : World) (ht : ToldCl w lo ba bo bt bm bl W H v WR HR vR dx dy y)
    (hv : Seen w v (render W H P)) (hr : Seen w vR (render WR HR PR)) (h1 : 1 ≤ W) (h2 : W ≤ 1048576) (h3 : 1 ≤ WR) (h4 : WR ≤ 1048576) (hx : x ≤ 1048576) (hy : y < H) (hdx : -1048576 ≤ dx ∧ dx ≤ 1048576) :
    Calls Try.prog 93 #[.int .i64 x, .pointer (some ⟨ba, 0, none⟩), .pointer (some ⟨bo, 0, none⟩), .pointer (some ⟨bt, 0, none⟩), .pointer (some ⟨bm, 0, none⟩), .pointer (some ⟨bl, 0, none⟩)] w fun e w' => e = .returned (.int .i64 (cxR W (refP WR HR PR dx dy) P x y : Nat)) ∧ Fr (fun _ => False) w w' := by
  obtain ⟨⟨fa, fo, ft, fm, fl, a, b, c, d, e, r1, r2, r3, r4, r5⟩, _, _, _, _, _⟩ := ht
  have g1 := r1.fn hv h1 h2 (by omega)
  have g2 := r2.fn hv h1 h2 (by omega)
  have g3 := r3.fn hr h3 h4 hdx
  have g4 := r4.fn hr h3 h4 hdx
  have g5 := r5.fn hr h3 h4 hdx
  have e1 : (fun z : Int => pixI W H P (z - 0) ((y : Int) - 1)) = fun z => pixJ W P z ((y : Int) - 1) := funext fun z => by rw [Int.sub_zero]; exact pixJ_pixI W H P z _ (by omega)
  have e2 : (fun z : Int => pixI W H P (z - 0) (y : Int)) = fun z => pixJ W P z y := funext fun z => by rw [Int.sub_zero]; exact pixJ_pixI W H P z _ (by omega)
  have e3 : (fun z : Int => pixI WR HR PR (z - dx) ((y : Int) - dy - 1)) = fun z => refP WR HR PR dx dy z ((y : Int) - 1) := funext fun z => by unfold refP; rw [show (y : Int) - dy - 1 = (y : Int) - 1 - dy by omega]
  have e5 : (fun z : Int => pixI WR HR PR (z - dx) ((y : Int) - dy + 1)) = fun z => refP WR HR PR dx dy z ((y : Int) + 1) := funext fun z => by unfold refP; rw [show (y : Int) - dy + 1 = (y : Int) + 1 - dy by omega]
  rw [e1] at g1
  rw [e2] at g2
  rw [e3] at g3
  rw [e5] at g5
  have g4 : RowFn w fm (fun z => refP WR HR PR dx dy z y) := g4
  have t1 := triN_lt _ g1.le x
  have t3 := triN_lt _ g3.le x
  have t4 := triN_lt _ g4.le x
  have t5 := triN_lt _ g5.le x
  have t2 : pixJ W P ((x : Int) - 1) y ≤ 1 := pixJ_le _ _ _ _
  have HT1 : Hid (∀ w', Fr (fun _ => False) w w' → Calls Try.prog 94 #[fa, .int .i64 x] w' fun e w'' => e = .returned (.int .i64 (triN (fun z => pixJ W P z ((y : Int) - 1)) x : Nat)) ∧ Fr (fun _ => False) w' w'') := fun w' f => three_any fa _ x w' (g1.kept f) (by omega)
  have HT3 : Hid (∀ w', Fr (fun _ => False) w w' → Calls Try.prog 94 #[ft, .int .i64 x] w' fun e w'' => e = .returned (.int .i64 (triN (fun z => refP WR HR PR dx dy z ((y : Int) - 1)) x : Nat)) ∧ Fr (fun _ => False) w' w'') := fun w' f => three_any ft _ x w' (g3.kept f) (by omega)
  have HT4 : Hid (∀ w', Fr (fun _ => False) w w' → Calls Try.prog 94 #[fm, .int .i64 x] w' fun e w'' => e = .returned (.int .i64 (triN (fun z => refP WR HR PR dx dy z y) x : Nat)) ∧ Fr (fun _ => False) w' w'') := fun w' f => three_any fm _ x w' (g4.kept f) (by omega)
  have HT5 : Hid (∀ w', Fr (fun _ => False) w w' → Calls Try.prog 94 #[fl, .int .i64 x] w' fun e w'' => e = .returned (.int .i64 (triN (fun z => refP WR HR PR dx dy z ((y : Int) + 1)) x : Nat)) ∧ Fr (fun _ => False) w' w'') := fun w' f => three_any fl _ x w' (g5.kept f) (by omega)
  rcases r2 with ⟨_, hn⟩ | ⟨bs, bb, bw, u, rfl, q1, q2, q3, _, _, _, y1, y2, hu⟩
  · exact absurd ⟨by omega, by omega⟩ hn
  have HT2 : Hid (∀ w', Fr (fun _ => False) w w' → Calls Try.prog 92 #[.int .i64 ((x : Int) - 1), .pointer (some ⟨bs, 0, none⟩), .pointer (some ⟨bb, 0, none⟩), .pointer (some ⟨bw, 0, none⟩)] w' fun e w'' => e = .returned (.int .i64 (pixJ W P ((x : Int) - 1) y : Nat)) ∧ Fr (fun _ => False) w' w'') := fun w' f => by
    have := row2_any bs bb bw W H y P v u 0 ((x : Int) - 1) w' (blkOld f q1) (blkOld f q2) (blkOld f q3) (by have := hu w' P (hv.kept f); rwa [Int.toNat_natCast] at this) h1 h2 hy (by omega) (by omega) (by omega)
    rw [Int.sub_zero, pixJ_pixI W H P _ _ (by omega)] at this
    exact this
  unfold cxR
  have HC : Hid (∀ w', Fr (fun _ => False) w w' → w'.cell? ⟨ba, 0, none⟩ = some fa ∧ w'.cell? ⟨bo, 0, none⟩ = some (.func (.func 92) #[] #[.pointer (some ⟨bs, 0, none⟩), .pointer (some ⟨bb, 0, none⟩), .pointer (some ⟨bw, 0, none⟩)]) ∧ w'.cell? ⟨bt, 0, none⟩ = some ft ∧ w'.cell? ⟨bm, 0, none⟩ = some fm ∧ w'.cell? ⟨bl, 0, none⟩ = some fl) := fun w' f => ⟨cell_of_one (blkOld f a), cell_of_one (blkOld f b), cell_of_one (blkOld f c), cell_of_one (blkOld f d), cell_of_one (blkOld f e)⟩
  generalize triN (fun z => pixJ W P z ((y : Int) - 1)) x = n1 at *
  generalize triN (fun z => refP WR HR PR dx dy z ((y : Int) - 1)) x = n3 at *
  generalize triN (fun z => refP WR HR PR dx dy z y) x = n4 at *
  generalize triN (fun z => refP WR HR PR dx dy z ((y : Int) + 1)) x = n5 at *
  generalize pixJ W P ((x : Int) - 1) y = n2 at *
  have k1 := bor_itself n1 n2 t1 t2
  have k2 := bor_all (2 * n1 + n2) n3 n4 n5 (by omega) t3 t4 t5
  rw [← k2]
  obtain ⟨N, hN⟩ : ∃ N, N = 2 * n1 + n2 := ⟨_, rfl⟩
  rw [← hN] at k1 ⊢
  have w1 : IntKind.i64.wrap ((n1 : Int) * 2) = (n1 : Int) * 2 := by rw [IntKind.wrap_i64]; omega
  have w2 : IntKind.i64.wrap ((N : Int) * 512) = (N : Int) * 512 := by rw [IntKind.wrap_i64]; omega
  have w3 : IntKind.i64.wrap ((n3 : Int) * 64) = (n3 : Int) * 64 := by rw [IntKind.wrap_i64]; omega
  have w4 : IntKind.i64.wrap ((n4 : Int) * 8) = (n4 : Int) * 8 := by rw [IntKind.wrap_i64]; omega
  have w5 : IntKind.i64.wrap ((x : Int) - 1) = (x : Int) - 1 := by rw [IntKind.wrap_i64]; omega
  clear k2 hN t1 t2 t3 t4 t5 g1 g2 g3 g4 g5 e1 e2 e3 e5 r1 r3 r4 r5 a b c d e hv hr hu q1 q2 q3 h1 h2 h3 h4 hdx
  obtain ⟨c1, c2, c3, c4, c5⟩ := HC.out _ (Fr.refl _ _)
  go_enter Try.func93, Try.ntmps93
  go_wp2_with fail
  clear c3 c4 c5
  go_region_held3 (fun w' => w'.cell? ⟨ba, 0, none⟩ = some fa ∧ w'.cell? ⟨bo, 0, none⟩ = some (.func (.func 92) #[] #[.pointer (some ⟨bs, 0, none⟩), .pointer (some ⟨bb, 0, none⟩), .pointer (some ⟨bw, 0, none⟩)])) (exact (fun h => ⟨h.1, h.2.1⟩) (HC.out _ (by repeat (first | with_reducible exact Fr.refl _ _ | with_reducible refine Fr.drew ?_ | with_reducible refine Fr.trans ?_ hf7 (fun _ _ hh => hh) | with_reducible refine Fr.trans ?_ hf6 (fun _ _ hh => hh) | with_reducible refine Fr.trans ?_ hf5 (fun _ _ hh => hh) | with_reducible refine Fr.trans ?_ hf4 (fun _ _ hh => hh) | with_reducible refine Fr.trans ?_ hf3 (fun _ _ hh => hh))))) (first | (go_at_call 94; refine (HT1.out _ (by repeat (first | with_reducible exact Fr.refl _ _ | with_reducible refine Fr.drew ?_ | with_reducible refine Fr.trans ?_ hf7 (fun _ _ hh => hh) | with_reducible refine Fr.trans ?_ hf6 (fun _ _ hh => hh) | with_reducible refine Fr.trans ?_ hf5 (fun _ _ hh => hh) | with_reducible refine Fr.trans ?_ hf4 (fun _ _ hh => hh) | with_reducible refine Fr.trans ?_ hf3 (fun _ _ hh => hh)))).mono ?_; rintro e u3 ⟨rfl, hf3⟩) | (go_at_call 92; refine (HT2.out _ (by repeat (first | with_reducible exact Fr.refl _ _ | with_reducible refine Fr.drew ?_ | with_reducible refine Fr.trans ?_ hf7 (fun _ _ hh => hh) | with_reducible refine Fr.trans ?_ hf6 (fun _ _ hh => hh) | with_reducible refine Fr.trans ?_ hf5 (fun _ _ hh => hh) | with_reducible refine Fr.trans ?_ hf4 (fun _ _ hh => hh) | with_reducible refine Fr.trans ?_ hf3 (fun _ _ hh => hh)))).mono ?_; rintro e u4 ⟨rfl, hf4⟩))
  all_goals go_wp2_with fail
  clear w1 k1 w5
  go_region_held3 (fun w' => w'.cell? ⟨bt, 0, none⟩ = some ft ∧ w'.cell? ⟨bm, 0, none⟩ = some fm ∧ w'.cell? ⟨bl, 0, none⟩ = some fl) (exact (fun h => h.2.2) (HC.out _ (by repeat (first | with_reducible exact Fr.refl _ _ | with_reducible refine Fr.drew ?_ | with_reducible refine Fr.trans ?_ hf7 (fun _ _ hh => hh) | with_reducible refine Fr.trans ?_ hf6 (fun _ _ hh => hh) | with_reducible refine Fr.trans ?_ hf5 (fun _ _ hh => hh) | with_reducible refine Fr.trans ?_ hf4 (fun _ _ hh => hh) | with_reducible refine Fr.trans ?_ hf3 (fun _ _ hh => hh))))) (first | ((have _ := hf6); go_at_call 94; refine (HT5.out _ (by repeat (first | with_reducible exact Fr.refl _ _ | with_reducible refine Fr.drew ?_ | with_reducible refine Fr.trans ?_ hf7 (fun _ _ hh => hh) | with_reducible refine Fr.trans ?_ hf6 (fun _ _ hh => hh) | with_reducible refine Fr.trans ?_ hf5 (fun _ _ hh => hh) | with_reducible refine Fr.trans ?_ hf4 (fun _ _ hh => hh) | with_reducible refine Fr.trans ?_ hf3 (fun _ _ hh => hh)))).mono ?_; rintro e u7 ⟨rfl, hf7⟩) | ((have _ := hf5); go_at_call 94; refine (HT4.out _ (by repeat (first | with_reducible exact Fr.refl _ _ | with_reducible refine Fr.drew ?_ | with_reducible refine Fr.trans ?_ hf7 (fun _ _ hh => hh) | with_reducible refine Fr.trans ?_ hf6 (fun _ _ hh => hh) | with_reducible refine Fr.trans ?_ hf5 (fun _ _ hh => hh) | with_reducible refine Fr.trans ?_ hf4 (fun _ _ hh => hh) | with_reducible refine Fr.trans ?_ hf3 (fun _ _ hh => hh)))).mono ?_; rintro e u6 ⟨rfl, hf6⟩) | (go_at_call 94; refine (HT3.out _ (by repeat (first | with_reducible exact Fr.refl _ _ | with_reducible refine Fr.drew ?_ | with_reducible refine Fr.trans ?_ hf7 (fun _ _ hh => hh) | with_reducible refine Fr.trans ?_ hf6 (fun _ _ hh => hh) | with_reducible refine Fr.trans ?_ hf5 (fun _ _ hh => hh) | with_reducible refine Fr.trans ?_ hf4 (fun _ _ hh => hh) | with_reducible refine Fr.trans ?_ hf3 (fun _ _ hh => hh)))).mono ?_; rintro e u5 ⟨rfl, hf5⟩))
  all_goals go_wp2_with fail
  all_goals go_ret
  all_goals exact ⟨rfl, (by repeat (first | with_reducible exact Fr.refl _ _ | with_reducible refine Fr.drew ?_ | with_reducible refine Fr.trans ?_ hf7 (fun _ _ hh => hh) | with_reducible refine Fr.trans ?_ hf6 (fun _ _ hh => hh) | with_reducible refine Fr.trans ?_ hf5 (fun _ _ hh => hh) | with_reducible refine Fr.trans ?_ hf4 (fun _ _ hh => hh) | with_reducible refine Fr.trans ?_ hf3 (fun _ _ hh => hh)))⟩

end Go.Proofs.Ytmfpoabhmpljgaa
