/- Package context: At. -/
import Derived.Test.YtkggdnkmaldmlaaK18
import Derived.Deep.RegionWith
import Derived.Deep.Cut
import Derived.Deep.Light
import Derived.Deep.CutRange
import Derived.Deep.RegionHeld3
namespace Go.Proofs.Ytkggdnkmaldmlaa
open Go.RowKit

theorem cell_of_six {w : World} {b : Nat} {x y z u v s : Value} {t : TypeId} (h : w.heap[b]? = some (.cells #[x, y, z, u, v, s] t (0, 0))) :
    w.cell? ⟨b, 0, none⟩ = some x ∧ w.cell? ⟨b, 1, none⟩ = some y ∧ w.cell? ⟨b, 2, none⟩ = some z ∧ w.cell? ⟨b, 3, none⟩ = some u ∧ w.cell? ⟨b, 4, none⟩ = some v ∧ w.cell? ⟨b, 5, none⟩ = some s := by
  refine ⟨?_, ?_, ?_, ?_, ?_, ?_⟩ <;> simp [World.cell?, h]
theorem cell_of_two {w : World} {b : Nat} {x y : Value} {t : TypeId} (h : w.heap[b]? = some (.cells #[x, y] t (0, 0))) :
    w.cell? ⟨b, 0, none⟩ = some x ∧ w.cell? ⟨b, 1, none⟩ = some y := by
  refine ⟨?_, ?_⟩ <;> simp [World.cell?, h]

set_option maxRecDepth 100000 in
set_option maxHeartbeats 2000000 in
theorem at_ok (W H : Nat) (v : Value) (P : Nat → Nat → Bool) (t : Nat) (x y : Int) (w : World) (hb : Bm w v W H P) (ht : t < 4) (hx : -9223372036854775808 ≤ x ∧ x ≤ 9223372036854775807) (hy : -9223372036854775808 ≤ y ∧ y ≤ 9223372036854775807) :
    Calls Try.prog 91 #[.agg #[.int .i64 W, .int .i64 H, v], .int .i64 t, .int .i64 x, .int .i64 y] w fun e w' => e = .returned (.tuple #[.int .i64 (ctx (pixI W H P) t x y : Nat), .int .i64 0]) ∧ Fr (fun _ => False) w w' := by
  have HT : Hid (t < 4) := ht
  have HB : Hid (∀ w', Fr (fun _ => False) w w' → Bm w' v W H P) := fun w' f => hb.kept f
  obtain ⟨f1, f2, f3⟩ := size_facts hb.h1 hb.h2 hb.h3
  have HNX : Hid (∀ w' : World, Calls Try.prog 96 #[.int .i64 x, .int .i64 W] w' fun e w'' => e = .returned (.bool (decide (-4 ≤ x ∧ x ≤ W + 4))) ∧ w'' = w') := fun w' => isNear_any x W w' hx f1 _ rfl
  have HNY : Hid (∀ w' : World, Calls Try.prog 96 #[.int .i64 y, .int .i64 H] w' fun e w'' => e = .returned (.bool (decide (-4 ≤ y ∧ y ≤ H + 4))) ∧ w'' = w') := fun w' => isNear_any y H w' hy f2 _ rfl
  have HW : Hid (W ≤ 1048576 ∧ H ≤ 1048576) := ⟨f1, f2⟩
  have HX : Hid (-9223372036854775808 ≤ x ∧ x ≤ 9223372036854775807) := hx
  have HY : Hid (-9223372036854775808 ≤ y ∧ y ≤ 9223372036854775807) := hy
  obtain ⟨ao, cap, rfl, _, _⟩ := hb.seen
  have HBX : Hid (∀ w', Fr (fun _ => False) (w.alloc (.cells #[.int .i64 W, .int .i64 H, .slice ao (render W H P).length cap] 26)) w' → w'.cell? ⟨w.heap.size, 0, none⟩ = some (.int .i64 W) ∧ w'.cell? ⟨w.heap.size, 1, none⟩ = some (.int .i64 H) ∧ w'.cell? ⟨w.heap.size, 2, none⟩ = some (.slice ao (render W H P).length cap)) := fun w' hf => by
    have hB : w'.heap[w.heap.size]? = some (.cells #[.int .i64 W, .int .i64 H, .slice ao (render W H P).length cap] 26 (0, 0)) := by
      rw [hf.block _ (by simp) (fun hh => hh)]; exact heap_alloc_new _ _
    obtain ⟨c0, c1, c2, _⟩ := cell_of_three hB
    exact ⟨c0, c1, c2⟩
  generalize (render W H P).length = n at *
  have HA : Hid (Fr (fun _ => False) w (w.alloc (.cells #[.int .i64 W, .int .i64 H, .slice ao n cap] 26))) := (Fr.refl _ _).alloc _
  clear hb ht hx hy f1 f2 f3
  go_enter Try.func91, Try.ntmps91
  go_wp2_with fail
  generalize w.alloc (.cells #[.int .i64 W, .int .i64 H, .slice ao n cap] 26) = w0 at *
  refine (spansOf_ok t HT.out _).mono ?_
  rintro e w1 ⟨rfl, hf1⟩
  have HF1 : Hid (Fr (fun _ => False) w0 (w1.alloc (.cells #[.int .i64 (fstS t 0), .int .i64 (lstS t 0), .int .i64 (fstS t 1), .int .i64 (lstS t 1), .int .i64 (fstS t 2), .int .i64 (lstS t 2)] 137))) := hf1.alloc _
  obtain ⟨c0, c1, c2⟩ := HBX.out _ HF1.out
  have HSX : Hid (∀ w', Fr (fun _ => False) (w1.alloc (.cells #[.int .i64 (fstS t 0), .int .i64 (lstS t 0), .int .i64 (fstS t 1), .int .i64 (lstS t 1), .int .i64 (fstS t 2), .int .i64 (lstS t 2)] 137)) w' → w'.cell? ⟨w1.heap.size, 0, none⟩ = some (.int .i64 (fstS t 0)) ∧ w'.cell? ⟨w1.heap.size, 1, none⟩ = some (.int .i64 (lstS t 0)) ∧ w'.cell? ⟨w1.heap.size, 2, none⟩ = some (.int .i64 (fstS t 1)) ∧ w'.cell? ⟨w1.heap.size, 3, none⟩ = some (.int .i64 (lstS t 1)) ∧ w'.cell? ⟨w1.heap.size, 4, none⟩ = some (.int .i64 (fstS t 2)) ∧ w'.cell? ⟨w1.heap.size, 5, none⟩ = some (.int .i64 (lstS t 2))) := fun w' hf => by
    have hB : w'.heap[w1.heap.size]? = some (.cells #[.int .i64 (fstS t 0), .int .i64 (lstS t 0), .int .i64 (fstS t 1), .int .i64 (lstS t 1), .int .i64 (fstS t 2), .int .i64 (lstS t 2)] 137 (0, 0)) := by
      rw [hf.block _ (by simp) (fun hh => hh)]; exact heap_alloc_new _ _
    exact cell_of_six hB
  clear hf1
  unfold spansV
  go_wp2_with fail
  generalize w1.alloc (.cells #[.int .i64 (fstS t 0), .int .i64 (lstS t 0), .int .i64 (fstS t 1), .int .i64 (lstS t 1), .int .i64 (fstS t 2), .int .i64 (lstS t 2)] 137) = w2 at *
  refine (HB.out _ (HA.out.trans HF1.out (fun _ _ h => h))).check.mono ?_
  rintro e w3 ⟨rfl, hf3⟩
  have HF3 : Hid (Fr (fun _ => False) w0 w3) := HF1.out.trans hf3 (fun _ _ h => h)
  clear c0 c1 c2
  obtain ⟨c0, c1, c2⟩ := HBX.out _ HF3.out
  obtain ⟨s0, s1, s2, s3, s4, s5⟩ := HSX.out _ hf3
  clear hf3 HF1 HSX
  go_wp2_with fail
  refine (HNX.out _).mono ?_
  rintro e w4 ⟨rfl, hw4⟩
  obtain rfl := hw4
  by_cases hnx : -4 ≤ x ∧ x ≤ W + 4
  · rw [decide_eq_true hnx]
    go_wp2_with fail
    refine (HNY.out _).mono ?_
    rintro e w5 ⟨rfl, hw5⟩
    obtain rfl := hw5
    by_cases hny : -4 ≤ y ∧ y ≤ H + 4
    · rw [decide_eq_true hny]
      go_wp2_with fail
      go_loopw [12, 13, 14, 15, 16, 43] (fun s _ _ _ _ j wr => ∃ k : Nat, k ≤ 3 ∧ s = .int .i64 (ctxK (pixI W H P) t x y k : Nat) ∧ j = .int .i64 k ∧ Fr (fun _ => False) w0 wr) (fun _ _ _ _ _ j _ => 3 - (intOf j).toNat)
      case atStart => exact ⟨0, Nat.zero_le _, rfl, rfl, HF3.out⟩
      case round =>
        obtain ⟨k, hk, rfl, rfl, hfr⟩ := hrel
        have HFr : Hid (Fr (fun _ => False) w0 wr) := hfr
        clear c0 c1 c2 s0 s1 s2 s3 s4 s5
        by_cases hlt : k < 3
        · have hsf := span_facts t k HT.out hlt
          have hix := spans_index wr t k hlt
          have HAL : Hid (Fr (fun _ => False) w0 (wr.alloc (.cells #[.int .i64 (fstS t k), .int .i64 (lstS t k)] 136))) := hfr.alloc _
          obtain ⟨c0, c1, c2⟩ := HBX.out _ HAL.out
          have HSB : Hid (∀ w', Fr (fun _ => False) (wr.alloc (.cells #[.int .i64 (fstS t k), .int .i64 (lstS t k)] 136)) w' → w'.cell? ⟨wr.heap.size, 0, none⟩ = some (.int .i64 (fstS t k)) ∧ w'.cell? ⟨wr.heap.size, 1, none⟩ = some (.int .i64 (lstS t k))) := fun w' hf => by
            have hB : w'.heap[wr.heap.size]? = some (.cells #[.int .i64 (fstS t k), .int .i64 (lstS t k)] 136 (0, 0)) := by
              rw [hf.block _ (by simp) (fun hh => hh)]; exact heap_alloc_new _ _
            exact cell_of_two hB
          have hw1 : IntKind.i64.wrap (y - 2) = y - 2 := by rw [IntKind.wrap_i64]; have := HW.out; omega
          have hw2 : IntKind.i64.wrap (y - 2 + (k : Int)) = y - 2 + (k : Int) := by rw [IntKind.wrap_i64]; have := HW.out; omega
          have HR : Hid (∀ w', Fr (fun _ => False) w0 w' → Calls Try.prog 97 #[.agg #[.int .i64 W, .int .i64 H, .slice ao n cap], .int .i64 (y - 2 + (k : Int))] w' fun e w'' => (∃ v', e = .returned v' ∧ ∀ u, Seen u (.slice ao n cap) (render W H P) → Seen u v' (rowL W H P (y - 2 + (k : Int)))) ∧ Fr (fun _ => False) w' w'') := fun w' hf => (HB.out _ (HA.out.trans hf (fun _ _ h => h))).row _ (by have := HW.out; omega)
          have HLF : Hid (lstS t k = fstS t k + cntS t k - 1 ∧ -4 ≤ fstS t k ∧ fstS t k ≤ 0 ∧ cntS t k ≤ 7) := by refine ⟨?_, ?_, ?_, ?_⟩ <;> omega
          have HG : Hid (∀ j, j ≤ cntS t k → gathN (fun j => pixI W H P (x + fstS t k + j) (y - 2 + k)) j (ctxK (pixI W H P) t x y k) < 8388608) := fun j hj => by
            have h1 := gathN_lt (fun j => pixI W H P (x + fstS t k + j) (y - 2 + k)) (fun _ => pixI_le _ _ _ _ _) _ _ (ctxK_lt (pixI W H P) (pixI_le W H P) t x y k) j
            have h2 := bitsK_le t k HT.out (by omega)
            have h3 : 2 ^ (bitsK t k + j) ≤ 2 ^ 23 := Nat.pow_le_pow_right (by omega) (by have := HLF.out; omega)
            omega
          have HG1 : Hid (gathN (fun j => pixI W H P (x + fstS t k + j) (y - 2 + k)) (cntS t k) (ctxK (pixI W H P) t x y k) = ctxK (pixI W H P) t x y (k + 1)) := rfl
          have HG0 : Hid (gathN (fun j => pixI W H P (x + fstS t k + j) (y - 2 + k)) 0 (ctxK (pixI W H P) t x y k) = ctxK (pixI W H P) t x y k) := rfl
          clear hsf
          generalize fstS t k = F at *
          generalize lstS t k = L at *
          generalize cntS t k = c at *
          clear hfr
          go_wp2_with fail
          refine (HR.out _ HAL.out).mono ?_
          rintro e w6 ⟨⟨v', rfl, hs6⟩, hf6⟩
          have HF6 : Hid (Fr (fun _ => False) w0 w6) := HAL.out.trans hf6 (fun _ _ h => h)
          replace hs6 := hs6 _ (HB.out _ (HA.out.trans HF6.out (fun _ _ h => h))).seen
          have HPX : Hid (∀ z : Int, -9223372036854775808 ≤ z ∧ z ≤ 9223372036854775807 → Calls Try.prog 98 #[v', .int .i64 z] w6 fun e w' => e = .returned (.int .i64 (pixI W H P z (y - 2 + k) : Nat)) ∧ w' = w6) := fun z hz => row_pix hs6 HW.out.1 z hz
          obtain ⟨b0, b1⟩ := HSB.out _ hf6
          clear hs6 hf6 c0 c1 c2
          go_wp2_with fail
          go_loopw [12, 16] (fun s j wi => ∃ m : Nat, m ≤ c ∧ s = .int .i64 (gathN (fun j => pixI W H P (x + F + j) (y - 2 + k)) m (ctxK (pixI W H P) t x y k) : Nat) ∧ j = .int .i64 (F + m) ∧ wi = w6) (fun _ j _ => (L + 1 - intOf j).toNat)
          case atStart => exact ⟨0, Nat.zero_le _, by rw [HG0.out], congrArg (Value.int .i64) (by omega), rfl⟩
          case round =>
            obtain ⟨m, hm, rfl, rfl, hwi⟩ := hrel
            subst hwi
            have hlf := HLF.out
            have hbm := HG.out m hm
            by_cases hmc : m < c
            · have HST : Hid (gathN (fun j => pixI W H P (x + F + j) (y - 2 + k)) (m + 1) (ctxK (pixI W H P) t x y k) = 2 * gathN (fun j => pixI W H P (x + F + j) (y - 2 + k)) m (ctxK (pixI W H P) t x y k) + pixI W H P (x + (F + m)) (y - 2 + k)) := by rw [← Int.add_assoc]; rfl
              have hpl := pixI_le W H P (x + (F + m)) (y - 2 + k)
              have hd : decide (F + (m : Int) ≤ L) = true := decide_eq_true (by omega)
              have hw3 : IntKind.i64.wrap (x + (F + (m : Int))) = x + (F + (m : Int)) := by rw [IntKind.wrap_i64]; have := HW.out; omega
              have HZ : Hid (-9223372036854775808 ≤ x + (F + (m : Int)) ∧ x + (F + (m : Int)) ≤ 9223372036854775807) := by have := HW.out; exact ⟨by omega, by omega⟩
              have hw4 : IntKind.i64.wrap (F + (m : Int) + 1) = F + (m : Int) + 1 := by rw [IntKind.wrap_i64]; omega
              generalize gathN (fun j => pixI W H P (x + F + j) (y - 2 + k)) m (ctxK (pixI W H P) t x y k) = g at *
              have hw5 : IntKind.i64.wrap ((g : Int) * 2) = (g : Int) * 2 := by rw [IntKind.wrap_i64]; omega
              have HO := bor64_one g (pixI W H P (x + (F + m)) (y - 2 + k)) (by omega) hpl
              clear hpl hlf hbm
              go_wp2_with fail
              refine (HPX.out _ HZ.out).mono ?_
              rintro e w7 ⟨rfl, hw7⟩
              subst hw7
              go_wp2_with fail
              go_roundw
              case rel => exact ⟨m + 1, by omega, congrArg (Value.int .i64) (by rw [HST.out]; first | exact HO | rfl), congrArg (Value.int .i64) (by omega), trivial⟩
              case measure => have := HLF.out; simp [intOf]; omega
            · obtain rfl : m = c := by omega
              have hd : decide (F + (m : Int) ≤ L) = false := decide_eq_false (by omega)
              rw [HG1.out]
              clear hlf hbm
              go_wp2_with fail
              go_roundw
              case rel => exact ⟨k + 1, by omega, rfl, congrArg (Value.int .i64) (by omega), HF6.out⟩
              case measure => simp [intOf]; omega
        · obtain rfl : k = 3 := by omega
          go_wp2_with fail
          go_ret2
          exact ⟨rfl, HA.out.trans HFr.out (fun _ _ h => h)⟩
    · rw [decide_eq_false hny]
      have HE : Hid (ctx (pixI W H P) t x y = 0) := ctx_far W H P t x y HT.out (by omega)
      clear hnx hny
      go_wp2_with fail
      go_ret2
      exact ⟨by rw [HE.out]; rfl, HA.out.trans HF3.out (fun _ _ h => h)⟩
  · rw [decide_eq_false hnx]
    have HE : Hid (ctx (pixI W H P) t x y = 0) := ctx_far W H P t x y HT.out (by omega)
    clear hnx
    go_wp2_with fail
    go_ret2
    exact ⟨by rw [HE.out]; rfl, HA.out.trans HF3.out (fun _ _ h => h)⟩

end Go.Proofs.Ytkggdnkmaldmlaa

/- Package context: the closure of 'sliding'. -/
namespace Go.Proofs.Ytkggdnkmaldmlaa
open Go.RowKit

/-- What the closure captures: behind `j` calls. -/
structure Sl (w : World) (bw br bn bm : Nat) (v' : Value) (F : Int) (c j g : Nat) : Prop where
  win : w.heap[bw]? = some (.cells #[.int .i64 g] 3 (0, 0))
  row : w.heap[br]? = some (.cells #[v'] 24 (0, 0))
  nxt : w.heap[bn]? = some (.cells #[.int .i64 (F + j)] 3 (0, 0))
  msk : w.heap[bm]? = some (.cells #[.int .i64 (2 ^ c - 1 : Nat)] 3 (0, 0))
  wn : bw ≠ bn
  wm : bw ≠ bm
  nm : bn ≠ bm

set_option maxRecDepth 100000 in
set_option maxHeartbeats 40000000 in
theorem slide_any (w : World) (bw br bn bm : Nat) (v' : Value) (F : Int) (c j g : Nat) (l : List Nat) (hs : Sl w bw br bn bm v' F c j g) (hv : Seen w v' l) (hl : l.length ≤ 1048576) (hlt : ∀ j : Nat, l[j]?.getD 0 < 18446744073709551616)
    (hF : -1000 ≤ F ∧ F ≤ 1000) (hj : j ≤ 4194304) (hc : c ≤ 20) (hg : g < 2 ^ c) :
    Calls Try.prog 100 #[.pointer (some ⟨bw, 0, none⟩), .pointer (some ⟨br, 0, none⟩), .pointer (some ⟨bn, 0, none⟩), .pointer (some ⟨bm, 0, none⟩)] w fun e w' => e = .returned (.int .i64 ((2 * g + rowpix l (F + j)) % 2 ^ c : Nat)) ∧ Sl w' bw br bn bm v' F c (j + 1) ((2 * g + rowpix l (F + j)) % 2 ^ c) ∧ Fr (fun k => k = bw ∨ k = bn) w w' := by
  have HPX : Hid (∀ w', w' = w ∨ w' = w.drew → Calls Try.prog 98 #[v', .int .i64 (F + j)] w' fun e w'' => e = .returned (.int .i64 (rowpix l (F + j) : Nat)) ∧ w'' = w') := fun w' h => by
    rcases h with rfl | rfl
    · exact pixelOf_any v' l (F + j) _ hv hl hlt (by omega)
    · exact pixelOf_any v' l (F + j) _ (hv.kept (Fr.refl (fun _ => False) w).drew) hl hlt (by omega)
  have hpl := rowpix_le l (F + j)
  have hp : 2 ^ c ≤ 2 ^ 20 := Nat.pow_le_pow_right (by omega) hc
  generalize rowpix l (F + j) = p at *
  obtain ⟨q, HQ⟩ : ∃ q, Hid (q = (2 * g + p) % 2 ^ c) := ⟨_, rfl⟩
  have h1 : bits .or .i64 ((g : Int) * 2) (p : Int) = ((2 * g + p : Nat) : Int) := bor64_one g p (by omega) hpl
  have h2 : bits .and .i64 ((2 * g + p : Nat) : Int) ((2 ^ c - 1 : Nat) : Int) = (q : Int) := by rw [HQ.out]; exact band64 _ c (by omega) (by omega)
  have hw1 : IntKind.i64.wrap ((g : Int) * 2) = (g : Int) * 2 := by rw [IntKind.wrap_i64]; omega
  have hw2 : IntKind.i64.wrap (F + (j : Int) + 1) = F + (j : Int) + 1 := by rw [IntKind.wrap_i64]; omega
  rw [← HQ.out]
  have k0 := cell_of_one hs.win
  have k1 := cell_of_one hs.row
  have k2 := cell_of_one hs.nxt
  have k3 := cell_of_one hs.msk
  have z0 := free_of_one hs.win
  have z2 := free_of_one hs.nxt
  have HS : Hid (Sl w bw br bn bm v' F c j g) := hs
  generalize (2 ^ c - 1 : Nat) = M at *
  generalize (2 * g + p : Nat) = N at *
  obtain ⟨ao, cap, rfl, _, _⟩ := hv
  have hwn := hs.wn
  have hwm := hs.wm
  have hnm := hs.nm
  clear hs hp hpl hlt hj hc hF hg
  have hrw : br ≠ bw := fun e => by have h1 := HS.out.row; have h2 := HS.out.win; rw [e, h2] at h1; simp at h1
  have hrn : br ≠ bn := fun e => by have h1 := HS.out.row; have h2 := HS.out.nxt; rw [e, h2] at h1; simp at h1
  have m0 : (w.setCell ⟨bw, 0, none⟩ (.int .i64 (q : Int))).heap[bn]? = some (.cells #[.int .i64 (F + j)] 3 (0, 0)) := by rw [heap_setCell_other _ _ _ _ hwn.symm]; exact HS.out.nxt
  have m1 := cell_of_one m0
  have m2 := free_of_one m0
  have m3 : ((w.setCell ⟨bw, 0, none⟩ (.int .i64 (q : Int))).setCell ⟨bn, 0, none⟩ (.int .i64 (F + (j : Int) + 1))).heap[bw]? = some (.cells #[.int .i64 (q : Int)] 3 (0, 0)) := by rw [heap_setCell_other _ _ _ _ hwn]; exact one_setCell HS.out.win
  have m4 := cell_of_one m3
  have HE : Hid (Sl ((w.setCell ⟨bw, 0, none⟩ (.int .i64 (q : Int))).setCell ⟨bn, 0, none⟩ (.int .i64 (F + (j : Int) + 1))).drew bw br bn bm (.slice ao l.length cap) F c (j + 1) q) := by
    refine ⟨m3, ?_, ?_, ?_, hwn, hwm, hnm⟩
    · rw [heap_drew, heap_setCell_other _ _ _ _ hrn, heap_setCell_other _ _ _ _ hrw]; exact HS.out.row
    · rw [heap_drew, one_setCell m0, show F + (j : Int) + 1 = F + ((j + 1 : Nat) : Int) by omega]
    · rw [heap_drew, heap_setCell_other _ _ _ _ hnm.symm, heap_setCell_other _ _ _ _ hwm.symm]; exact HS.out.msk
  have HFR : Hid (Fr (fun k => k = bw ∨ k = bn) w ((w.setCell ⟨bw, 0, none⟩ (.int .i64 (q : Int))).setCell ⟨bn, 0, none⟩ (.int .i64 (F + (j : Int) + 1))).drew) := ((((Fr.refl _ _).setCell (p := ⟨bw, 0, none⟩) (fun _ => Or.inl rfl) _).setCell (p := ⟨bn, 0, none⟩) (fun _ => Or.inr rfl) _)).drew
  clear m0 m3
  go_enter Try.func100, Try.ntmps100
  go_upto_region 1 with (fail)
  go_cut [4] from 5 to 12 (fun u wc => u = .int .i64 0 ∧ wc = (w.setCell ⟨bw, 0, none⟩ (.int .i64 (q : Int))).drew)
  case first =>
    go_region_with (first | (go_at_call 98; refine (HPX.out _ (by first | exact Or.inl rfl | exact Or.inr rfl)).mono ?_; rintro e w4 ⟨rfl, rfl⟩))
    all_goals go_wp2_with fail
    all_goals go_meet
    all_goals go_light
    all_goals exact ⟨rfl, rfl⟩
  case rest =>
    obtain ⟨rfl, hwc⟩ := hcut
    subst hwc
    clear h1 h2 hw1 k0 k1 k3 z0
    go_wp2_with fail
    go_ret
    exact ⟨rfl, HE.out, HFR.out⟩

end Go.Proofs.Ytkggdnkmaldmlaa

/- Package context: 'sliding'. -/
namespace Go.Proofs.Ytkggdnkmaldmlaa
open Go.RowKit

theorem new1 (w : World) (x : Value) {k : Nat} (t : TypeId) (h : k = w.heap.size) : (w.alloc (.cells #[x] t)).heap[k]? = some (.cells #[x] t (0, 0)) := by subst h; exact heap_alloc_new _ _
theorem blkUp {w : World} {o : Nat} {B : Obj} (h : w.heap[o]? = some B) (x : Obj) : (w.alloc x).heap[o]? = some B := by rw [Below.heap_alloc _ _ _ (lt_of_block h)]; exact h
theorem blkSame {w : World} {o : Nat} {u : Value} (h : w.heap[o]? = some (.cells #[.int .i64 0] 3 (0, 0))) : (w.setCell ⟨o, 0, none⟩ u).heap[o]? = some (.cells #[u] 3 (0, 0)) := one_setCell h
theorem blkOther {w : World} {o k : Nat} {B : Obj} (hk : o ≠ k) (h : w.heap[o]? = some B) (u : Value) : (w.setCell ⟨k, 0, none⟩ u).heap[o]? = some B := by rw [heap_setCell_other _ _ _ _ hk]; exact h
theorem frSet {w w' : World} {k : Nat} (h : w.heap.size ≤ k) (f : Fr (fun _ => False) w w') (u : Value) : Fr (fun _ => False) w (w'.setCell ⟨k, 0, none⟩ u) := Fr.setCell f (fun hh => absurd hh (Nat.not_lt.2 h)) u
theorem blkDrew {w : World} {o : Nat} {B : Obj} (h : w.heap[o]? = some B) : w.drew.heap[o]? = some B := h
theorem blkOld {w w' : World} {o : Nat} {B : Obj} (f : Fr (fun _ => False) w w') (h : w.heap[o]? = some B) : w'.heap[o]? = some B := by rw [f.block o (lt_of_block h) (fun hh => hh)]; exact h
theorem Fr.cells {a b : World} (h : Fr (fun _ => False) a b) : ∀ (o k : Nat), o < a.heap.size → b.cell? ⟨o, k, none⟩ = a.cell? ⟨o, k, none⟩ := fun _ _ ho => h.cellEq ho (fun hh => hh)
theorem Fr.frozens {a b : World} (h : Fr (fun _ => False) a b) : ∀ (o k : Nat), o < a.heap.size → b.frozen? ⟨o, k, none⟩ = a.frozen? ⟨o, k, none⟩ := fun o k ho => by
  unfold World.frozen?
  rw [h.block o ho (fun hh => hh)]

set_option maxRecDepth 100000 in
set_option maxHeartbeats 20000000 in
theorem sliding_any (w : World) (v' : Value) (F L : Int) (c : Nat) (l : List Nat) (hv : Seen w v' l) (hl : l.length ≤ 1048576) (hlt : ∀ j : Nat, l[j]?.getD 0 < 18446744073709551616)
    (hF : -1000 ≤ F ∧ F ≤ 1000) (hL : -1000 ≤ L ∧ L ≤ 1000) (hLF : L - F + 1 = (c : Int)) (hc : c ≤ 20) :
    Calls Try.prog 99 #[v', .agg #[.int .i64 F, .int .i64 L]] w fun e w' => ∃ bw br bn bm, e = .returned (.func (.func 100) #[] #[.pointer (some ⟨bw, 0, none⟩), .pointer (some ⟨br, 0, none⟩), .pointer (some ⟨bn, 0, none⟩), .pointer (some ⟨bm, 0, none⟩)]) ∧
      Sl w' bw br bn bm v' F c (c - 1) (gathN (fun k => rowpix l (F + k)) (c - 1) 0 % 2 ^ c) ∧ Fr (fun _ => False) w w' ∧ w.heap.size ≤ bw ∧ w.heap.size ≤ br ∧ w.heap.size ≤ bn ∧ w.heap.size ≤ bm := by
  have HV : Hid (∀ w', Fr (fun _ => False) w w' → Seen w' v' l) := fun w' f => hv.kept f
  have HC : Hid (∀ w', Calls Try.prog 90 #[.agg #[.int .i64 F, .int .i64 L]] w' fun e w'' => e = .returned (.int .i64 c) ∧ Fr (fun _ => False) w' w'') := fun w' => count_any _ _ _ w' hF hL hLF
  obtain ⟨ao, cap, rfl, _, _⟩ := hv
  have HA : Hid (Fr (fun _ => False) w ((w.alloc (.cells #[.slice ao l.length cap] 24)).alloc (.cells #[.int .i64 F, .int .i64 L] 136))) := ((Fr.refl _ _).alloc _).alloc _
  have HSB : Hid (∀ w', Fr (fun _ => False) ((w.alloc (.cells #[.slice ao l.length cap] 24)).alloc (.cells #[.int .i64 F, .int .i64 L] 136)) w' → w'.cell? ⟨w.heap.size + 1, 0, none⟩ = some (.int .i64 F) ∧ w'.cell? ⟨w.heap.size + 1, 1, none⟩ = some (.int .i64 L) ∧ w'.heap[w.heap.size]? = some (.cells #[.slice ao l.length cap] 24 (0, 0))) := fun w' hf => by
    have hB : w'.heap[w.heap.size + 1]? = some (.cells #[.int .i64 F, .int .i64 L] 136 (0, 0)) := by
      rw [hf.block _ (by simp) (fun hh => hh)]
      have := heap_alloc_new (w.alloc (.cells #[.slice ao l.length cap] 24)) (.cells #[.int .i64 F, .int .i64 L] 136)
      rwa [World.size_alloc] at this
    have hB2 : w'.heap[w.heap.size]? = some (.cells #[.slice ao l.length cap] 24 (0, 0)) := by
      rw [hf.block _ (by simp; omega) (fun hh => hh), Below.heap_alloc _ _ _ (by simp)]
      exact heap_alloc_new _ _
    obtain ⟨x0, x1⟩ := cell_of_two hB
    exact ⟨x0, x1, hB2⟩
  have hp : 2 ^ c ≤ 2 ^ 20 := Nat.pow_le_pow_right (by omega) hc
  have hp0 : 0 < 2 ^ c := Nat.two_pow_pos _
  have hmin : min c 64 = c := by omega
  have hce : ((2 : Int) ^ c) = ((2 ^ c : Nat) : Int) := by rw [Int.natCast_pow]; rfl
  have hw1 : IntKind.i64.wrap (2 ^ c) = 2 ^ c := by rw [hce, IntKind.wrap_i64]; omega
  have hw2 : IntKind.i64.wrap (2 ^ c - 1) = ((2 ^ c - 1 : Nat) : Int) := by rw [hce, IntKind.wrap_i64]; omega
  have hw3 : IntKind.i64.wrap ((c : Int) - 1) = (c : Int) - 1 := by rw [IntKind.wrap_i64]; omega
  clear hp hp0 hce
  go_enter Try.func99, Try.ntmps99
  go_wp2_with fail
  obtain ⟨b0, b1, _⟩ := HSB.out _ (Fr.refl _ _)
  obtain ⟨d0, d1, _⟩ := HSB.out _ (Fr.refl _ _).drew
  generalize (w.alloc (.cells #[.slice ao l.length cap] 24)).alloc (.cells #[.int .i64 F, .int .i64 L] 136) = w0 at *
  have hsz : w0.heap.size ≤ w0.heap.size := Nat.le_refl _
  go_cut [5, 6, 7] from 9 to 14 (fun u v x wc => ∃ o1 o2 o3 : Nat, u = .pointer (some ⟨o1, 0, none⟩) ∧ v = .pointer (some ⟨o2, 0, none⟩) ∧ x = .pointer (some ⟨o3, 0, none⟩) ∧ w0.heap.size ≤ o1 ∧ w0.heap.size ≤ o2 ∧ w0.heap.size ≤ o3 ∧ o1 ≠ o2 ∧ o1 ≠ o3 ∧ o2 ≠ o3 ∧ wc.heap[o1]? = some (.cells #[.int .i64 0] 3 (0, 0)) ∧ wc.heap[o2]? = some (.cells #[.int .i64 (2 ^ c - 1 : Nat)] 3 (0, 0)) ∧ wc.heap[o3]? = some (.cells #[.int .i64 F] 3 (0, 0)) ∧ Fr (fun _ => False) w0 wc)
  case first =>
    go_region_held3 (fun w' => w'.cell? ⟨w.heap.size + 1, 0, none⟩ = some (.int .i64 F) ∧ w'.cell? ⟨w.heap.size + 1, 1, none⟩ = some (.int .i64 L) ∧ w'.heap[w.heap.size]? = some (.cells #[.slice ao l.length cap] 24 (0, 0))) (exact HSB.out _ (by repeat (first | with_reducible refine Fr.setCell ?_ (fun hh => absurd hh (Nat.not_lt.2 (by first | exact Nat.le_refl _ | exact Nat.le_succ _ | exact ks0 | exact Nat.le_succ_of_le ks0 | (simp; omega)))) _ | with_reducible refine Fr.alloc ?_ _ | with_reducible refine Fr.drew ?_ | with_reducible exact Fr.refl _ _ | with_reducible refine Fr.trans ?_ hf2 (fun _ _ hh => hh)))) (first | (go_at_call 90; refine (HC.out _).mono ?_; rintro e w2 ⟨rfl, hf2⟩; (have hc2 := hf2.cells); (have hz2 := hf2.frozens); (have hs2 := hf2.size); (have ks0 : w0.heap.size ≤ w2.heap.size := by simp at hs2; omega); (try have ks1 : w0.heap.size < w2.heap.size := by simp at hs2; omega); (try have ks2 : w0.heap.size + 1 < w2.heap.size := by simp at hs2; omega); (try have ks3 : w0.heap.size + 1 + 1 < w2.heap.size := by simp at hs2; omega); (try have ks4 : w0.heap.size + 1 ≤ w2.heap.size := by simp at hs2; omega)))
    all_goals go_wp2_with fail
    all_goals go_meet
    all_goals go_light
    all_goals (have hs3 := hf2.size; simp at hs3; clear HSB HC HV hmin hw1 hw2 hw3 hl hlt hF hL hLF hc)
    all_goals refine ⟨_, _, _, rfl, rfl, rfl, by omega, by omega, by omega, by omega, by omega, by omega, ?_, ?_, ?_, ?_⟩
    all_goals first
      | ((repeat (first | with_reducible exact heap_alloc_new _ _ | (with_reducible refine new1 _ _ _ ?_; simp; done) | with_reducible refine blkUp ?_ _ | with_reducible refine blkSame ?_ | (with_reducible refine blkOther ?_ ?_ _; omega) | with_reducible refine blkDrew ?_ | with_reducible refine blkOld hf2 ?_)); done)
      | ((repeat (first | (with_reducible refine frSet ?_ ?_ _; omega) | with_reducible refine Fr.alloc ?_ _ | with_reducible refine Fr.drew ?_ | with_reducible exact Fr.refl _ _ | with_reducible refine Fr.trans ?_ hf2 (fun _ _ hh => hh))); done)
  case rest =>
    obtain ⟨o1, o2, o3, rfl, rfl, rfl, q1, q2, q3, n1, n2, n3, hb1, hb2, hb3, hfc⟩ := hcut
    have HF0 : Hid (Fr (fun _ => False) w0 wc) := hfc
    have HS0 : Hid (Sl wc o1 w.heap.size o3 o2 (.slice ao l.length cap) F c 0 0) := ⟨hb1, (HSB.out _ hfc).2.2, by rw [hb3]; simp, hb2, n2, n1, n3.symm⟩
    obtain ⟨e0, e1, _⟩ := HSB.out _ hfc
    have HSZ : Hid (w.heap.size ≤ o1 ∧ w.heap.size ≤ w.heap.size ∧ w.heap.size ≤ o3 ∧ w.heap.size ≤ o2) := ⟨Nat.le_trans HA.out.size q1, Nat.le_refl _, Nat.le_trans HA.out.size q3, Nat.le_trans HA.out.size q2⟩
    have hmf : ∀ (fn : Fn) (first cap : Array Value) (w : World), (Instr.makeFunc fn first cap).run Try.prog w = .ok (.func fn first cap) w := fun _ _ _ _ => rfl
    clear hb1 hb2 hb3 hfc q1 q2 q3 n1 n2 n3 b0 b1 d0 d1
    go_wp2_with fail
    refine (HC.out _).mono ?_
    rintro e w5 ⟨rfl, hf5⟩
    have HFw : Hid (∀ w', Fr (fun k => k = o1 ∨ k = o3) w5 w' → Fr (fun _ => False) w w') := fun w' h => ((HA.out.trans HF0.out (fun _ _ h => h)).trans hf5 (fun _ _ h => h)).trans h (fun i hi e => by have := HSZ.out; omega)
    have HS5 : Hid (Sl w5 o1 w.heap.size o3 o2 (.slice ao l.length cap) F c 0 0) := ⟨blkOld hf5 HS0.out.win, blkOld hf5 HS0.out.row, blkOld hf5 HS0.out.nxt, blkOld hf5 HS0.out.msk, HS0.out.wn, HS0.out.wm, HS0.out.nm⟩
    clear hf5 e0 e1
    go_wp2_with fail
    go_loopw [19] (fun j wr => ∃ m : Nat, m ≤ c - 1 ∧ j = .int .i64 m ∧ Sl wr o1 w.heap.size o3 o2 (.slice ao l.length cap) F c m (gathN (fun k => rowpix l (F + k)) m 0 % 2 ^ c) ∧ Fr (fun k => k = o1 ∨ k = o3) w5 wr) (fun j _ => ((c : Int) - intOf j).toNat)
    case atStart => exact ⟨0, Nat.zero_le _, rfl, by simpa [gathN] using HS5.out, Fr.refl _ _⟩
    case round =>
      obtain ⟨m, hm, rfl, hsl, hfr⟩ := hrel
      have HFr : Hid (Fr (fun k => k = o1 ∨ k = o3) w5 wr) := hfr
      have HSl : Hid (Sl wr o1 w.heap.size o3 o2 (.slice ao l.length cap) F c m (gathN (fun k => rowpix l (F + k)) m 0 % 2 ^ c)) := hsl
      clear hsl hfr
      by_cases hlt1 : m < c - 1
      · have hd : decide ((m : Int) < (c : Int) - 1) = true := decide_eq_true (by omega)
        have HSD : Hid (Calls Try.prog 100 #[.pointer (some ⟨o1, 0, none⟩), .pointer (some ⟨w.heap.size, 0, none⟩), .pointer (some ⟨o3, 0, none⟩), .pointer (some ⟨o2, 0, none⟩)] wr fun e w' => e = .returned (.int .i64 (gathN (fun k => rowpix l (F + k)) (m + 1) 0 % 2 ^ c : Nat)) ∧ Sl w' o1 w.heap.size o3 o2 (.slice ao l.length cap) F c (m + 1) (gathN (fun k => rowpix l (F + k)) (m + 1) 0 % 2 ^ c) ∧ Fr (fun k => k = o1 ∨ k = o3) wr w') := by
          have HSC := slide_any wr o1 w.heap.size o3 o2 (.slice ao l.length cap) F c m (gathN (fun k => rowpix l (F + k)) m 0 % 2 ^ c) l HSl.out (HV.out _ (HFw.out _ HFr.out)) hl hlt hF (by omega) hc (Nat.mod_lt _ (Nat.two_pow_pos _))
          rw [← gathN_step] at HSC
          exact HSC
        go_wp2_with fail
        refine HSD.out.mono ?_
        rintro e w6 ⟨rfl, hsl6, hfr6⟩
        have HS6 : Hid (Sl w6 o1 w.heap.size o3 o2 (.slice ao l.length cap) F c (m + 1) (gathN (fun k => rowpix l (F + k)) (m + 1) 0 % 2 ^ c)) := hsl6
        have HF6 : Hid (Fr (fun k => k = o1 ∨ k = o3) wr w6) := hfr6
        clear hsl6 hfr6
        go_wp2_with fail
        go_roundw
        case rel => exact ⟨m + 1, by omega, congrArg (Value.int .i64) (by omega), HS6.out, HFr.out.trans HF6.out (fun _ _ h => h)⟩
        case measure => simp [intOf]; omega
      · obtain rfl : m = c - 1 := by omega
        have hd : decide (((c - 1 : Nat) : Int) < (c : Int) - 1) = false := decide_eq_false (by omega)
        go_wp2_with fail
        go_ret
        exact ⟨_, _, _, _, rfl, HSl.out, HFw.out _ HFr.out, HSZ.out⟩

end Go.Proofs.Ytkggdnkmaldmlaa
