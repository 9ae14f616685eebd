/- Package context: Row. -/
import Derived.Test.YtkggdnkmaldmlabKSd
namespace Go.Proofs.Ytkggdnkmaldmlab
open Go.RowKit

theorem Try.info3 : (Try.prog.info? 3).map (fun i => (i.zero, i.size, i.bytes)) = some (some (.int .i64 0), 1, 8) := by kernel_rfl

/-- Numbers in memory of the call's own. -/
def IntRow (w : World) (g n : Nat) (f : Nat → Nat) : Prop := w.ownsRow 0 3 1 (.slice (some ⟨g, 0, none⟩) n n) n ((List.range n).map fun x => .int .i64 (f x : Nat))
theorem IntRow.kept {S : Nat → Prop} {w w' : World} {g n : Nat} {f : Nat → Nat} (h : IntRow w g n f) (k : Fr S w w') (h1 : ¬ S g) : IntRow w' g n f :=
  row_kept h k (fun k hk => by simp [Value.ownBlock] at hk; subst hk; exact h1)
theorem IntRow.lt {w : World} {g n : Nat} {f : Nat → Nat} (h : IntRow w g n f) : g < w.heap.size := (World.ownsRow.lt h g rfl).2
theorem IntRow.get {w : World} {g n x : Nat} {f : Nat → Nat} (h : IntRow w g n f) (hx : x < n) : w.cell? ⟨g, x, none⟩ = some (.int .i64 (f x : Nat)) := by
  rw [World.ownsRow.cellAt h x (by omega), List.getElem?_map, List.getElem?_range hx]; rfl
theorem IntRow.free {w : World} {g n : Nat} {f : Nat → Nat} (h : IntRow w g n f) (x : Nat) : w.frozen? ⟨g, x, none⟩ = false := World.ownsRow.frozenAt h x
theorem IntRow.congr {w : World} {g n : Nat} {f f' : Nat → Nat} (h : IntRow w g n f) (e : ∀ x, x < n → f x = f' x) : IntRow w g n f' := by
  unfold IntRow at *
  rwa [show ((List.range n).map fun x => Value.int .i64 (f' x : Nat)) = ((List.range n).map fun x => Value.int .i64 (f x : Nat)) from List.map_congr_left (fun x hx => by rw [e x (List.mem_range.1 hx)])]
theorem IntRow.put {w : World} {g n x : Nat} {f f' : Nat → Nat} (h : IntRow w g n f) (hx : x < n) {v : Int} (hv : v = (f' x : Nat)) (e : ∀ z, z < n → z ≠ x → f z = f' z) : IntRow (w.setCell ⟨g, x, none⟩ (.int .i64 v)) g n f' := by
  have := (World.ownsRow.stored h x (.int .i64 v)).1
  unfold IntRow
  rwa [show ((List.range n).map fun x => Value.int .i64 (f' x : Nat)) = ((List.range n).map fun x => Value.int .i64 (f x : Nat)).set x (.int .i64 v) from ?_]
  refine List.ext_getElem? fun i => ?_
  rw [List.getElem?_set]
  by_cases hi : i < n
  · rw [List.getElem?_map, List.getElem?_range hi, List.length_map, List.length_range]
    by_cases h2 : x = i
    · subst h2; rw [if_pos rfl, if_pos hx, hv]; rfl
    · rw [if_neg h2, List.getElem?_map, List.getElem?_range hi, Option.map_some, Option.map_some, e i hi (fun h => h2 h.symm)]
  · rw [List.getElem?_eq_none (by simp; omega), if_neg (by omega), List.getElem?_eq_none (by simp; omega)]

theorem Sl.kept {S : Nat → Prop} {w w' : World} {bw br bn bm : Nat} {v' : Value} {F : Int} {c j g : Nat} (h : Sl w bw br bn bm v' F c j g) (f : Fr S w w') (h1 : ¬ S bw) (h2 : ¬ S br) (h3 : ¬ S bn) (h4 : ¬ S bm) : Sl w' bw br bn bm v' F c j g :=
  ⟨(f.block _ (lt_of_block h.win) h1).trans h.win, (f.block _ (lt_of_block h.row) h2).trans h.row, (f.block _ (lt_of_block h.nxt) h3).trans h.nxt, (f.block _ (lt_of_block h.msk) h4).trans h.msk, h.wn, h.wm, h.nm⟩

/-- What a window says. -/
theorem slide_val (p : Nat → Nat) (hp : ∀ k, p k ≤ 1) (c m : Nat) : gathN p (c - 1 + m + 1) 0 % 2 ^ c = gathN (fun k => p (m + k)) c 0 := by
  rcases Nat.eq_zero_or_pos c with h | h
  · subst h; simp [gathN, Nat.mod_one]
  · rw [show c - 1 + m + 1 = m + c by omega]; exact gathN_mod p hp m c

set_option maxRecDepth 100000 in
set_option maxHeartbeats 40000000 in
theorem row_ok (W H : Nat) (v : Value) (P : Nat → Nat → Bool) (t y : Nat) (w : World) (hb : Bm w v W H P) (ht : t < 4) (hy : y < H) :
    Calls Try.prog 53 #[.agg #[.int .i64 W, .int .i64 H, v], .int .i64 t, .int .i64 y] w fun e w' => ∃ g, e = .returned (.tuple #[.slice (some ⟨g, 0, none⟩) W W, .int .i64 0]) ∧ IntRow w' g W (fun x => ctx (pixI W H P) t x y) ∧ w.heap.size ≤ g ∧ Fr (fun _ => False) w w' := by
  have HT : Hid (t < 4) := ht
  have HB : Hid (∀ w', Fr (fun _ => False) w w' → Bm w' v W H P) := fun w' f => hb.kept f
  obtain ⟨f1, f2, f3⟩ := size_facts hb.h1 hb.h2 hb.h3
  have HW : Hid (W ≤ 1048576 ∧ H ≤ 1048576 ∧ 1 ≤ W) := ⟨f1, f2, hb.h1⟩
  have hd1 : decide ((y : Int) < 0) = false := decide_eq_false (by omega)
  have hd2 : decide (H ≤ y) = false := decide_eq_false (by omega)
  have HY : Hid (y < H) := hy
  obtain ⟨ao, cap, rfl, _, _⟩ := hb.seen
  have HBX : Hid (∀ w', Fr (fun _ => False) (w.alloc (.cells #[.int .i64 W, .int .i64 H, .slice ao (render W H P).length cap] 24)) w' → w'.cell? ⟨w.heap.size, 0, none⟩ = some (.int .i64 W) ∧ w'.cell? ⟨w.heap.size, 1, none⟩ = some (.int .i64 H) ∧ w'.cell? ⟨w.heap.size, 2, none⟩ = some (.slice ao (render W H P).length cap)) := fun w' hf => by
    have hB : w'.heap[w.heap.size]? = some (.cells #[.int .i64 W, .int .i64 H, .slice ao (render W H P).length cap] 24 (0, 0)) := by
      rw [hf.block _ (by simp) (fun hh => hh)]; exact heap_alloc_new _ _
    obtain ⟨c0, c1, c2, _⟩ := cell_of_three hB
    exact ⟨c0, c1, c2⟩
  generalize (render W H P).length = n at *
  have HA : Hid (Fr (fun _ => False) w (w.alloc (.cells #[.int .i64 W, .int .i64 H, .slice ao n cap] 24))) := (Fr.refl _ _).alloc _
  obtain ⟨i0, hi, hz0, hz1, hz2⟩ := info_parts Try.info3
  clear hb ht hy f2 f3
  go_enter Try.func53, Try.ntmps53
  go_wp2_with fail
  generalize w.alloc (.cells #[.int .i64 W, .int .i64 H, .slice ao n cap] 24) = w0 at *
  refine (spansOf_ok t HT.out _).mono ?_
  rintro e w1 ⟨rfl, hf1⟩
  have HF1 : Hid (Fr (fun _ => False) w0 (w1.alloc (.cells #[.int .i64 (fstS t 0), .int .i64 (lstS t 0), .int .i64 (fstS t 1), .int .i64 (lstS t 1), .int .i64 (fstS t 2), .int .i64 (lstS t 2)] 96))) := hf1.alloc _
  obtain ⟨c0, c1, c2⟩ := HBX.out _ HF1.out
  have HSX : Hid (∀ w', Fr (fun _ => False) (w1.alloc (.cells #[.int .i64 (fstS t 0), .int .i64 (lstS t 0), .int .i64 (fstS t 1), .int .i64 (lstS t 1), .int .i64 (fstS t 2), .int .i64 (lstS t 2)] 96)) w' → w'.cell? ⟨w1.heap.size, 0, none⟩ = some (.int .i64 (fstS t 0)) ∧ w'.cell? ⟨w1.heap.size, 1, none⟩ = some (.int .i64 (lstS t 0)) ∧ w'.cell? ⟨w1.heap.size, 2, none⟩ = some (.int .i64 (fstS t 1)) ∧ w'.cell? ⟨w1.heap.size, 3, none⟩ = some (.int .i64 (lstS t 1)) ∧ w'.cell? ⟨w1.heap.size, 4, none⟩ = some (.int .i64 (fstS t 2)) ∧ w'.cell? ⟨w1.heap.size, 5, none⟩ = some (.int .i64 (lstS t 2))) := fun w' hf => by
    have hB : w'.heap[w1.heap.size]? = some (.cells #[.int .i64 (fstS t 0), .int .i64 (lstS t 0), .int .i64 (fstS t 1), .int .i64 (lstS t 1), .int .i64 (fstS t 2), .int .i64 (lstS t 2)] 96 (0, 0)) := by
      rw [hf.block _ (by simp) (fun hh => hh)]; exact heap_alloc_new _ _
    exact cell_of_six hB
  clear hf1
  unfold spansV
  go_wp2_with fail
  generalize w1.alloc (.cells #[.int .i64 (fstS t 0), .int .i64 (lstS t 0), .int .i64 (fstS t 1), .int .i64 (lstS t 1), .int .i64 (fstS t 2), .int .i64 (lstS t 2)] 96) = w2 at *
  refine (HB.out _ (HA.out.trans HF1.out (fun _ _ h => h))).check.mono ?_
  rintro e w3 ⟨rfl, hf3⟩
  have HF3 : Hid (Fr (fun _ => False) w0 w3) := HF1.out.trans hf3 (fun _ _ h => h)
  have HF23 : Hid (Fr (fun _ => False) w2 w3) := hf3
  clear c0 c1 c2
  obtain ⟨c0, c1, c2⟩ := HBX.out _ HF3.out
  clear hf3 HF1
  go_wp2_with (first | (at_make; refine wpList_make_full _ rfl _ _ 87 rfl w3.heap.size 3 i0 (.int .i64 0) 1 Try.underlying87 hi hz0 hz1 .i64 .i64 _ _ W rfl rfl ?_ ?_ ?_ ?_ ?_ ?_))
  · omega
  · omega
  · rw [hz2]; omega
  · unfold maxLen; omega
  · omega
  · intro w4 hown hgrow
    have hf4 : Fr (fun _ => False) w3 w4 := (Fr.refl _ _).grown hgrow (fun _ e _ => by cases e)
    have HG : Hid (IntRow w4 w3.heap.size W (fun x => ctxK (pixI W H P) t x y 0)) := by
      have h1 : w4.ownsRow w3.heap.size 3 1 (.slice (some ⟨w3.heap.size, 0, none⟩) W W) W (List.replicate W (.int .i64 0)) := by rw [← toList_madeCells_one]; exact hown
      have h2 := ownsRow_base (b' := 0) h1 (fun _ _ => Nat.zero_le _)
      have e : ((List.range W).map fun x => Value.int .i64 ((ctxK (pixI W H P) t (x : Nat) y 0 : Nat) : Int)) = List.replicate W (.int .i64 0) := by
        rw [List.eq_replicate_iff]
        refine ⟨by simp, fun b hb => ?_⟩
        obtain ⟨a, _, rfl⟩ := List.mem_map.1 hb
        rfl
      unfold IntRow
      rw [e]; exact h2
    have HF4 : Hid (Fr (fun _ => False) w0 w4) := HF3.out.trans hf4 (fun _ _ h => h)
    have HGS : Hid (w0.heap.size ≤ w3.heap.size ∧ w.heap.size ≤ w0.heap.size) := ⟨HF3.out.size, HA.out.size⟩
    obtain ⟨s0, s1, s2, s3, s4, s5⟩ := HSX.out _ (HF23.out.trans hf4 (fun _ _ h => h))
    clear hown hgrow hf4 c0 c1 c2 hz0 hz1 hz2 hi HF23 HSX
    generalize w3.heap.size = g at *
    go_wp2_with fail
    clear s0 s1 s2 s3 s4 s5
    go_loopw [11, 12, 13, 14, 40, 54] (fun _ _ _ _ j _ wr => ∃ k : Nat, k ≤ 3 ∧ j = .int .i64 k ∧ IntRow wr g W (fun x => ctxK (pixI W H P) t x y k) ∧ Fr (fun _ => False) w0 wr) (fun _ _ _ _ j _ _ => 3 - (intOf j).toNat)
    case atStart => exact ⟨0, Nat.zero_le _, rfl, HG.out, HF4.out⟩
    case round =>
      obtain ⟨k, hk, rfl, hrow, hfr⟩ := hrel
      have HFr : Hid (Fr (fun _ => False) w0 wr) := hfr
      have HRow : Hid (IntRow wr g W (fun x => ctxK (pixI W H P) t x y k)) := hrow
      clear hrow
      by_cases hlt : k < 3
      · have hsf := span_facts t k HT.out hlt
        have hd3 : decide ((k : Int) < 3) = true := decide_eq_true (by omega)
        have hix := spans_index wr t k hlt
        have HLF : Hid (lstS t k - fstS t k + 1 = (cntS t k : Int) ∧ -4 ≤ fstS t k ∧ fstS t k ≤ 0 ∧ cntS t k ≤ 7 ∧ lstS t k ≤ 3 ∧ -1 ≤ lstS t k) := by refine ⟨?_, ?_, ?_, ?_, ?_, ?_⟩ <;> omega
        have HZ0 : Hid (∀ m : Nat, ctxK (pixI W H P) t m y k < 65537 ∧ ctxK (pixI W H P) t m y k * 2 ^ cntS t k + gathN (fun j => pixI W H P ((m : Int) + fstS t k + j) ((y : Int) - 2 + k)) (cntS t k) 0 = ctxK (pixI W H P) t m y (k + 1)) := fun m => by
          refine ⟨?_, (gathN_split _ _ _).symm⟩
          have h1 := ctxK_lt (pixI W H P) (pixI_le W H P) t m y k
          have h2 : 2 ^ bitsK t k ≤ 2 ^ 16 := Nat.pow_le_pow_right (by omega) (bitsK_le t k HT.out (by omega))
          omega
        clear hsf
        generalize fstS t k = F at *
        generalize lstS t k = L at *
        generalize cntS t k = c at *
        have HAL : Hid (Fr (fun _ => False) w0 (wr.alloc (.cells #[.int .i64 F, .int .i64 L] 95))) := hfr.alloc _
        have HBS : Hid (∀ w', Fr (fun _ => False) (wr.alloc (.cells #[.int .i64 F, .int .i64 L] 95)) w' → w'.heap[wr.heap.size]? = some (.cells #[.int .i64 F, .int .i64 L] 95 (0, 0))) := fun w' hf => by
          rw [hf.block _ (by simp) (fun hh => hh)]; exact heap_alloc_new _ _
        have HSS : Hid (∀ w', Fr (fun _ => False) (wr.alloc (.cells #[.int .i64 F, .int .i64 L] 95)) w' → w'.cell? ⟨w.heap.size, 0, none⟩ = some (.int .i64 W) ∧ w'.cell? ⟨w.heap.size, 1, none⟩ = some (.int .i64 H) ∧ w'.cell? ⟨w.heap.size, 2, none⟩ = some (.slice ao n cap) ∧ w'.cell? ⟨wr.heap.size, 0, none⟩ = some (.int .i64 F) ∧ w'.cell? ⟨wr.heap.size, 1, none⟩ = some (.int .i64 L)) := fun w' hf => by
          obtain ⟨a0, a1, a2⟩ := HBX.out _ (HAL.out.trans hf (fun _ _ h => h))
          obtain ⟨a3, a4⟩ := cell_of_two (HBS.out w' hf)
          exact ⟨a0, a1, a2, a3, a4⟩
        have hw1 : IntKind.i64.wrap ((y : Int) - 2) = (y : Int) - 2 := by rw [IntKind.wrap_i64]; have := HW.out; have := HY.out; omega
        have hw2 : IntKind.i64.wrap ((y : Int) - 2 + (k : Int)) = (y : Int) - 2 + (k : Int) := by rw [IntKind.wrap_i64]; have := HW.out; have := HY.out; omega
        have HR : Hid (∀ w', Fr (fun _ => False) (wr.alloc (.cells #[.int .i64 F, .int .i64 L] 95)) w' → Calls Try.prog 55 #[.agg #[.int .i64 W, .int .i64 H, .slice ao n cap], .int .i64 ((y : Int) - 2 + (k : Int))] w' fun e w'' => (∃ v', e = .returned v' ∧ ∀ u, Seen u (.slice ao n cap) (render W H P) → Seen u v' (rowL W H P ((y : Int) - 2 + (k : Int)))) ∧ Fr (fun _ => False) w' w'') := fun w' hf => (HB.out _ (HA.out.trans (HAL.out.trans hf (fun _ _ h => h)) (fun _ _ h => h))).row _ (by have := HW.out; have := HY.out; omega)
        have HRL : Hid ((rowL W H P ((y : Int) - 2 + (k : Int))).length ≤ 1048576) := by have h1 := rowL_length W H P ((y : Int) - 2 + (k : Int)); have h2 := HW.out; show _ ≤ _; unfold stride at h1; omega
        have HC : Hid (∀ w', Calls Try.prog 50 #[.agg #[.int .i64 F, .int .i64 L]] w' fun e w'' => e = .returned (.int .i64 c) ∧ Fr (fun _ => False) w' w'') := fun w' => count_any _ _ _ w' (by have := HLF.out; omega) (by have := HLF.out; omega) HLF.out.1
        have HPP : Hid (∀ z : Int, rowpix (rowL W H P ((y : Int) - 2 + (k : Int))) z = pixI W H P z ((y : Int) - 2 + (k : Int))) := fun z => rowpix_pixI W H P z _
        have HRlt : Hid (∀ j : Nat, (rowL W H P ((y : Int) - 2 + (k : Int)))[j]?.getD 0 < 18446744073709551616) := rowL_lt W H P _
        generalize rowL W H P ((y : Int) - 2 + (k : Int)) = R at *
        have HGA : Hid (g < wr.heap.size) := HRow.out.lt
        clear hfr hk
        go_upto_region 12 with (fail)
        generalize hwA : wr.alloc (.cells #[.int .i64 F, .int .i64 L] 95) = wA at *
        have HwA : Hid (wr.heap.size < wA.heap.size) := by show _ < _; rw [← hwA]; simp
        have HRowA : Hid (IntRow wA g W (fun x => ctxK (pixI W H P) t x y k)) := by show IntRow _ _ _ _; rw [← hwA]; exact HRow.out.kept ((Fr.refl (fun _ => False) _).alloc _) (fun h => h)
        clear hwA
        go_cut [13] from 44 to 51 (fun u wc => ∃ (bw br bn bm : Nat) (v' : Value), u = (.func (.func 58) #[] #[.pointer (some ⟨bw, 0, none⟩), .pointer (some ⟨br, 0, none⟩), .pointer (some ⟨bn, 0, none⟩), .pointer (some ⟨bm, 0, none⟩)]) ∧ Sl wc bw br bn bm v' F c (c - 1) (gathN (fun j => rowpix R (F + j)) (c - 1) 0 % 2 ^ c) ∧ (∀ u, Seen u (.slice ao n cap) (render W H P) → Seen u v' R) ∧ Fr (fun _ => False) wA wc ∧ wA.heap.size ≤ bw ∧ wA.heap.size ≤ br ∧ wA.heap.size ≤ bn ∧ wA.heap.size ≤ bm)
        case first =>
          go_region_held3 (fun w' => w'.cell? ⟨w.heap.size, 0, none⟩ = some (.int .i64 W) ∧ w'.cell? ⟨w.heap.size, 1, none⟩ = some (.int .i64 H) ∧ w'.cell? ⟨w.heap.size, 2, none⟩ = some (.slice ao n cap) ∧ w'.cell? ⟨wr.heap.size, 0, none⟩ = some (.int .i64 F) ∧ w'.cell? ⟨wr.heap.size, 1, none⟩ = some (.int .i64 L)) (exact HSS.out _ (by repeat (first | with_reducible exact Fr.refl _ _ | with_reducible refine Fr.drew ?_ | with_reducible refine Fr.trans ?_ hf6 (fun _ _ hh => hh) | with_reducible refine Fr.trans ?_ hf5 (fun _ _ hh => hh)))) (first | (go_at_call 55; refine (HR.out _ (by first | exact (Fr.refl _ _).drew | exact Fr.refl _ _)).mono ?_; rintro e w5 ⟨⟨v', rfl, hs5⟩, hf5⟩; have hu5 := hs5 _ (HB.out _ (HA.out.trans (HAL.out.trans ((Fr.refl (fun _ => False) wA).drew.trans hf5 (fun _ _ hh => hh)) (fun _ _ h => h)) (fun _ _ h => h))).seen) | (go_at_call 57; refine (sliding_any w5 v' F L c R hu5 HRL.out HRlt.out (by have := HLF.out; omega) (by have := HLF.out; omega) HLF.out.1 (by have := HLF.out; omega)).mono ?_; rintro e w6 ⟨bw, br, bn, bm, rfl, hsl, hf6, q1, q2, q3, q4⟩))
          all_goals go_wp2_with fail
          all_goals go_meet
          all_goals go_light
          all_goals (have hq5 := ((Fr.refl (fun _ => False) wA).drew.trans hf5 (fun _ _ hh => hh)); have hq := hq5.size; exact ⟨bw, br, bn, bm, v', rfl, hsl, hs5, hq5.trans hf6 (fun _ _ hh => hh), by omega, by omega, by omega, by omega⟩)
        case rest =>
          obtain ⟨bw, br, bn, bm, v', rfl, hsl, hsn, hfc, q1, q2, q3, q4⟩ := hcut
          have HSl0 : Hid (Sl wc bw br bn bm v' F c (c - 1) (gathN (fun j => rowpix R (F + j)) (c - 1) 0 % 2 ^ c)) := hsl
          have HSn : Hid (∀ w', Fr (fun k => k = g ∨ k = bw ∨ k = bn) wc w' → Seen w' v' R) := fun w' hf => by
            refine hsn _ (HB.out _ ((HA.out.trans (HAL.out.trans hfc (fun _ _ h => h)) (fun _ _ h => h)).trans hf (fun i hi e => ?_))).seen
            have h1 := HGS.out
            have h2 := HAL.out.size
            omega
          have HFc : Hid (Fr (fun _ => False) wA wc) := hfc
          have HQ : Hid (wA.heap.size ≤ bw ∧ wA.heap.size ≤ br ∧ wA.heap.size ≤ bn ∧ wA.heap.size ≤ bm) := ⟨q1, q2, q3, q4⟩
          have HRc : Hid (IntRow wc g W (fun x => ctxK (pixI W H P) t x y k)) := HRowA.out.kept hfc (fun h => h)
          have HBsc : Hid (wc.heap[wr.heap.size]? = some (.cells #[.int .i64 F, .int .i64 L] 95 (0, 0))) := HBS.out wc hfc
          clear hsl hsn hfc q1 q2 q3 q4 HSS HBS
          have HGL : Hid (g < wr.heap.size ∧ wr.heap.size < wA.heap.size) := ⟨HGA.out, HwA.out⟩
          have HGW : Hid (Fr (fun _ => False) w0 wc) := HAL.out.trans HFc.out (fun _ _ h => h)
          clear HGA HwA HRow HFr hix HRowA HAL HR
          generalize wr.heap.size = bs at *
          go_wp2_with fail
          go_loopw [14, 54] (fun _ j wi => ∃ m : Nat, m ≤ W ∧ j = .int .i64 m ∧ IntRow wi g W (fun x => if x < m then ctxK (pixI W H P) t x y (k + 1) else ctxK (pixI W H P) t x y k) ∧ Sl wi bw br bn bm v' F c (c - 1 + m) (gathN (fun j => rowpix R (F + j)) (c - 1 + m) 0 % 2 ^ c) ∧ Fr (fun k => k = g ∨ k = bw ∨ k = bn) wc wi) (fun _ j _ => W - (intOf j).toNat)
          case atStart => exact ⟨0, Nat.zero_le _, rfl, HRc.out.congr (fun x _ => by rw [if_neg (by omega)]), HSl0.out, Fr.refl _ _⟩
          case round =>
            obtain ⟨m, hm, rfl, hrw, hsl, hfr⟩ := hrel
            have HRi : Hid (IntRow wr g W (fun x => if x < m then ctxK (pixI W H P) t x y (k + 1) else ctxK (pixI W H P) t x y k)) := hrw
            have HSi : Hid (Sl wr bw br bn bm v' F c (c - 1 + m) (gathN (fun j => rowpix R (F + j)) (c - 1 + m) 0 % 2 ^ c)) := hsl
            have HFi : Hid (Fr (fun k => k = g ∨ k = bw ∨ k = bn) wc wr) := hfr
            clear hrw hsl hfr
            by_cases hmW : m < W
            · have hlf := HLF.out
              obtain ⟨A, hA⟩ : ∃ A, A = ctxK (pixI W H P) t m y k := ⟨_, rfl⟩
              obtain ⟨B, hB⟩ : ∃ B, B = gathN (fun j => rowpix R (F + j)) (c - 1 + m + 1) 0 % 2 ^ c := ⟨_, rfl⟩
              obtain ⟨hA1, hZ⟩ := HZ0.out m
              have hBZ : B = gathN (fun j => pixI W H P ((m : Int) + F + j) ((y : Int) - 2 + k)) c 0 := by
                rw [hB, slide_val _ (fun _ => rowpix_le _ _)]
                refine gathN_congr _ _ fun j _ => ?_
                rw [HPP.out]
                congr 1
                omega
              rw [← hA, ← hBZ] at hZ
              rw [← hA] at hA1
              have hBl : B < 2 ^ c := by rw [hB]; exact Nat.mod_lt _ (Nat.two_pow_pos _)
              have hp7 : 2 ^ c ≤ 2 ^ 7 := Nat.pow_le_pow_right (by omega) hlf.2.2.2.1
              have hAm : A * 2 ^ c ≤ 65537 * 128 := Nat.mul_le_mul (by omega) (by omega)
              have hce : ((A : Int) * 2 ^ c) = ((A * 2 ^ c : Nat) : Int) := by rw [Int.natCast_mul, Int.natCast_pow]; rfl
              have hw5 : IntKind.i64.wrap ((A : Int) * 2 ^ c) = (A : Int) * 2 ^ c := by rw [hce, IntKind.wrap_i64]; omega
              obtain ⟨Z, hZ1⟩ : ∃ Z, Z = A * 2 ^ c + B := ⟨_, rfl⟩
              have hor : bits .or .i64 ((A : Int) * 2 ^ c) (B : Int) = (Z : Int) := by rw [hce, bor64 A c B (by omega) hBl (by omega), hZ1]
              have hmin : min c 64 = c := by omega
              rw [← hZ1] at hZ
              have HCX : Hid (∀ w', Fr (fun k => k = bw ∨ k = bn) wr w' → w'.cell? ⟨g, m, none⟩ = some (.int .i64 A) ∧ w'.frozen? ⟨g, m, none⟩ = false ∧ w'.cell? ⟨bs, 0, none⟩ = some (.int .i64 F) ∧ w'.cell? ⟨bs, 1, none⟩ = some (.int .i64 L)) := fun w' hf => by
                have hg := HGL.out
                have hq := HQ.out
                have h1 := HRi.out.kept hf (by omega)
                have h2 := h1.get hmW
                rw [if_neg (by omega), ← hA] at h2
                have h3 : w'.heap[bs]? = some (.cells #[.int .i64 F, .int .i64 L] 95 (0, 0)) := by
                  have hb0 := lt_of_block HBsc.out
                  have hb1 := HFi.out.size
                  rw [hf.block _ (by omega) (by omega), HFi.out.block _ hb0 (by omega)]; exact HBsc.out
                obtain ⟨h4, h5⟩ := cell_of_two h3
                exact ⟨h2, h1.free m, h4, h5⟩
              have HSL : Hid (∀ w', Fr (fun _ => False) wr w' → Calls Try.prog 58 #[.pointer (some ⟨bw, 0, none⟩), .pointer (some ⟨br, 0, none⟩), .pointer (some ⟨bn, 0, none⟩), .pointer (some ⟨bm, 0, none⟩)] w' fun e w'' => e = .returned (.int .i64 (B : Nat)) ∧ Sl w'' bw br bn bm v' F c (c - 1 + m + 1) B ∧ Fr (fun k => k = bw ∨ k = bn) w' w'') := fun w' hf => by
                have h1 := slide_any w' bw br bn bm v' F c (c - 1 + m) (gathN (fun j => rowpix R (F + j)) (c - 1 + m) 0 % 2 ^ c) R (HSi.out.kept hf (fun h => h) (fun h => h) (fun h => h) (fun h => h)) ((HSn.out _ HFi.out).kept hf) HRL.out HRlt.out (by omega) (by have := HW.out; omega) (by omega) (Nat.mod_lt _ (Nat.two_pow_pos _))
                rw [← gathN_step, ← hB] at h1
                exact h1
              have HEND : Hid (∀ w', Fr (fun k => k = bw ∨ k = bn) wr w' → Sl w' bw br bn bm v' F c (c - 1 + m + 1) B → IntRow (w'.setCell ⟨g, m, none⟩ (.int .i64 (Z : Int))) g W (fun x => if x < m + 1 then ctxK (pixI W H P) t x y (k + 1) else ctxK (pixI W H P) t x y k) ∧ Sl (w'.setCell ⟨g, m, none⟩ (.int .i64 (Z : Int))) bw br bn bm v' F c (c - 1 + m + 1) B ∧ Fr (fun k => k = g ∨ k = bw ∨ k = bn) wr (w'.setCell ⟨g, m, none⟩ (.int .i64 (Z : Int)))) := fun w' hf hs => by
                have hg := HGL.out
                have hq := HQ.out
                refine ⟨(HRi.out.kept hf (by omega)).put hmW (by rw [if_pos (by omega), ← hZ]) (fun z _ hz => ?_), hs.kept ((Fr.refl (fun k => k = g) _).setCell (p := ⟨g, m, none⟩) (fun _ => rfl) _) (by omega) (by omega) (by omega) (by omega), Fr.setCell (S := fun k => k = g ∨ k = bw ∨ k = bn) (p := ⟨g, m, none⟩) (hf.mono (fun _ _ h => Or.inr h)) (fun _ => Or.inl rfl) _⟩
                by_cases hzm : z < m
                · rw [if_pos hzm, if_pos (by omega)]
                · rw [if_neg hzm, if_neg (by omega)]
              have HBE : Hid (B = gathN (fun j => rowpix R (F + j)) (c - 1 + (m + 1)) 0 % 2 ^ c) := hB
              obtain ⟨x0, x1, x2, x3⟩ := HCX.out wr (Fr.refl _ _)
              have hgm : decide (m < W) = true := decide_eq_true hmW
              clear hA1 hZ hBZ hB hA hBl hp7 hAm hce hZ1
              go_upto_region 16 with (fail)
              go_region_with (first | (go_at_call 50; refine (HC.out _).mono ?_; rintro e w6 ⟨rfl, hf6⟩; (have HK6 : Hid (Fr (fun k => k = bw ∨ k = bn) wr w6) := by first | exact ((Fr.refl _ _).drew.trans hf6 (fun _ _ h => h.elim)) | exact HK7.out.trans hf6 (fun _ _ h => h.elim)); obtain ⟨y0, y1, y2, y3⟩ := HCX.out _ HK6.out) | (go_at_call 58; refine (HSL.out _ (by first | exact (Fr.refl _ _).drew | exact ((Fr.refl _ _).drew.trans hf6 (fun _ _ h => h)))).mono ?_; rintro e w7 ⟨rfl, hs7, hf7⟩; (have HK7 : Hid (Fr (fun k => k = bw ∨ k = bn) wr w7) := by first | exact ((Fr.refl _ _).drew.trans hf7 (fun _ _ h => h)) | exact HK6.out.trans hf7 (fun _ _ h => h)); obtain ⟨z0, z1, z2, z3⟩ := HCX.out _ HK7.out))
              all_goals go_wp2_with fail
              all_goals go_roundw
              all_goals first
                | (refine ⟨m + 1, by omega, congrArg (Value.int .i64) (by omega), (HEND.out _ HK7.out hs7).1, ?_, HFi.out.trans (HEND.out _ HK7.out hs7).2.2 (fun _ _ h => h)⟩; rw [← HBE.out]; exact (HEND.out _ HK7.out hs7).2.1)
                | (refine ⟨m + 1, by omega, congrArg (Value.int .i64) (by omega), (HEND.out _ HK6.out (hs7.kept hf6 (fun h => h) (fun h => h) (fun h => h) (fun h => h))).1, ?_, HFi.out.trans (HEND.out _ HK6.out (hs7.kept hf6 (fun h => h) (fun h => h) (fun h => h) (fun h => h))).2.2 (fun _ _ h => h)⟩; rw [← HBE.out]; exact (HEND.out _ HK6.out (hs7.kept hf6 (fun h => h) (fun h => h) (fun h => h) (fun h => h))).2.1)
                | (simp [intOf]; omega)
            · obtain rfl : m = W := by omega
              go_wp2_with fail
              go_roundw
              case rel =>
                refine ⟨k + 1, by omega, congrArg (Value.int .i64) (by omega), HRi.out.congr (fun x hx => by rw [if_pos hx]), HGW.out.trans HFi.out (fun i hi e => ?_)⟩
                have h1 := HGS.out
                have h2 := HQ.out
                have h3 := HGL.out
                omega
              case measure => simp [intOf]; omega
      · obtain rfl : k = 3 := by omega
        go_wp2_with fail
        go_ret2
        exact ⟨g, rfl, HRow.out, Nat.le_trans HGS.out.2 HGS.out.1, HA.out.trans HFr.out (fun _ _ h => h)⟩

end Go.Proofs.Ytkggdnkmaldmlab
