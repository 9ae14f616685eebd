/- What is encoded is decoded again; 'wakes'. -/
import Derived.Test.YtkggdnkmaldmlaaK28
import Derived.BigQuiet
import Derived.Test.YtkggdnkmaldmlaaK2
import Derived.Test.YtkggdnkmaldmlaaK20
import Derived.Test.YtkggdnkmaldmlaaK16
import Derived.Test.YtkggdnkmaldmlaaK18
import Derived.ProofKit
import Derived.OpenShut
import Derived.ChangeOld
import Derived.Lib.SmallJoins
import Derived.Deep.Slices
import Derived.Deep.Strs
namespace Go.Proofs.Ytkggdnkmaldmlaa
open Go.RowKit

theorem rowsD_front (base t W : Nat) (skip : Bool) (P : Pxs) (h : Nat) : ∀ k, ∃ post, rowsD base t W skip P (h + k) = rowsD base t W skip P h ++ post
  | 0 => ⟨[], by simp⟩
  | k + 1 => by
    obtain ⟨post, e⟩ := rowsD_front base t W skip P h k
    refine ⟨post ++ rowD base t W skip P (h + k), ?_⟩
    rw [← Nat.add_assoc, rowsD, e, List.append_assoc]
theorem cur_all (W : Nat) (P : Pxs) (H x y : Nat) (hx : x < W) (hy : y < H) : cur W P H 0 x y = P x y := by
  unfold cur; rw [if_pos ⟨hx, Or.inl hy⟩]
/-- The first rows of what was encoded. -/
theorem gback (W H h t : Nat) (skip : Bool) (P : Pxs) (ht : t < 4) (hm : H * (W + 1) ≤ 16777216) (hh : h ≤ H) :
    (gotW (codedB (sizeT t + 1) (rowsD 0 t W skip P H)) 0 t W skip h (newD (codedB (sizeT t + 1) (rowsD 0 t W skip P H)) (sizeT t + 1))).2 = cur W P h 0 := by
  have hZ := sizeT_le t ht
  have hl := rowsD_length 0 t W skip P H
  obtain ⟨post, e⟩ := rowsD_front 0 t W skip P h (H - h)
  rw [show h + (H - h) = H by omega] at e
  have := thrW_back (n := sizeT t + 1) (L := rowsD 0 t W skip P H) (by omega) (by omega) (rowsD_bits 0 t W skip P H) (by omega) 0 t W skip ht P [] h ⟨post, by rw [List.nil_append]; exact e⟩
  unfold gotW
  have e0 : decL (sizeT t + 1) (rowsD 0 t W skip P H) ([] : List (Int × Nat)).length = newD (codedB (sizeT t + 1) (rowsD 0 t W skip P H)) (sizeT t + 1) := rfl
  rw [e0] at this
  rw [this]
theorem runL_runC (n : Nat) (L : List (Int × Nat)) : runL (newP n) L = runC n (kOf L) (dOf L) L.length := (runC_all n L).symm
theorem flushP_lt {s : Cs} (h : Cok s) : ∀ y ∈ flushP s, y < 256 := by
  intro y hy
  have h2 := (flush_cw h.cw).2
  unfold flushP at hy
  split at hy
  · exact h2.blt y (List.mem_of_mem_drop hy)
  · have := List.mem_of_mem_drop hy
    rw [List.mem_append, List.mem_singleton] at this
    rcases this with a | a
    · exact h2.blt y a
    · rw [a]; exact h2.llt
theorem codedB_lt {n : Nat} (h1 : 1 ≤ n) (h2 : n ≤ 131072) (L : List (Int × Nat)) (hm : L.length ≤ 16777216) : ∀ y ∈ codedB n L, y < 256 := by
  have := (runL_ok (newP_ok (n := n) (by omega) h2) L (by show 0 + _ ≤ _; omega)).1
  exact flushP_lt this.ok
theorem codedB_pos (n : Nat) (L : List (Int × Nat)) : 0 < (codedB n L).length := by
  unfold codedB flushP
  have := flush_two (runL (newP n) L).s
  split
  · rw [List.length_drop]; omega
  · rw [List.length_drop, List.length_append]; omega
theorem RowAt.bm {w : World} {g cap W H : Nat} {P : Pxs} (h : RowAt w g cap W H P) (h1 : 1 ≤ W) (h2 : 1 ≤ H) (h3 : W * H ≤ 1048576) : Bm w (.slice (some ⟨g, 0, none⟩) (H * stride W) cap) W H P := by
  obtain ⟨_, _, f3⟩ := size_facts h1 h2 h3
  obtain ⟨cur, _, a, b, _, _⟩ := h.cur
  refine ⟨h.seen f3, ?_, h1, h2, h3⟩
  intro ao n c e
  simp only [Value.slice.injEq] at e
  obtain ⟨_, rfl, rfl⟩ := e
  exact ⟨a, b⟩

/-- The bitmap of 'wakes'. -/
def wakeL : List Nat := [12105675798371893248, 12105675798371893248]
theorem wake_render : render 5 2 (pixOf 5 wakeL) = wakeL := by decide +kernel

set_option maxRecDepth 100000 in
set_option maxHeartbeats 4000000 in
theorem wakes7 (w : World) : Calls Try.prog 15 #[] w fun e w' => e = .returned (.bool true) ∧ Fr (fun _ => False) w w' := by
  have HBm : Hid (∀ (w' : World) (b : Nat), w'.heap[b]? = some (.cells #[.int .u64 12105675798371893248, .int .u64 12105675798371893248] 83 (0, 0)) → Bm w' (.slice (some ⟨b, 0, none⟩) 2 2) 5 2 (pixOf 5 wakeL)) := fun w' b hb => by
    refine ⟨⟨some ⟨b, 0, none⟩, 2, by rw [wake_render]; rfl, by rw [wake_render]; decide, fun _ => ⟨b, 0, rfl, fun j hj => ?_⟩⟩, ?_, by decide, by decide, by decide⟩
    · rw [wake_render] at hj ⊢
      have hj' : j < 2 := hj
      rcases (show j = 0 ∨ j = 1 by omega) with rfl | rfl <;> simp [World.cell?, hb, wakeL]
    · intro ao n c e
      simp only [Value.slice.injEq] at e
      obtain ⟨_, rfl, rfl⟩ := e
      exact ⟨by decide, by unfold maxLen; decide⟩
  have HEn : Hid (∀ (w' : World) (b : Nat), w'.heap[b]? = some (.cells #[.int .u64 12105675798371893248, .int .u64 12105675798371893248] 83 (0, 0)) → Calls Try.prog 11 #[.agg #[.int .i64 5, .int .i64 2, .slice (some ⟨b, 0, none⟩) 2 2], .int .i64 2, .bool true] w' fun e w'' => ∃ g n cap, e = .returned (.tuple #[.slice (some ⟨g, 1, none⟩) n cap, .int .i64 0]) ∧ SeenAt w'' (.slice (some ⟨g, 1, none⟩) n cap) (codedB (sizeT 2 + 1) (rowsD 0 2 5 true (pixOf 5 wakeL) 2)) ∧ Fr (fun _ => False) w' w'' ∧ w'.heap.size ≤ g) := fun w' b hb => gencode_ok 5 2 _ (pixOf 5 wakeL) 2 true w' (HBm.out w' b hb) (by decide) (by decide)
  have HDe : Hid (∀ (w' : World) (g n cap : Nat), SeenAt w' (.slice (some ⟨g, 1, none⟩) n cap) (codedB (sizeT 2 + 1) (rowsD 0 2 5 true (pixOf 5 wakeL) 2)) → Calls Try.prog 18 #[.slice (some ⟨g, 1, none⟩) n cap, .int .i64 5, .int .i64 2, .int .i64 2, .bool true] w' fun e w'' => ∃ g2 cap2, e = .returned (.tuple #[.agg #[.int .i64 5, .int .i64 2, .slice (some ⟨g2, 0, none⟩) 2 cap2], .int .i64 0]) ∧ Seen w'' (.slice (some ⟨g2, 0, none⟩) 2 cap2) wakeL ∧ Fr (fun _ => False) w' w'') := fun w' g n cap hs => by
    have hl := rowsD_length 0 2 5 true (pixOf 5 wakeL) 2
    refine (gdecode_ok _ _ 5 2 2 true w' hs (Or.inr ⟨_, _, _, rfl⟩) (codedB_lt (by decide) (by decide) _ (by omega)) (by decide) (by decide) (by decide) (by decide) (by decide)).mono ?_
    rintro e w2 ⟨g2, cap2, rfl, hr, _, hf⟩
    refine ⟨g2, cap2, rfl, ?_, hf⟩
    have := hr.seen (by decide)
    rw [gback 5 2 2 2 true (pixOf 5 wakeL) (by decide) (by decide) (by decide), render_congr (fun x y hx hy => cur_all 5 (pixOf 5 wakeL) 2 x y hx hy), wake_render] at this
    exact this
  have HSe : Hid (∀ (w' : World) (b : Nat), w'.heap[b]? = some (.cells #[.int .u64 12105675798371893248, .int .u64 12105675798371893248] 83 (0, 0)) → Seen w' (.slice (some ⟨b, 0, none⟩) 2 2) wakeL) := fun w' b hb => by
    have := (HBm.out w' b hb).seen
    rwa [wake_render] at this
  have HLn : Hid (∀ (w' : World) (g n cap : Nat), SeenAt w' (.slice (some ⟨g, 1, none⟩) n cap) (codedB (sizeT 2 + 1) (rowsD 0 2 5 true (pixOf 5 wakeL) 2)) → 0 < n) := fun w' g n cap hs => by
    obtain ⟨ao, c, e, _, _⟩ := hs
    simp only [Value.slice.injEq] at e
    have := codedB_pos (sizeT 2 + 1) (rowsD 0 2 5 true (pixOf 5 wakeL) 2)
    omega
  generalize codedB (sizeT 2 + 1) (rowsD 0 2 5 true (pixOf 5 wakeL) 2) = B at *
  generalize hwl : wakeL = L at *
  clear hwl
  go_enter Try.func15, Try.ntmps15
  go_wp2_with fail
  have HB0 : Hid (∀ w', Fr (fun _ => False) ((w.alloc (.cells #[.int .u64 12105675798371893248, .int .u64 12105675798371893248] 83)).alloc (.cells #[.int .i64 5, .int .i64 2, .slice (some ⟨w.heap.size, 0, none⟩) 2 2] 26)) w' → w'.heap[w.heap.size]? = some (.cells #[.int .u64 12105675798371893248, .int .u64 12105675798371893248] 83 (0, 0)) ∧ w'.heap[w.heap.size + 1]? = some (.cells #[.int .i64 5, .int .i64 2, .slice (some ⟨w.heap.size, 0, none⟩) 2 2] 26 (0, 0))) := fun w' f => by
    refine ⟨?_, ?_⟩
    · rw [f.block _ (by simp only [World.size_alloc]; omega) (fun h => h), Below.heap_alloc _ _ _ (by simp)]; exact heap_alloc_new w _
    · rw [f.block _ (by simp) (fun h => h)]
      have := heap_alloc_new (w.alloc (.cells #[.int .u64 12105675798371893248, .int .u64 12105675798371893248] 83)) (.cells #[.int .i64 5, .int .i64 2, .slice (some ⟨w.heap.size, 0, none⟩) 2 2] 26)
      rwa [World.size_alloc] at this
  have HF0 : Hid (Fr (fun _ => False) w ((w.alloc (.cells #[.int .u64 12105675798371893248, .int .u64 12105675798371893248] 83)).alloc (.cells #[.int .i64 5, .int .i64 2, .slice (some ⟨w.heap.size, 0, none⟩) 2 2] 26))) := ((Fr.refl _ _).alloc _).alloc _
  generalize (w.alloc (.cells #[.int .u64 12105675798371893248, .int .u64 12105675798371893248] 83)).alloc (.cells #[.int .i64 5, .int .i64 2, .slice (some ⟨w.heap.size, 0, none⟩) 2 2] 26) = w0 at *
  refine (HEn.out _ w.heap.size (HB0.out _ (Fr.refl _ _)).1).mono ?_
  rintro e w1 ⟨g, n, cap, rfl, hs1, hf1, hg1⟩
  have hn := HLn.out _ _ _ _ hs1
  have hd1 : decide ((0 : Int) < (n : Int)) = true := decide_eq_true (by omega)
  have HS1 : Hid (SeenAt w1 (.slice (some ⟨g, 1, none⟩) n cap) B) := hs1
  have HF1 : Hid (Fr (fun _ => False) w0 w1) := hf1
  clear hs1 hf1
  go_wp2_with fail
  refine (HDe.out _ g n cap HS1.out).mono ?_
  rintro e w2 ⟨g2, cap2, rfl, hs2, hf2⟩
  have HF2 : Hid (Fr (fun _ => False) w0 (w2.alloc (.cells #[.int .i64 5, .int .i64 2, .slice (some ⟨g2, 0, none⟩) 2 cap2] 26))) := (HF1.out.trans hf2 (fun _ _ h => h)).alloc _
  obtain ⟨b0, b1⟩ := HB0.out _ HF2.out
  obtain ⟨q0, q1, q2, qf⟩ := cell_of_three b1
  obtain ⟨y0, y1, y2, yf⟩ := cell_of_three (heap_alloc_new w2 (.cells #[.int .i64 5, .int .i64 2, .slice (some ⟨g2, 0, none⟩) 2 cap2] 26))
  have HQ : Hid (∀ w', Fr (fun _ => False) (w2.alloc (.cells #[.int .i64 5, .int .i64 2, .slice (some ⟨g2, 0, none⟩) 2 cap2] 26)) w' → Calls Try.prog 21 #[.agg #[.int .i64 5, .int .i64 2, .slice (some ⟨w.heap.size, 0, none⟩) 2 2], .agg #[.int .i64 5, .int .i64 2, .slice (some ⟨g2, 0, none⟩) 2 cap2]] w' fun e w'' => e = .returned (.bool true) ∧ Fr (fun _ => False) w' w'') := fun w' f => by
    have := eqBitmap_any 5 2 5 2 _ _ L L w' ((HSe.out _ _ b0).kept f) ((hs2.kept ((Fr.refl (fun _ => False) w2).alloc _)).kept f)
    simpa [eqB] using this
  clear hs2 hf2 b0 b1 qf yf
  go_wp2_with fail
  refine (HQ.out _ (Fr.refl _ _)).mono ?_
  rintro e w3 ⟨rfl, hf3⟩
  have HF3 : Hid (Fr (fun _ => False) w w3) := HF0.out.trans (HF2.out.trans hf3 (fun _ _ h => h)) (fun _ _ h => h)
  clear hf3
  go_wp2_with fail
  go_ret
  exact ⟨rfl, HF3.out⟩

end Go.Proofs.Ytkggdnkmaldmlaa

/- 'Small' returns, whatever it is given. -/
namespace Go.Proofs.Ytkggdnkmaldmlaa
open Go.RowKit

set_option maxRecDepth 100000 in
set_option maxHeartbeats 2000000 in
theorem small_any (b0 off n cap : Nat) (mo : Int) (w : World) (hn : n ≤ 1000) (hc : ∀ i, i < n → ∃ ao l c, w.cell? ⟨b0, off + i * 3 + 2, none⟩ = some (.slice ao l c)) :
    Calls Try.prog 37 #[.slice (some ⟨b0, off, none⟩) n cap, .int .i64 mo] w fun e w' => ∃ bb, e = .returned (.bool bb) ∧ ∃ q, w' = w.drewN q := by
  have HC : Hid (∀ i, i < n → ∃ ao l c, w.cell? ⟨b0, off + i * 3 + 2, none⟩ = some (.slice ao l c)) := hc
  clear hc
  go_enter Try.func37, Try.ntmps37
  go_wp2_with fail
  go_loopw [5, 6] (fun z i wr => ∃ (k q : Nat) (zz : Int), k ≤ n ∧ z = .int .i64 zz ∧ i = .int .i64 k ∧ wr = w.drewN q) (fun _ i _ => n - (intOf i).toNat)
  case atStart => exact ⟨0, 0, 0, Nat.zero_le _, rfl, rfl, rfl⟩
  case round =>
    obtain ⟨k, q, zz, hk, rfl, rfl, rfl⟩ := hrel
    by_cases hlt : k < n
    · obtain ⟨ao, l, c, hcx⟩ := HC.out k hlt
      go_wp2_with fail
      · go_ret
        exact ⟨false, rfl, q, rfl⟩
      · exact ⟨⟨k + 1, q, _, by omega, rfl, congrArg (Value.int .i64) (by omega), rfl⟩, by simp [intOf]; omega⟩
    · go_wp2_with fail
      go_ret
      exact ⟨true, rfl, q, rfl⟩

end Go.Proofs.Ytkggdnkmaldmlaa

/- The law 'ContextRows'. -/
namespace Go.Proofs.Ytkggdnkmaldmlaa
open Go.RowKit

/-- A bitmap that may be, out of what is handed in. -/
theorem valid_bm {x y : Int} {v : Value} {l : List Nat} {w : World} (h : validB x y l = true) (hv : Seen w v l) (hc : CapOK v) (hlt : ∀ j : Nat, l[j]?.getD 0 < 18446744073709551616) : ∃ (W H : Nat) (P : Nat → Nat → Bool), x = W ∧ y = H ∧ l = render W H P ∧ Bm w v W H P := by
  have h' := h
  unfold validB at h
  simp only [Bool.and_eq_true, decide_eq_true_eq] at h
  obtain ⟨⟨hs, hl⟩, hr⟩ := h
  unfold sizeOK at hs
  obtain ⟨s1, s2, s3⟩ := of_decide_eq_true hs
  obtain ⟨W, rfl⟩ : ∃ W : Nat, x = W := ⟨x.toNat, by omega⟩
  obtain ⟨H, rfl⟩ : ∃ H : Nat, y = H := ⟨y.toNat, by omega⟩
  have e := valid_render W H l (by omega) hl hr hlt
  refine ⟨W, H, pixOf W l, rfl, rfl, e, ?_, hc, by omega, by omega, ?_⟩
  · rw [← e]; exact hv
  · rw [← Int.natCast_mul] at s3; omega

end Go.Proofs.Ytkggdnkmaldmlaa

/- 'light'; the bytes behind an ff. -/
namespace Go.Proofs.Ytkggdnkmaldmlaa
open Go.RowKit

def lightB (x y : Int) (l : List Nat) : Bool := decide (l.length ≤ 1000) && (!validB x y l || decide (x * y ≤ 6000))

set_option maxRecDepth 100000 in
set_option maxHeartbeats 1000000 in
theorem light_any (x y : Int) (v : Value) (l : List Nat) (w : World) (hx : -9223372036854775808 ≤ x ∧ x ≤ 9223372036854775807) (hy : -9223372036854775808 ≤ y ∧ y ≤ 9223372036854775807) (hv : Seen w v l) (hcap : CapOK v) (hlt : ∀ j : Nat, l[j]?.getD 0 < 18446744073709551616) :
    Calls Try.prog 9 #[.agg #[.int .i64 x, .int .i64 y, v]] w fun e w' => e = .returned (.bool (lightB x y l)) ∧ Fr (fun _ => False) w w' := by
  have HMY : Hid (∀ w', Fr (fun _ => False) w w' → Calls Try.prog 22 #[.agg #[.int .i64 x, .int .i64 y, v]] w' fun e w'' => e = .returned (.bool (validB x y l)) ∧ Fr (fun _ => False) w' w'') := fun w' hf => may_any x y v l w' hx hy (hv.kept hf) hlt
  have HV : Hid (validB x y l = true → IntKind.i64.wrap (x * y) = x * y) := fun h => by
    obtain ⟨W, H, P, rfl, rfl, _, hb⟩ := valid_bm h hv hcap hlt
    have h3 := hb.h3
    rw [IntKind.wrap_i64, ← Int.natCast_mul]
    omega
  have HBX : Hid (∀ w', Fr (fun _ => False) (w.alloc (.cells #[.int .i64 x, .int .i64 y, v] 26)) w' → w'.cell? ⟨w.heap.size, 0, none⟩ = some (.int .i64 x) ∧ w'.cell? ⟨w.heap.size, 1, none⟩ = some (.int .i64 y) ∧ w'.cell? ⟨w.heap.size, 2, none⟩ = some v) := fun w' hf => by
    obtain ⟨c0, c1, c2, _⟩ := cell_of_three ((hf.block w.heap.size (by simp) (fun hh => hh)).trans (heap_alloc_new w _))
    exact ⟨c0, c1, c2⟩
  obtain ⟨ao, cap, rfl, hl, _⟩ := hv
  unfold lightB
  clear hx hy hcap hlt
  generalize l.length = n at *
  generalize validB x y l = b at *
  by_cases h1 : n ≤ 1000
  · have hd : decide ((n : Int) ≤ 1000) = true := decide_eq_true (by omega)
    have hd0 : decide (n ≤ 1000) = true := decide_eq_true h1
    rw [hd0]
    clear h1 hd0 hl
    cases b
    · go_enter Try.func9, Try.ntmps9
      go_wp2_with fail
      refine (HMY.out _ ((Fr.refl _ _).alloc _)).mono ?_
      rintro e w1 ⟨rfl, hf1⟩
      have HF : Hid (Fr (fun _ => False) w w1) := ((Fr.refl _ _).alloc _).trans hf1 (fun _ _ h => h)
      clear hf1
      go_wp2_with fail
      go_ret
      exact ⟨rfl, HF.out⟩
    · have hw := HV.out rfl
      clear HV
      generalize hxy : x * y = xy at *
      obtain ⟨d, HD⟩ : ∃ d, Hid (d = decide (xy ≤ 6000)) := ⟨_, rfl⟩
      rw [← HD.out]
      go_enter Try.func9, Try.ntmps9
      go_wp2_with fail
      refine (HMY.out _ ((Fr.refl _ _).alloc _)).mono ?_
      rintro e w1 ⟨rfl, hf1⟩
      have HF : Hid (Fr (fun _ => False) w w1) := ((Fr.refl _ _).alloc _).trans hf1 (fun _ _ h => h)
      obtain ⟨c0, c1, c2⟩ := HBX.out _ hf1
      have hdd : decide (xy ≤ 6000) = d := HD.out.symm
      clear hf1
      go_wp2_with fail
      go_ret
      exact ⟨by cases d <;> rfl, HF.out⟩
  · have hd : decide ((n : Int) ≤ 1000) = false := decide_eq_false (by omega)
    have hd0 : decide (n ≤ 1000) = false := decide_eq_false h1
    rw [hd0, Bool.false_and]
    clear h1 hd0 hl
    go_enter Try.func9, Try.ntmps9
    go_wp2_with fail
    go_ret
    exact ⟨rfl, (Fr.refl _ _).alloc _⟩

theorem coded_pairs {n : Nat} (h1 : 1 ≤ n) (h2 : n ≤ 131072) (L : List (Int × Nat)) (hm : L.length ≤ 16777216) (i : Nat) (hi : i + 1 < (codedB n L).length) (h : (codedB n L)[i]?.getD 0 = 255) : (codedB n L)[i + 1]?.getD 0 ≤ 143 := by
  unfold codedB at *
  rw [runL_runC] at *
  have := back_bytes h1 h2 (kOf L) (dOf L) hm i (by omega) (by rw [List.getD_eq_getElem?_getD]; exact h)
  rw [← List.getD_eq_getElem?_getD]
  exact this.2

end Go.Proofs.Ytkggdnkmaldmlaa

/- The arguments of the laws, opened: a bitmap; an Ask. -/
namespace Go.Proofs.Ytkggdnkmaldmlaa
open Go.ChangeShapes Go.WideShapes Go.ChangeAt Go.RowKit

theorem Try.own : ownKnob Try.prog.godebug = none := by kernel_rfl
theorem Try.laidOut : laidOutB Try.prog = true := by kernel_rfl
theorem Try.cells26 : Try.prog.cellsOf 26 = 3 := by kernel_rfl
theorem Try.cells3 : Try.prog.cellsOf 3 = 1 := by kernel_rfl
theorem Try.cells24 : Try.prog.cellsOf 24 = 1 := by kernel_rfl
theorem Try.cells69 : Try.prog.cellsOf 69 = 1 := by kernel_rfl

theorem addr_add (b off j : Nat) : (⟨b, off, none⟩ : Addr).add j = ⟨b, off + j, none⟩ := by
  unfold Addr.add; split <;> simp_all

theorem open_ws {H : Type} {enc : TypeId × Value → H} {W : World} {fuel : Nat} {sp : Nat → Bool} {hd : Bool} {v : Value} {x : DataW H × List MemPlace} (h : DataW.trod enc Try.prog W 0 sp hd fuel 24 [v] = some x) :
    ∃ l : List Nat, Seen W v l ∧ CapOK v ∧ ∀ j : Nat, l[j]?.getD 0 < 18446744073709551616 := by
  rcases open_ints Try.underlying24 Try.underlying83 (by kernel_rfl) h with ⟨hcs, _⟩ | ⟨x, l, c, zs, hcs, _, hl, hm, hz, _, hcell, hwz⟩
  · simp at hcs
    subst hcs
    exact ⟨[], ⟨none, 0, rfl, by simp, fun hn => absurd rfl hn⟩, fun ao n c e => by cases e; exact ⟨by omega, by omega⟩, fun j => by simp⟩
  · simp at hcs
    subst hcs
    have hlz : l ≤ zs.length := by
      have := hz
      split at this <;> omega
    have hb : ∀ z ∈ zs, 0 ≤ z ∧ z ≤ 18446744073709551615 := fun z hmem => bounds_u64 (hwz _ hmem)
    have hlen : ((zs.take l).map Int.toNat).length = l := by simp; omega
    refine ⟨(zs.take l).map Int.toNat, ⟨some x, c, by rw [hlen], by rw [hlen]; unfold maxLen at hm; omega, fun hn => ?_⟩, fun ao n c' e => by cases e; exact ⟨hl, hm⟩, fun j => ?_⟩
    · have hl0 : 0 < l := by
        rcases Nat.eq_zero_or_pos l with h0 | h0
        · subst h0; simp at hn
        · exact h0
      obtain ⟨b, off, spot⟩ := x
      have hspot : spot = none := by
        have := World.cell?_spot (hcell 0 (by omega))
        simpa [Addr.add] using this
      subst hspot
      refine ⟨b, off, rfl, fun j hj => ?_⟩
      rw [hlen] at hj
      have h1 := hcell j (by omega)
      rw [addr_add] at h1
      rw [h1]
      have h2 : (zs.take l)[j]? = some (zs.getD j 0) := by
        rw [List.getElem?_take_of_lt hj, List.getD_eq_getElem?_getD, List.getElem?_eq_getElem (by omega)]; rfl
      have h3 : 0 ≤ zs.getD j 0 := by
        have hmem : zs.getD j 0 ∈ zs := by
          rw [List.getD_eq_getElem?_getD, List.getElem?_eq_getElem (by omega)]; exact List.getElem_mem _
        exact (hb _ hmem).1
      rw [List.getElem?_map, h2]
      simp only [Option.map_some, Option.getD_some, Int.toNat_of_nonneg h3]
    · rw [List.getElem?_map]
      by_cases hj : j < (zs.take l).length
      · rw [List.getElem?_eq_getElem hj]
        simp only [Option.map_some, Option.getD_some]
        have := hb _ (List.mem_of_mem_take (List.getElem_mem hj))
        omega
      · rw [List.getElem?_eq_none (by omega)]; simp

set_option maxRecDepth 100000 in
theorem bm_elem {H : Type} {enc : TypeId × Value → H} {W : World} {n : Nat} {sp : Nat → Bool} {hd : Bool} {cs : List Value} {x : DataW H × List MemPlace} (h : DataW.trod enc Try.prog W 0 sp hd n 26 cs = some x) :
    ∃ (a b : Int) (v : Value) (l : List Nat), cs = [.int .i64 a, .int .i64 b, v] ∧ (-9223372036854775808 ≤ a ∧ a ≤ 9223372036854775807) ∧ (-9223372036854775808 ≤ b ∧ b ≤ 9223372036854775807) ∧ Seen W v l ∧ CapOK v ∧ ∀ j : Nat, l[j]?.getD 0 < 18446744073709551616 := by
  obtain ⟨y0, y1, y2, m, _, hlen, t0, t1, t2⟩ := Deep.trod_struct3 Try.underlying26 h
  rw [Try.cells26] at hlen
  obtain ⟨a, b, c, rfl⟩ : ∃ a b c, cs = [a, b, c] := by
    match cs, hlen with
    | [a, b, c], _ => exact ⟨a, b, c, rfl⟩
  simp only [Try.cells3, Try.cells24] at t0 t1 t2
  obtain ⟨k0, e0, _, w0⟩ := DataW.trod_int Try.underlying3 t0
  obtain ⟨k1, e1, _, w1⟩ := DataW.trod_int Try.underlying3 t1
  simp at e0 e1
  subst e0; subst e1
  obtain ⟨l, hl1, hl0, hl2⟩ := open_ws t2
  have b0 := bounds_i64 w0
  have b1 := bounds_i64 w1
  exact ⟨k0, k1, c, l, rfl, by omega, by omega, hl1, hl0, hl2⟩


/-- Numbers that are handed in. -/
def IntsAt (w : World) (ao : Option Addr) (n : Nat) (X : Nat → Int) : Prop := n ≤ 9223372036854775807 ∧ (0 < n → ∃ b off, ao = some ⟨b, off, none⟩ ∧ ∀ j, j < n → w.cell? ⟨b, off + j, none⟩ = some (.int .i64 (X j))) ∧ ∀ j, j < n → -9223372036854775808 ≤ X j ∧ X j ≤ 9223372036854775807
theorem IntsAt.kept {w w' : World} {ao : Option Addr} {n : Nat} {X : Nat → Int} (h : IntsAt w ao n X) (f : Fr (fun _ => False) w w') : IntsAt w' ao n X := by
  refine ⟨h.1, fun hn => ?_, h.2.2⟩
  obtain ⟨b, off, rfl, hc⟩ := h.2.1 hn
  exact ⟨b, off, rfl, fun j hj => by rw [f.cellEq (seen_lt (hc j hj)) (fun hh => hh)]; exact hc j hj⟩

set_option maxRecDepth 100000 in
theorem open_is {H : Type} {enc : TypeId × Value → H} {W : World} {fuel : Nat} {sp : Nat → Bool} {hd : Bool} {v : Value} {x : DataW H × List MemPlace} (h : DataW.trod enc Try.prog W 0 sp hd fuel 69 [v] = some x) :
    ∃ ao n cap X, v = .slice ao n cap ∧ IntsAt W ao n X := by
  rcases open_ints Try.underlying69 Try.underlying3 (by kernel_rfl) h with ⟨hcs, _⟩ | ⟨x, l, c, zs, hcs, _, hl, hm, hz, _, hcell, hwz⟩
  · simp at hcs
    exact ⟨none, 0, 0, fun _ => 0, hcs, by omega, by omega, by omega⟩
  · simp at hcs
    have hlz : l ≤ zs.length := by
      have := hz
      split at this <;> omega
    have hb : ∀ j, j < l → -9223372036854775808 ≤ zs.getD j 0 ∧ zs.getD j 0 ≤ 9223372036854775807 := fun j hj => by
      have hmem : zs.getD j 0 ∈ zs := by
        rw [List.getD_eq_getElem?_getD, List.getElem?_eq_getElem (by omega)]; exact List.getElem_mem _
      exact bounds_i64 (hwz _ hmem)
    refine ⟨some x, l, c, fun j => zs.getD j 0, hcs, by unfold maxLen at hm; omega, fun hn => ?_, hb⟩
    obtain ⟨b, off, spot⟩ := x
    have hspot : spot = none := by
      have := World.cell?_spot (hcell 0 (by omega))
      simpa [Addr.add] using this
    subst hspot
    refine ⟨b, off, rfl, fun j hj => ?_⟩
    have h1 := hcell j (by omega)
    rw [addr_add] at h1
    exact h1


set_option maxRecDepth 100000 in
theorem open_bm {H : Type} {enc : TypeId × Value → H} {W : World} {base : Nat} {v0 : Value} {d0 : DataW H} {p0 : List MemPlace} (hv : Value.okWide Try.prog W .any base 26 v0) (h0 : DataW.Trod enc Try.prog W 0 (fun _ => true) true 26 v0 d0 p0) :
    ∃ (x y : Int) (v : Value) (l : List Nat), v0 = .agg #[.int .i64 x, .int .i64 y, v] ∧ (-9223372036854775808 ≤ x ∧ x ≤ 9223372036854775807) ∧ (-9223372036854775808 ≤ y ∧ y ≤ 9223372036854775807) ∧ Seen W v l ∧ CapOK v ∧ ∀ j : Nat, l[j]?.getD 0 < 18446744073709551616 := by
  obtain ⟨cs, rfl, hsz⟩ := okWide_struct Try.underlying26 hv
  obtain ⟨fuel, hf⟩ := h0
  obtain ⟨x, y, v, l, e0, b1, b2, b3, b4, b5⟩ := bm_elem hf
  obtain ⟨L⟩ := cs
  simp [Value.cells] at e0
  subst e0
  exact ⟨x, y, v, l, rfl, b1, b2, b3, b4, b5⟩

end Go.Proofs.Ytkggdnkmaldmlaa
