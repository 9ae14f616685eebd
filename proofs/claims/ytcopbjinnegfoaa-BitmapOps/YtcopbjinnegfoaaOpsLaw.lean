/- 'BitmapOps' returns true. -/
import Derived.Test.YtcopbjinnegfoaaOpsKit
import Derived.Test.YtcopbjinnegfoaaApp
import Derived.Deep.Cut
import Derived.Deep.RegionHeld3
import Derived.Test.YtcopbjinnegfoaaSmallish
import Derived.Test.YtcopbjinnegfoaaMay
import Derived.Test.YtcopbjinnegfoaaFromRow
import Derived.Test.YtcopbjinnegfoaaWakes
namespace Go.Proofs.Ytcopbjinnegfoaa
open Go.RowKit

theorem Try.info25 : (Try.prog.info? 25).map (fun i => (i.zero, i.size, i.bytes)) = some (some (.pointer none), 1, 8) := by kernel_rfl

def ptrs (bs : Nat → Nat) (k : Nat) : List Value := (List.range k).map fun j => Value.pointer (some ⟨bs j, 0, none⟩)
theorem ptrs_succ (bs : Nat → Nat) (k b : Nat) : ptrs bs k ++ [Value.pointer (some ⟨b, 0, none⟩)] = ptrs (fun j => if j = k then b else bs j) (k + 1) := by
  unfold ptrs
  rw [List.range_succ, List.map_append]
  simp only [List.map_cons, List.map_nil, if_pos]
  congr 1
  apply List.map_congr_left
  intro j hj
  have : j < k := by simpa using hj
  rw [if_neg (by omega)]
theorem ptrs_get (bs : Nat → Nat) {k j : Nat} (h : j < k) : (ptrs bs k)[j]? = some (Value.pointer (some ⟨bs j, 0, none⟩)) := by
  unfold ptrs; rw [List.getElem?_map, List.getElem?_range h]; rfl

/-- Maps in a list, k of them, apart from one another. -/
structure Held (w : World) (B : Nat) (v : Value) (bs gs cs : Nat → Nat) (k W H : Nat) (P : Nat → Nat → Bool) : Prop where
  row : w.ownsRow 0 25 1 v k (ptrs bs k)
  lo : ∀ g, v.ownBlock = some g → B ≤ g
  maps : ∀ j, j < k → MapAt w (bs j) (gs j) (cs j) W H P
  los : ∀ j, j < k → B ≤ bs j ∧ B ≤ gs j ∧ v.ownBlock ≠ some (gs j)
  gg : ∀ i j, i < k → j < k → i ≠ j → gs i ≠ gs j
  bg : ∀ i j, i < k → j < k → bs i ≠ gs j

theorem Held.more {w w1 w2 : World} {B : Nat} {v : Value} {bs gs cs : Nat → Nat} {k W H b g c g' cap' : Nat} {P : Nat → Nat → Bool} (h : Held w B v bs gs cs k W H P) (hB : B ≤ w.heap.size) (hn : NewMap w w1 b g c W H P) (f : Fr (fun x => v.ownBlock = some x) w1 w2)
    (ho : w2.ownsRow 0 25 1 (.slice (some ⟨g', 0, none⟩) (k + 1) cap') (k + 1) (ptrs bs k ++ [Value.pointer (some ⟨b, 0, none⟩)])) (hg : v.ownBlock = some g' ∨ w1.heap.size ≤ g') :
    Held w2 B (.slice (some ⟨g', 0, none⟩) (k + 1) cap') (fun j => if j = k then b else bs j) (fun j => if j = k then g else gs j) (fun j => if j = k then c else cs j) (k + 1) W H P := by
  have hvl : ∀ x, v.ownBlock = some x → x < w.heap.size := fun x hx => (h.row.lt x hx).2
  have h1 := hn.nb
  have h2 := hn.ng
  have h3 := hn.fr.size
  have h4 := hn.at_.lt
  have h5 := hn.at_.glt
  have hold : ∀ j, j < k → bs j < w.heap.size ∧ gs j < w.heap.size := fun j hj => ⟨(h.maps j hj).lt, (h.maps j hj).glt⟩
  have hgl : B ≤ g' := by
    rcases hg with e | e
    · exact h.lo g' e
    · omega
  refine ⟨by rw [← ptrs_succ]; exact ho, fun x hx => by simp [Value.ownBlock] at hx; omega, fun j hj => ?_, fun j hj => ?_, fun i j hi hj hij => ?_, fun i j hi hj => ?_⟩
  · by_cases e : j = k
    · simp only [e, if_pos]
      refine hn.at_.kept f ?_ ?_
      · intro hx; have := hvl _ hx; omega
      · intro hx; have := hvl _ hx; omega
    · simp only [if_neg e]
      have hjk : j < k := by omega
      refine ((h.maps j hjk).kept hn.fr (fun x => x) (fun x => x)).kept f ?_ (h.los j hjk).2.2
      intro hx
      rcases h.row.2 with ⟨rfl, _⟩ | ⟨g0, cap0, cur0, rfl, _, hgg, _⟩
      · simp [Value.ownBlock] at hx
      · simp [Value.ownBlock] at hx
        have := (h.maps j hjk).blk
        rw [← hx, hgg] at this
        simp at this
  · by_cases e : j = k
    · simp only [e, if_pos]
      refine ⟨by omega, by omega, ?_⟩
      intro hx
      simp [Value.ownBlock] at hx
      rcases hg with e2 | e2
      · have := hvl _ e2; omega
      · omega
    · simp only [if_neg e]
      have hjk : j < k := by omega
      have a := h.los j hjk
      refine ⟨a.1, a.2.1, ?_⟩
      intro hx
      simp [Value.ownBlock] at hx
      have b2 := hold j hjk
      rcases hg with e2 | e2
      · rw [hx] at e2; exact a.2.2 e2
      · omega
  · by_cases e : i = k
    · have : j ≠ k := fun e2 => hij (by omega)
      simp only [e, if_pos, if_neg this]
      have := hold j (by omega)
      omega
    · by_cases e2 : j = k
      · simp only [e2, if_pos, if_neg e]
        have := hold i (by omega)
        omega
      · simp only [if_neg e, if_neg e2]
        exact h.gg i j (by omega) (by omega) hij
  · by_cases e : i = k
    · by_cases e2 : j = k
      · simp only [e, e2, if_pos]
        exact fun x => hn.at_.ne x.symm
      · simp only [e, if_pos, if_neg e2]
        have := hold j (by omega)
        omega
    · by_cases e2 : j = k
      · simp only [e2, if_pos, if_neg e]
        have := hold i (by omega)
        omega
      · simp only [if_neg e, if_neg e2]
        exact h.bg i j (by omega) (by omega)

theorem done_step (R : Nat → Nat → Nat → Bool) (P S : Nat → Nat → Bool) (hR : ∀ i, R i = fun a e => opB i (P a e) (S a e)) (j : Nat) : upd (fun i => if i < j then R i else P) j (fun a e => opB j ((if j < j then R j else P) a e) (S a e)) = fun i => if i < j + 1 then R i else P := by
  funext i
  show (if i = j then (fun a e => opB j ((if j < j then R j else P) a e) (S a e)) else (if i < j then R i else P)) = (if i < j + 1 then R i else P)
  by_cases h : i = j
  · subst h
    rw [if_pos rfl]
    have e1 : (if i < i then R i else P) = P := if_neg (Nat.lt_irrefl i)
    have e2 : (if i < i + 1 then R i else P) = R i := if_pos (Nat.lt_succ_self i)
    rw [e1, e2, hR]
  · rw [if_neg h]
    by_cases h2 : i < j
    · rw [if_pos h2, if_pos (by omega)]
    · rw [if_neg h2, if_neg (by omega)]

def pick7 (f0 f1 f2 f3 f4 f5 f6 : Nat → Nat → Bool) : Nat → Nat → Nat → Bool
  | 0 => f0
  | 1 => f1
  | 2 => f2
  | 3 => f3
  | 4 => f4
  | 5 => f5
  | _ => f6
theorem St.congr {w : World} {bs gs cs : Nat → Nat} {bt gt ct W H : Nat} {Q Q' : Nat → Nat → Nat → Bool} {Qt Qt' : Nat → Nat → Bool} (h : St w bs gs cs bt gt ct W H Q Qt) (e : ∀ j, j < 7 → Q j = Q' j) (et : Qt = Qt') : St w bs gs cs bt gt ct W H Q' Qt' :=
  ⟨fun j hj => by rw [← e j hj]; exact h.maps j hj, by rw [← et]; exact h.t⟩
theorem seven {p : Nat → Prop} (h0 : p 0) (h1 : p 1) (h2 : p 2) (h3 : p 3) (h4 : p 4) (h5 : p 5) (h6 : p 6) : ∀ j, j < 7 → p j := by
  intro j hj
  rcases (show j = 0 ∨ j = 1 ∨ j = 2 ∨ j = 3 ∨ j = 4 ∨ j = 5 ∨ j = 6 from by omega) with rfl | rfl | rfl | rfl | rfl | rfl | rfl <;> assumption

/-- How far the source has been copied. -/
def part (SP : Nat → Nat → Bool) (k m : Nat) : Nat → Nat → Bool := fun a e => decide (e < k ∨ (e = k ∧ a < m)) && SP a e
theorem part_step (SP : Nat → Nat → Bool) (k m : Nat) : putPix (part SP k m) m k (SP m k) = part SP k (m + 1) := by
  funext a e
  unfold putPix part
  by_cases h : a = m ∧ e = k
  · obtain ⟨rfl, rfl⟩ := h
    rw [if_pos ⟨rfl, rfl⟩, decide_eq_true (by omega), Bool.true_and]
  · rw [if_neg h]
    congr 1
    rw [decide_eq_decide]
    omega
theorem part_white (k m : Nat) : part (fun _ _ => false) k m = fun _ _ => false := by
  funext a e; unfold part; simp
theorem part_start (SP : Nat → Nat → Bool) : part SP 0 0 = fun _ _ => false := by
  funext a e; unfold part; rw [decide_eq_false (by omega)]; rfl

set_option maxRecDepth 100000 in
set_option maxHeartbeats 8000000 in
theorem ops_any (x y x2 y2 n0 n1 n2 n3 n4 n5 n6 n7 : Int) (v v2 : Value) (l l2 : List Nat) (w : World) (hx : -9223372036854775808 ≤ x ∧ x ≤ 9223372036854775807) (hy : -9223372036854775808 ≤ y ∧ y ≤ 9223372036854775807) (hv : Seen w v l) (hlt : ∀ j : Nat, l[j]?.getD 0 < 18446744073709551616)
    (hx2 : -9223372036854775808 ≤ x2 ∧ x2 ≤ 9223372036854775807) (hy2 : -9223372036854775808 ≤ y2 ∧ y2 ≤ 9223372036854775807) (hv2 : Seen w v2 l2) (hlt2 : ∀ j : Nat, l2[j]?.getD 0 < 18446744073709551616) :
    Calls Try.prog 6 #[.agg #[.int .i64 x, .int .i64 y, v, .int .i64 x2, .int .i64 y2, v2, .int .i64 n0, .int .i64 n1, .int .i64 n2, .int .i64 n3, .int .i64 n4, .int .i64 n5, .int .i64 n6, .int .i64 n7]] w fun e w' => e = .returned (.bool true) ∧ Fr (fun _ => False) w w' := by
  have HMY : Hid (∀ w', Fr (fun _ => False) w w' → Calls Try.prog 14 #[.agg #[.int .i64 x, .int .i64 y, v]] w' fun e w'' => e = .returned (.bool (validB x y l)) ∧ Fr (fun _ => False) w' w'') := fun w' hf => may_any x y v l w' hx hy (hv.kept hf) hlt
  have HMY2 : Hid (∀ w', Fr (fun _ => False) w w' → Calls Try.prog 14 #[.agg #[.int .i64 x2, .int .i64 y2, v2]] w' fun e w'' => e = .returned (.bool (validB x2 y2 l2)) ∧ Fr (fun _ => False) w' w'') := fun w' hf => may_any x2 y2 v2 l2 w' hx2 hy2 (hv2.kept hf) hlt2
  have hsp : (∃ SP : Nat → Nat → Bool, (validB x2 y2 l2 = true → ∀ (a b : Nat) (w' : World), Fr (fun _ => False) w w' → Calls Try.prog 20 #[.agg #[.int .i64 x2, .int .i64 y2, v2], .int .i64 a, .int .i64 b] w' fun e w'' => e = .returned (.int .i64 ((SP a b).toNat : Nat)) ∧ Fr (fun _ => False) w' w'') ∧ (validB x2 y2 l2 = false → SP = fun _ _ => false)) := by
    rcases hvb : validB x2 y2 l2 with _ | _
    · exact ⟨fun _ _ => false, fun h => (by cases h), fun _ => rfl⟩
    · obtain ⟨Ws, Hs, rfl, rfl, h4, h5, h6, hl2, hr2⟩ := valid_parts hvb
      refine ⟨fun a b => getPix Ws Hs (pixOf Ws l2) a b, fun _ a b w' hf => ?_, fun h => by cases h⟩
      have hrn2 := valid_render Ws Hs l2 h4 hl2 hr2 hlt2
      exact zget_any Ws Hs v2 (pixOf Ws l2) a b w' (by rw [← hrn2]; exact hv2.kept hf) h4 h5 h6
  obtain ⟨SP, hsp1, hsp2⟩ := hsp
  have HSP1 : Hid (validB x2 y2 l2 = true → ∀ (a b : Nat) (w' : World), Fr (fun _ => False) w w' → Calls Try.prog 20 #[.agg #[.int .i64 x2, .int .i64 y2, v2], .int .i64 a, .int .i64 b] w' fun e w'' => e = .returned (.int .i64 ((SP a b).toNat : Nat)) ∧ Fr (fun _ => False) w' w'') := hsp1
  have HSP2 : Hid (validB x2 y2 l2 = false → SP = fun _ _ => false) := hsp2
  clear hsp1 hsp2
  have HV : Hid (Seen w v l) := hv
  have HLT : Hid (∀ j : Nat, l[j]?.getD 0 < 18446744073709551616) := hlt
  obtain ⟨ao, cap, hve, hll, _⟩ := hv
  obtain ⟨ao2, cap2, hve2, hll2, _⟩ := hv2
  clear hlt hlt2
  subst hve
  subst hve2
  generalize l.length = n at *
  generalize l2.length = nn at *
  have HBX : Hid (∀ w' : World, Fr (fun _ => False) (w.alloc (.cells #[.int .i64 x, .int .i64 y, .slice ao n cap, .int .i64 x2, .int .i64 y2, .slice ao2 nn cap2, .int .i64 n0, .int .i64 n1, .int .i64 n2, .int .i64 n3, .int .i64 n4, .int .i64 n5, .int .i64 n6, .int .i64 n7] 40)) w' → (w'.cell? ⟨w.heap.size, 0, none⟩ = some (.int .i64 x) ∧ w'.cell? ⟨w.heap.size, 1, none⟩ = some (.int .i64 y) ∧ w'.cell? ⟨w.heap.size, 2, none⟩ = some (.slice ao n cap)) ∧ (w'.cell? ⟨w.heap.size, 3, none⟩ = some (.int .i64 x2) ∧ w'.cell? ⟨w.heap.size, 4, none⟩ = some (.int .i64 y2) ∧ w'.cell? ⟨w.heap.size, 5, none⟩ = some (.slice ao2 nn cap2))) := fun w' hf => by
    have hB : w'.heap[w.heap.size]? = some (.cells #[.int .i64 x, .int .i64 y, .slice ao n cap, .int .i64 x2, .int .i64 y2, .slice ao2 nn cap2, .int .i64 n0, .int .i64 n1, .int .i64 n2, .int .i64 n3, .int .i64 n4, .int .i64 n5, .int .i64 n6, .int .i64 n7] 40 (0, 0)) := by
      rw [hf.block _ (by simp) (fun hh => hh)]; exact heap_alloc_new _ _
    refine ⟨⟨?_, ?_, ?_⟩, ?_, ?_, ?_⟩ <;> (unfold World.cell?; rw [hB]; rfl)
  go_enter Try.func6, Try.ntmps6
  go_wp2_with fail
  refine (HMY.out _ ((Fr.refl _ _).alloc _)).mono ?_
  rintro e w1 ⟨rfl, hf1⟩
  have HF1 : Hid (Fr (fun _ => False) (w.alloc (.cells #[.int .i64 x, .int .i64 y, .slice ao n cap, .int .i64 x2, .int .i64 y2, .slice ao2 nn cap2, .int .i64 n0, .int .i64 n1, .int .i64 n2, .int .i64 n3, .int .i64 n4, .int .i64 n5, .int .i64 n6, .int .i64 n7] 40)) w1) := hf1
  have HW1 : Hid (Fr (fun _ => False) w w1) := ((Fr.refl _ _).alloc _).trans hf1 (fun _ _ hh => hh)
  obtain ⟨⟨k0, k1, k2⟩, _⟩ := HBX.out w1 hf1
  clear hf1
  rcases hvb : validB x y l with _ | _
  · go_wp2_with fail
    refine (wakes_any _).mono ?_
    rintro e w9 ⟨rfl, hf9⟩
    have HF9 : Hid (Fr (fun _ => False) w w9) := HW1.out.trans hf9 (fun _ _ hh => hh)
    clear hf9
    go_wp2_with fail
    go_ret
    exact ⟨rfl, HF9.out⟩
  · obtain ⟨W, H, rfl, rfl, h1, h2, h3, hl, hr⟩ := valid_parts hvb
    obtain ⟨f1, f2, f3⟩ := size_facts h1 h2 h3
    have HSZ : Hid (1 ≤ W ∧ 1 ≤ H ∧ W * H ≤ 1048576) := ⟨h1, h2, h3⟩
    have HFR : Hid (∀ w', Fr (fun _ => False) w w' → Calls Try.prog 16 #[.agg #[.int .i64 W, .int .i64 H, .slice ao n cap]] w' fun e w'' => ∃ b g cap, e = .returned (.tuple #[.pointer (some ⟨b, 0, none⟩), .int .i64 0]) ∧ NewMap w' w'' b g cap W H (pixOf W l)) := fun w' hf => from_yes W H _ l w' h1 h2 h3 (HV.out.kept hf) HLT.out hl hr
    have hrn : l = render W H (pixOf W l) := valid_render W H l h1 hl hr HLT.out
    have HVR : Hid (∀ w', Fr (fun _ => False) w w' → Seen w' (.slice ao n cap) (render W H (pixOf W l))) := fun w' hf => by rw [← hrn]; exact HV.out.kept hf
    clear hrn h1 h2 h3 hl hr hx hy hvb HMY HLT HV
    generalize pixOf W l = P at *
    go_wp2_with fail
    refine (small_any w1.heap.size 0 1 1 60000 _ (by omega) ?_).mono ?_
    · intro i hi
      obtain rfl : i = 0 := by omega
      refine ⟨ao, n, cap, ?_⟩
      have := heap_alloc_new w1 (.cells #[.int .i64 W, .int .i64 H, .slice ao n cap] 37)
      unfold World.cell?
      rw [this]; rfl
    rintro e w2 ⟨bb, rfl, q2, hw2⟩
    have HF2 : Hid (Fr (fun _ => False) (w.alloc (.cells #[.int .i64 W, .int .i64 H, .slice ao n cap, .int .i64 x2, .int .i64 y2, .slice ao2 nn cap2, .int .i64 n0, .int .i64 n1, .int .i64 n2, .int .i64 n3, .int .i64 n4, .int .i64 n5, .int .i64 n6, .int .i64 n7] 40)) w2) := by rw [hw2]; exact (HF1.out.alloc _).drewN q2
    have HW2 : Hid (Fr (fun _ => False) w w2) := by rw [hw2]; exact (HW1.out.alloc _).drewN q2
    clear hw2 HF1 HW1 k0 k1 k2
    obtain ⟨⟨k0, k1, k2⟩, _⟩ := HBX.out w2 HF2.out
    cases bb
    · go_wp2_with fail
      refine (wakes_any _).mono ?_
      rintro e w9 ⟨rfl, hf9⟩
      have HF9 : Hid (Fr (fun _ => False) w w9) := HW2.out.trans hf9 (fun _ _ hh => hh)
      clear hf9
      go_wp2_with fail
      go_ret
      exact ⟨rfl, HF9.out⟩
    · go_wp2_with fail
      refine (zwhite_any W H _ HSZ.out.1 HSZ.out.2.1 HSZ.out.2.2).mono ?_
      rintro e w3 ⟨gS, rfl, hr3, hf3, hg3⟩
      have HR3 : Hid (RowAt w3 gS (H * stride W) W H (fun _ _ => false)) := hr3
      have HF3 : Hid (Fr (fun _ => False) (w.alloc (.cells #[.int .i64 W, .int .i64 H, .slice ao n cap, .int .i64 x2, .int .i64 y2, .slice ao2 nn cap2, .int .i64 n0, .int .i64 n1, .int .i64 n2, .int .i64 n3, .int .i64 n4, .int .i64 n5, .int .i64 n6, .int .i64 n7] 40)) w3) := HF2.out.trans hf3 (fun _ _ hh => hh)
      have HG3 : Hid (w.heap.size + 1 ≤ gS ∧ gS < w3.heap.size) := by
        have := HF2.out.size
        simp at this
        exact ⟨by omega, hr3.lt⟩
      clear hr3 hf3 hg3 HF2 HW2 k0 k1 k2
      obtain ⟨w4, hw4⟩ : ∃ w4, w4 = w3.alloc (.cells #[.int .i64 W, .int .i64 H, .slice (some ⟨gS, 0, none⟩) (H * stride W) (H * stride W)] 37) := ⟨_, rfl⟩
      have HS4 : Hid (w4.heap.size = w3.heap.size + 1) := by show _ = _; rw [hw4]; simp
      have HKB : Hid (∀ w', Fr (fun k => k = gS ∨ w4.heap.size ≤ k) w4 w' → ((w'.cell? ⟨w3.heap.size, 0, none⟩ = some (.int .i64 W) ∧ w'.cell? ⟨w3.heap.size, 1, none⟩ = some (.int .i64 H) ∧ w'.cell? ⟨w3.heap.size, 2, none⟩ = some (.slice (some ⟨gS, 0, none⟩) (H * stride W) (H * stride W))) ∧ (w'.cell? ⟨w.heap.size, 0, none⟩ = some (.int .i64 W) ∧ w'.cell? ⟨w.heap.size, 1, none⟩ = some (.int .i64 H) ∧ w'.cell? ⟨w.heap.size, 2, none⟩ = some (.slice ao n cap)) ∧ (w'.cell? ⟨w.heap.size, 3, none⟩ = some (.int .i64 x2) ∧ w'.cell? ⟨w.heap.size, 4, none⟩ = some (.int .i64 y2) ∧ w'.cell? ⟨w.heap.size, 5, none⟩ = some (.slice ao2 nn cap2))) ∧ Fr (fun _ => False) w w') := fun w' hf => by
        have q := HG3.out
        have q4 := HS4.out
        have q3 := HF3.out.size
        simp at q3
        have hb : w'.heap[w3.heap.size]? = some (.cells #[.int .i64 W, .int .i64 H, .slice (some ⟨gS, 0, none⟩) (H * stride W) (H * stride W)] 37 (0, 0)) := by
          rw [hf.block _ (by omega) (by omega), hw4]; exact heap_alloc_new _ _
        obtain ⟨c0, c1, c2, _⟩ := cell_of_three hb
        have hx : Fr (fun _ => False) (w.alloc (.cells #[.int .i64 W, .int .i64 H, .slice ao n cap, .int .i64 x2, .int .i64 y2, .slice ao2 nn cap2, .int .i64 n0, .int .i64 n1, .int .i64 n2, .int .i64 n3, .int .i64 n4, .int .i64 n5, .int .i64 n6, .int .i64 n7] 40)) w' := (by rw [hw4] at hf; exact (HF3.out.alloc _).trans hf (fun i hi hh => by simp at hi; simp at hh; omega))
        obtain ⟨⟨a0, a1, a2⟩, a3, a4, a5⟩ := HBX.out w' hx
        exact ⟨⟨⟨c0, c1, c2⟩, ⟨a0, a1, a2⟩, a3, a4, a5⟩, ((Fr.refl _ _).alloc _).trans hx (fun _ _ hh => hh)⟩
      have HR4 : Hid (RowAt w4 gS (H * stride W) W H (part SP 0 0)) := by rw [part_start, hw4]; exact HR3.out.kept ((Fr.refl (fun _ => False) _).alloc _) (fun hh => hh)
      have hgs4 : gS < w4.heap.size := by have := HG3.out; have := HS4.out; omega
      have HPUT : Hid (∀ (m k : Nat) w', RowAt w' gS (H * stride W) W H (part SP k m) → m < W → k < H → Calls Try.prog 25 #[.agg #[.int .i64 W, .int .i64 H, .slice (some ⟨gS, 0, none⟩) (H * stride W) (H * stride W)], .int .i64 m, .int .i64 k, .int .i64 ((SP m k).toNat : Nat)] w' fun e w'' => e = .returned (.tuple #[]) ∧ RowAt w'' gS (H * stride W) W H (part SP k (m + 1)) ∧ Fr (fun k => k = gS) w' w'') := fun m k w' hr hm hk => by
        have := zput_any W H gS (H * stride W) (part SP k m) m k (SP m k) w' hr HSZ.out.1 HSZ.out.2.1 HSZ.out.2.2 hm hk
        rw [part_step] at this
        exact this
      generalize hbS : validB x2 y2 l2 = bS at HMY2 HSP1 HSP2
      clear hbS
      go_wp2_with fail
      rw [← hw4]
      clear hw4 HR3 HF3 HBX
      go_loopw [6, 7] (fun yy _ wr => ∃ k : Nat, k ≤ H ∧ yy = .int .i64 k ∧ RowAt wr gS (H * stride W) W H (part SP k 0) ∧ Fr (fun k => k = gS ∨ w4.heap.size ≤ k) w4 wr) (fun yy _ _ => H - (intOf yy).toNat)
      case atStart => exact ⟨0, Nat.zero_le _, rfl, HR4.out, Fr.refl _ _⟩
      case round =>
        obtain ⟨k, hk, rfl, hr, hfr⟩ := hrel
        have HFr : Hid (Fr (fun k => k = gS ∨ w4.heap.size ≤ k) w4 wr) := hfr
        have HRr : Hid (RowAt wr gS (H * stride W) W H (part SP k 0)) := hr
        clear hfr hr
        by_cases hlt : k < H
        · go_wp2_with fail
          go_loopw [7] (fun xx wi => ∃ m : Nat, m ≤ W ∧ xx = .int .i64 m ∧ RowAt wi gS (H * stride W) W H (part SP k m) ∧ Fr (fun k => k = gS ∨ w4.heap.size ≤ k) w4 wi) (fun xx _ => W - (intOf xx).toNat)
          case atStart => exact ⟨0, Nat.zero_le _, rfl, HRr.out, HFr.out⟩
          case round =>
            obtain ⟨m, hm, rfl, hr, hfi⟩ := hrel
            have HFi : Hid (Fr (fun k => k = gS ∨ w4.heap.size ≤ k) w4 wr) := hfi
            have HRi : Hid (RowAt wr gS (H * stride W) W H (part SP k m)) := hr
            obtain ⟨⟨_, _, k3, k4, k5⟩, _⟩ := HKB.out wr hfi
            clear hfi hr
            by_cases hmt : m < W
            · go_wp2_with fail
              refine (HMY2.out _ (HKB.out _ HFi.out).2).mono ?_
              rintro e w5 ⟨rfl, hf5⟩
              have HF5 : Hid (Fr (fun k => k = gS ∨ w4.heap.size ≤ k) w4 w5) := HFi.out.trans hf5 (fun _ _ hh => hh.elim)
              have HR5 : Hid (RowAt w5 gS (H * stride W) W H (part SP k m)) := HRi.out.kept hf5 (fun hh => hh)
              clear hf5
              cases bS
              · have HR6 : Hid (RowAt w5 gS (H * stride W) W H (part SP k (m + 1))) := by
                  have := HR5.out
                  rw [HSP2.out rfl, part_white] at this ⊢
                  exact this
                go_wp2_with fail
                go_roundw
                case rel => exact ⟨m + 1, by omega, congrArg (Value.int .i64) (by omega), HR6.out, HF5.out⟩
                case measure => simp [intOf]; omega
              · have HKC : Hid (∀ w', Fr (fun k => k = gS ∨ w4.heap.size ≤ k) w5 w' → w'.cell? ⟨w3.heap.size, 0, none⟩ = some (.int .i64 W) ∧ w'.cell? ⟨w3.heap.size, 1, none⟩ = some (.int .i64 H) ∧ w'.cell? ⟨w3.heap.size, 2, none⟩ = some (.slice (some ⟨gS, 0, none⟩) (H * stride W) (H * stride W)) ∧ w'.cell? ⟨w.heap.size, 3, none⟩ = some (.int .i64 x2) ∧ w'.cell? ⟨w.heap.size, 4, none⟩ = some (.int .i64 y2) ∧ w'.cell? ⟨w.heap.size, 5, none⟩ = some (.slice ao2 nn cap2)) := fun w' hf => by
                  obtain ⟨⟨⟨c0, c1, c2⟩, _, a3, a4, a5⟩, _⟩ := HKB.out w' (HF5.out.trans hf (fun _ _ hh => hh))
                  exact ⟨c0, c1, c2, a3, a4, a5⟩
                have HGT : Hid (∀ w', Fr (fun _ => False) w5 w' → Calls Try.prog 20 #[.agg #[.int .i64 x2, .int .i64 y2, .slice ao2 nn cap2], .int .i64 m, .int .i64 k] w' fun e w'' => e = .returned (.int .i64 ((SP m k).toNat : Nat)) ∧ Fr (fun _ => False) w' w'') := fun w' hf => HSP1.out rfl m k w' (HKB.out w' (HF5.out.trans hf (fun _ _ hh => hh.elim))).2
                go_wp2_with fail
                clear k3 k4 k5
                go_region_held3 (fun w' => w'.cell? ⟨w3.heap.size, 0, none⟩ = some (.int .i64 W) ∧ w'.cell? ⟨w3.heap.size, 1, none⟩ = some (.int .i64 H) ∧ w'.cell? ⟨w3.heap.size, 2, none⟩ = some (.slice (some ⟨gS, 0, none⟩) (H * stride W) (H * stride W)) ∧ w'.cell? ⟨w.heap.size, 3, none⟩ = some (.int .i64 x2) ∧ w'.cell? ⟨w.heap.size, 4, none⟩ = some (.int .i64 y2) ∧ w'.cell? ⟨w.heap.size, 5, none⟩ = some (.slice ao2 nn cap2)) (first | exact HKC.out _ ((Fr.refl _ _).drew) | exact HKC.out _ (((Fr.refl _ _).drew).trans hf6 (fun _ _ hh => hh.elim)) | exact HKC.out _ ((((Fr.refl _ _).drew).trans hf6 (fun _ _ hh => hh.elim)).trans hf7 (fun _ _ hh => Or.inl hh))) (first | (go_at_call 20; refine (HGT.out _ ((Fr.refl _ _).drew)).mono ?_; rintro e w6 ⟨rfl, hf6⟩) | (go_at_call 25; refine (HPUT.out m k _ ((HR5.out.kept ((Fr.refl (fun _ => False) _).drew) (fun hh => hh)).kept hf6 (fun hh => hh)) hmt hlt).mono ?_; rintro e w7 ⟨rfl, hr7, hf7⟩))
                have HR7 : Hid (RowAt w7 gS (H * stride W) W H (part SP k (m + 1))) := hr7
                have HF7 : Hid (Fr (fun k => k = gS ∨ w4.heap.size ≤ k) w4 w7) := ((HF5.out.trans ((Fr.refl (fun _ => False) _).drew) (fun _ _ hh => hh.elim)).trans hf6 (fun _ _ hh => hh.elim)).trans hf7 (fun _ _ hh => Or.inl hh)
                clear hr7 hf7 hf6
                go_wp2_with fail
                go_roundw
                case rel => exact ⟨m + 1, by omega, congrArg (Value.int .i64) (by omega), HR7.out, HF7.out⟩
                case measure => simp [intOf]; omega
            · have hmn : m = W := by omega
              subst hmn
              have HRn : Hid (RowAt wr gS (H * stride m) m H (part SP (k + 1) 0)) := by
                have : ∀ a e, a < m → e < H → part SP k m a e = part SP (k + 1) 0 a e := fun a e ha he => by
                  unfold part
                  congr 1
                  rw [decide_eq_decide]
                  omega
                have h := HRi.out
                unfold RowAt at h ⊢
                rw [render_congr this] at h
                exact h
              go_wp2_with fail
              go_roundw
              case rel => exact ⟨k + 1, by omega, congrArg (Value.int .i64) (by omega), HRn.out, HFi.out⟩
              case measure => simp [intOf]; omega
        · have hkn : k = H := by omega
          subst hkn
          have HRe : Hid (RowAt wr gS (k * stride W) W k SP) := by
            have : ∀ a e, a < W → e < k → part SP k 0 a e = SP a e := fun a e _ he => by
              unfold part
              rw [decide_eq_true (by omega), Bool.true_and]
            have h := HRr.out
            unfold RowAt at h ⊢
            rw [render_congr this] at h
            exact h
          obtain ⟨i0, hi, hz0, hz1, hz2⟩ := info_parts Try.info25
          have HWB : Hid (∀ w', Fr (fun _ => False) wr w' → Fr (fun k => k = gS ∨ w4.heap.size ≤ k) w4 w') := fun w' hf => HFr.out.trans hf (fun _ _ hh => hh.elim)
          have HSB : Hid (w4.heap.size ≤ wr.heap.size) := HFr.out.size
          generalize wr = wb at *
          go_wp2_with fail
          go_loopw [8, 9, 10, 11] (fun lv i _ _ wr => ∃ (q : Nat) (bs gs cs : Nat → Nat), q ≤ 7 ∧ i = .int .i64 q ∧ Held wr wb.heap.size lv bs gs cs q W k P ∧ Fr (fun _ => False) wb wr) (fun _ i _ _ _ => 7 - (intOf i).toNat)
          case atStart => exact ⟨0, fun _ => 0, fun _ => 0, fun _ => 0, by omega, rfl, ⟨World.ownsRow_nil _ _ _ _, fun _ h => (by cases h), fun j hj => by omega, fun j hj => by omega, fun i j hi => by omega, fun i j hi => by omega⟩, Fr.refl _ _⟩
          case round =>
            obtain ⟨q, bs, gs, cs, hq, rfl, hh, hfr⟩ := hrel
            have HHD : Hid (Held wr wb.heap.size u8 bs gs cs q W k P) := hh
            have HFq : Hid (Fr (fun _ => False) wb wr) := hfr
            obtain ⟨⟨_, ⟨a0, a1, a2⟩, _⟩, _⟩ := HKB.out wr (HWB.out wr hfr)
            clear hh hfr
            by_cases hq7 : q < 7
            · have hdq : decide (q < 7) = true := decide_eq_true hq7
              go_wp2_with fail
              refine (HFR.out _ (HKB.out _ (HWB.out _ HFq.out)).2).mono ?_
              rintro e wn ⟨bn, gn, cn, rfl, hnm⟩
              have HNM : Hid (NewMap wr wn bn gn cn W k P) := hnm
              have hown : wn.ownsRow 0 25 1 u8 q (ptrs bs q) := row_kept HHD.out.row hnm.fr (fun _ _ hh => hh)
              clear hnm
              go_wp2_with (first | (at_builtin; refine wpList_append_row _ rfl _ _ 54 rfl 25 i0 (.pointer none) 1 8 Try.underlying54 hi hz0 hz1 hz2 rfl (by decide) _ _ _ rfl (hown.alloc _) ⟨wn.heap.size, 0, none⟩ 1 1 [.pointer (some ⟨bn, 0, none⟩)] rfl rfl (cell_one_new _ _ _) ?c2 ?c3 ?c4 (by decide) ?_))
              case c2 => intro u hu; simp at hu; subst hu; rfl
              case c3 => unfold maxLen; omega
              case c4 => omega
              intro g' cap' w'' ho' hgr' hor' _ _
              have hf2 : Fr (fun x => u8.ownBlock = some x) wn w'' := ((Fr.refl _ wn).alloc _).grown hgr' (fun x e _ => e)
              have HHN : Hid (Held w'' wb.heap.size (.slice (some ⟨g', 0, none⟩) (q + 1) cap') (fun j => if j = q then bn else bs j) (fun j => if j = q then gn else gs j) (fun j => if j = q then cn else cs j) (q + 1) W k P) := HHD.out.more HFq.out.size HNM.out hf2 ho' (by
                rcases hor' with e | e
                · exact Or.inl e
                · first | exact Or.inr (by omega) | (simp at e; exact Or.inr (by omega)))
              have HFn : Hid (Fr (fun _ => False) wb w'') := (HFq.out.trans HNM.out.fr (fun _ _ hh => hh)).trans hf2 (fun i hi e => by have := HHD.out.lo i e; omega)
              clear hf2 ho' hgr' hor' hown
              go_wp2_with fail
              go_roundw
              case rel => exact ⟨q + 1, _, _, _, by omega, congrArg (Value.int .i64) (by omega), HHN.out, HFn.out⟩
              case measure => simp [intOf]; omega
            · have hqn : q = 7 := by omega
              subst hqn
              obtain ⟨gl, cl, hu8, _, _, _⟩ := row_form HHD.out.row (by omega)
              subst hu8
              obtain ⟨⟨⟨c0, c1, c2⟩, _⟩, _⟩ := HKB.out wr (HWB.out wr HFq.out)
              have HRq : Hid (RowAt wr gS (k * stride W) W k SP) := HRe.out.kept HFq.out (fun hh => hh)
              go_wp2_with fail
              refine (from_row W k gS (k * stride W) SP _ HRq.out HSZ.out.1 HSZ.out.2.1 HSZ.out.2.2).mono ?_
              rintro e w9 ⟨bt, gt, ct, rfl, hn9⟩
              have HN : Hid (Names bs gs bt gt) := by
                refine ⟨HHD.out.gg, HHD.out.bg, fun j hj => ?_⟩
                have a1 := (HHD.out.maps j hj).lt
                have a2 := (HHD.out.maps j hj).glt
                have a3 := hn9.nb
                have a4 := hn9.ng
                exact ⟨by omega, by omega, by omega, by omega⟩
              have HK9 : Hid (∀ w', Fr (Wr gs gt) w9 w' → (((w'.cell? ⟨w3.heap.size, 0, none⟩ = some (.int .i64 W) ∧ w'.cell? ⟨w3.heap.size, 1, none⟩ = some (.int .i64 k) ∧ w'.cell? ⟨w3.heap.size, 2, none⟩ = some (.slice (some ⟨gS, 0, none⟩) (k * stride W) (k * stride W))) ∧ (w'.cell? ⟨w.heap.size, 0, none⟩ = some (.int .i64 W) ∧ w'.cell? ⟨w.heap.size, 1, none⟩ = some (.int .i64 k) ∧ w'.cell? ⟨w.heap.size, 2, none⟩ = some (.slice ao n cap))) ∧ (∀ j, j < 7 → w'.cell? ⟨gl, j, none⟩ = some (.pointer (some ⟨bs j, 0, none⟩)))) ∧ RowAt w' gS (k * stride W) W k SP ∧ Fr (fun _ => False) w w') := fun w' hf => by
                have q1 := hgs4
                have q2 := HSB.out
                have q3 := HFq.out.size
                have q4 := hn9.ng
                have hlo : ∀ i, Wr gs gt i → wb.heap.size ≤ i := fun i hi => by
                  rcases hi with ⟨j, hj, rfl⟩ | rfl
                  · exact (HHD.out.los j hj).2.1
                  · omega
                have hgl : gl < wr.heap.size := (HHD.out.row.lt gl rfl).2
                have hgn : ¬ Wr gs gt gl := fun hi => by
                  rcases hi with ⟨j, hj, e⟩ | e
                  · exact (HHD.out.los j hj).2.2 (by rw [← e]; rfl)
                  · omega
                have hf2 : Fr (fun i => wb.heap.size ≤ i) wb w' := ((HFq.out.trans hn9.fr (fun _ _ hh => hh)).mono (fun _ _ hh => hh.elim)).trans hf (fun i _ hi => hlo i hi)
                obtain ⟨⟨a, b, _⟩, c⟩ := HKB.out w' ((HWB.out wb (Fr.refl _ _)).trans hf2 (fun i _ hi => Or.inr (by omega)))
                refine ⟨⟨⟨a, b⟩, fun j hj => ?_⟩, HRe.out.kept hf2 (by omega), c⟩
                rw [((Fr.mono hn9.fr (T := Wr gs gt) (fun _ _ hh => hh.elim)).trans hf (fun _ _ hh => hh)).cell hgl hgn, HHD.out.row.cellAt j (by omega), ptrs_get bs hj]
              have HST : Hid (St w9 bs gs cs bt gt ct W k (fun i => if i < 0 then (fun i a e => opB i (P a e) (SP a e)) i else P) SP) := ⟨fun j hj => (HHD.out.maps j hj).kept hn9.fr (fun x => x) (fun x => x), hn9.at_⟩
              have HSZ0 : Hid (∀ j, j < 7 → gs j < w9.heap.size ∧ gt < w9.heap.size) := fun j hj => ⟨Nat.lt_of_lt_of_le (HHD.out.maps j hj).glt hn9.fr.size, hn9.at_.glt⟩
              clear hn9 HHD HFq HRq HRe HWB HSB HKB a0 a1 a2 c0 c1 c2 hi hz0 hz1 hz2
              obtain ⟨R, hR⟩ : ∃ R : Nat → Nat → Nat → Bool, R = fun i a e => opB i (P a e) (SP a e) := ⟨_, rfl⟩
              rw [← hR] at HST
              have HR : Hid (∀ i, R i = fun a e => opB i (P a e) (SP a e)) := fun i => by rw [hR]
              clear hR
              go_wp2_with fail
              go_loopw [14] (fun o wr => ∃ j : Nat, j ≤ 5 ∧ o = .int .i64 j ∧ St wr bs gs cs bt gt ct W k (fun i => if i < j then R i else P) SP ∧ Fr (Wr gs gt) w9 wr) (fun o _ => 5 - (intOf o).toNat)
              case atStart => exact ⟨0, by omega, rfl, HST.out, Fr.refl _ _⟩
              case round =>
                obtain ⟨j, hj, rfl, hst, hfr⟩ := hrel
                have HSj : Hid (St wr bs gs cs bt gt ct W k (fun i => if i < j then R i else P) SP) := hst
                have HFj : Hid (Fr (Wr gs gt) w9 wr) := hfr
                clear hst hfr
                by_cases hj5 : j < 5
                · have hdj : decide (j < 5) = true := decide_eq_true hj5
                  have hrow := (HK9.out _ HFj.out).1.2 j (by omega)
                  have HBJ : Hid (Calls Try.prog 18 #[.pointer (some ⟨bs j, 0, none⟩), .pointer (some ⟨bt, 0, none⟩), .int .i64 0, .int .i64 0, .int .i64 W, .int .i64 k, .int .i64 0, .int .i64 0, .int .i64 j] wr fun e w' => e = .returned (.int .i64 0) ∧ St w' bs gs cs bt gt ct W k (fun i => if i < j + 1 then R i else P) SP ∧ Fr (Wr gs gt) wr w') := by
                    have := HSj.out.blit HN.out (j := j) (op := j) (by omega) (by omega)
                    rw [done_step R P SP HR.out] at this
                    exact this
                  go_wp2_with fail
                  refine HBJ.out.mono ?_
                  rintro e w10 ⟨rfl, hs10, hf10⟩
                  have HS10 : Hid (St w10 bs gs cs bt gt ct W k (fun i => if i < j + 1 then R i else P) SP) := hs10
                  have HF10 : Hid (Fr (Wr gs gt) w9 w10) := HFj.out.trans hf10 (fun _ _ hh => hh)
                  clear hs10 hf10
                  go_wp2_with fail
                  go_roundw
                  case rel => exact ⟨j + 1, by omega, congrArg (Value.int .i64) (by omega), HS10.out, HF10.out⟩
                  case measure => simp [intOf]; omega
                · have hjn : j = 5 := by omega
                  subst hjn
                  have HQ5 : Hid (St wr bs gs cs bt gt ct W k (fun i => if i < 5 then R i else P) SP) := HSj.out
                  clear HSj hj
                  have hwl : k * stride W ≤ 1048576 := (HQ5.out.maps 0 (by omega)).words_le
                  have HFa : Hid (Fr (Wr gs gt) w9 wr) := HFj.out
                  have HSZ9 : Hid (∀ j, j < 7 → gs j < wr.heap.size ∧ gt < wr.heap.size) := fun j hj => by have a := HSZ0.out j hj; have b := HFa.out.size; omega
                  clear HFj HSZ0
                  have HSZ0 : Hid (∀ j, j < 7 → gs j < wr.heap.size ∧ gt < wr.heap.size) := HSZ9.out
                  clear HSZ9
                  have hr0 := (HK9.out _ HFa.out).1.2 0 (by omega)
                  go_wp2_with fail
                  refine (plain_any (bs 0) (gs 0) (cs 0) W k (R 0) _ (HQ5.out.maps 0 (by omega))).mono ?_
                  rintro e wp0 ⟨go, co, rfl, ho, hf, hg⟩
                  have HO0 : Hid (RowAt wp0 go co W k (R 0)) := ho
                  obtain ⟨wq0, hwq0⟩ : ∃ wq0, wq0 = wp0.alloc (.cells #[.int .i64 W, .int .i64 k, .slice (some ⟨go, 0, none⟩) (k * stride W) co] 37) := ⟨_, rfl⟩
                  have HB0 : Hid (wq0.heap[wp0.heap.size]? = some (.cells #[.int .i64 W, .int .i64 k, .slice (some ⟨go, 0, none⟩) (k * stride W) co] 37 (0, 0))) := by show _ = _; rw [hwq0]; exact heap_alloc_new _ _
                  have hst0 : Fr (fun _ => False) wr wq0 := by rw [hwq0]; exact hf.alloc _
                  have HN0 : Hid (wr.heap.size ≤ go ∧ go < wp0.heap.size ∧ wr.heap.size ≤ wp0.heap.size ∧ wq0.heap.size = wp0.heap.size + 1) := ⟨hg, RowAt.lt HO0.out, hf.size, by rw [hwq0]; simp⟩
                  have HFb : Hid (Fr (Wr gs gt) w9 wq0) := HFa.out.trans hst0 (fun _ _ hh => hh.elim)
                  have HQb : Hid (St wq0 bs gs cs bt gt ct W k (fun i => if i < 5 then R i else P) SP) := HQ5.out.kept hst0
                  have HRt0 : Hid (RowAt wq0 go co W k (R 0)) := HO0.out.kept (by rw [hwq0]; exact (Fr.refl (fun _ => False) _).alloc _) (fun hh => hh)
                  clear ho hf hg HFa HQ5 hr0 hst0
                  have HFa : Hid (Fr (Wr gs gt) w9 wq0) := HFb.out
                  have HQ5 : Hid (St wq0 bs gs cs bt gt ct W k (fun i => if i < 5 then R i else P) SP) := HQb.out
                  clear HFb HQb HO0
                  go_upto_region 31 with (fail)
                  rw [← hwq0]
                  clear hwq0
                  have hr1 := (HK9.out _ HFa.out).1.2 1 (by omega)
                  go_wp2_with fail
                  refine (plain_any (bs 1) (gs 1) (cs 1) W k (R 1) _ (HQ5.out.maps 1 (by omega))).mono ?_
                  rintro e wp1 ⟨ga, ca, rfl, ho, hf, hg⟩
                  have HO1 : Hid (RowAt wp1 ga ca W k (R 1)) := ho
                  obtain ⟨wq1, hwq1⟩ : ∃ wq1, wq1 = wp1.alloc (.cells #[.int .i64 W, .int .i64 k, .slice (some ⟨ga, 0, none⟩) (k * stride W) ca] 37) := ⟨_, rfl⟩
                  have HB1 : Hid (wq1.heap[wp1.heap.size]? = some (.cells #[.int .i64 W, .int .i64 k, .slice (some ⟨ga, 0, none⟩) (k * stride W) ca] 37 (0, 0))) := by show _ = _; rw [hwq1]; exact heap_alloc_new _ _
                  have hst1 : Fr (fun _ => False) wq0 wq1 := by rw [hwq1]; exact hf.alloc _
                  have HN1 : Hid (wq0.heap.size ≤ ga ∧ ga < wp1.heap.size ∧ wq0.heap.size ≤ wp1.heap.size ∧ wq1.heap.size = wp1.heap.size + 1) := ⟨hg, RowAt.lt HO1.out, hf.size, by rw [hwq1]; simp⟩
                  have HFb : Hid (Fr (Wr gs gt) w9 wq1) := HFa.out.trans hst1 (fun _ _ hh => hh.elim)
                  have HQb : Hid (St wq1 bs gs cs bt gt ct W k (fun i => if i < 5 then R i else P) SP) := HQ5.out.kept hst1
                  have HRt1 : Hid (RowAt wq1 ga ca W k (R 1)) := HO1.out.kept (by rw [hwq1]; exact (Fr.refl (fun _ => False) _).alloc _) (fun hh => hh)
                  have HRn0 : Hid (RowAt wq1 go co W k (R 0)) := HRt0.out.kept hst1 (fun hh => hh)
                  have HBn0 : Hid (wq1.heap[wp0.heap.size]? = some (.cells #[.int .i64 W, .int .i64 k, .slice (some ⟨go, 0, none⟩) (k * stride W) co] 37 (0, 0))) := by show _ = _; rw [hst1.block _ (lt_of_block HB0.out) (fun hh => hh)]; exact HB0.out
                  clear HRt0 HB0
                  have HRt0 : Hid (RowAt wq1 go co W k (R 0)) := HRn0.out
                  have HB0 : Hid (wq1.heap[wp0.heap.size]? = some (.cells #[.int .i64 W, .int .i64 k, .slice (some ⟨go, 0, none⟩) (k * stride W) co] 37 (0, 0))) := HBn0.out
                  clear HRn0 HBn0
                  clear ho hf hg HFa HQ5 hr1 hst1
                  have HFa : Hid (Fr (Wr gs gt) w9 wq1) := HFb.out
                  have HQ5 : Hid (St wq1 bs gs cs bt gt ct W k (fun i => if i < 5 then R i else P) SP) := HQb.out
                  clear HFb HQb HO1
                  go_upto_region 32 with (fail)
                  rw [← hwq1]
                  clear hwq1
                  have hr2 := (HK9.out _ HFa.out).1.2 2 (by omega)
                  go_wp2_with fail
                  refine (plain_any (bs 2) (gs 2) (cs 2) W k (R 2) _ (HQ5.out.maps 2 (by omega))).mono ?_
                  rintro e wp2 ⟨gx, cx, rfl, ho, hf, hg⟩
                  have HO2 : Hid (RowAt wp2 gx cx W k (R 2)) := ho
                  obtain ⟨wq2, hwq2⟩ : ∃ wq2, wq2 = wp2.alloc (.cells #[.int .i64 W, .int .i64 k, .slice (some ⟨gx, 0, none⟩) (k * stride W) cx] 37) := ⟨_, rfl⟩
                  have HB2 : Hid (wq2.heap[wp2.heap.size]? = some (.cells #[.int .i64 W, .int .i64 k, .slice (some ⟨gx, 0, none⟩) (k * stride W) cx] 37 (0, 0))) := by show _ = _; rw [hwq2]; exact heap_alloc_new _ _
                  have hst2 : Fr (fun _ => False) wq1 wq2 := by rw [hwq2]; exact hf.alloc _
                  have HN2 : Hid (wq1.heap.size ≤ gx ∧ gx < wp2.heap.size ∧ wq1.heap.size ≤ wp2.heap.size ∧ wq2.heap.size = wp2.heap.size + 1) := ⟨hg, RowAt.lt HO2.out, hf.size, by rw [hwq2]; simp⟩
                  have HFb : Hid (Fr (Wr gs gt) w9 wq2) := HFa.out.trans hst2 (fun _ _ hh => hh.elim)
                  have HQb : Hid (St wq2 bs gs cs bt gt ct W k (fun i => if i < 5 then R i else P) SP) := HQ5.out.kept hst2
                  have HRt2 : Hid (RowAt wq2 gx cx W k (R 2)) := HO2.out.kept (by rw [hwq2]; exact (Fr.refl (fun _ => False) _).alloc _) (fun hh => hh)
                  have HRn0 : Hid (RowAt wq2 go co W k (R 0)) := HRt0.out.kept hst2 (fun hh => hh)
                  have HBn0 : Hid (wq2.heap[wp0.heap.size]? = some (.cells #[.int .i64 W, .int .i64 k, .slice (some ⟨go, 0, none⟩) (k * stride W) co] 37 (0, 0))) := by show _ = _; rw [hst2.block _ (lt_of_block HB0.out) (fun hh => hh)]; exact HB0.out
                  clear HRt0 HB0
                  have HRt0 : Hid (RowAt wq2 go co W k (R 0)) := HRn0.out
                  have HB0 : Hid (wq2.heap[wp0.heap.size]? = some (.cells #[.int .i64 W, .int .i64 k, .slice (some ⟨go, 0, none⟩) (k * stride W) co] 37 (0, 0))) := HBn0.out
                  clear HRn0 HBn0
                  have HRn1 : Hid (RowAt wq2 ga ca W k (R 1)) := HRt1.out.kept hst2 (fun hh => hh)
                  have HBn1 : Hid (wq2.heap[wp1.heap.size]? = some (.cells #[.int .i64 W, .int .i64 k, .slice (some ⟨ga, 0, none⟩) (k * stride W) ca] 37 (0, 0))) := by show _ = _; rw [hst2.block _ (lt_of_block HB1.out) (fun hh => hh)]; exact HB1.out
                  clear HRt1 HB1
                  have HRt1 : Hid (RowAt wq2 ga ca W k (R 1)) := HRn1.out
                  have HB1 : Hid (wq2.heap[wp1.heap.size]? = some (.cells #[.int .i64 W, .int .i64 k, .slice (some ⟨ga, 0, none⟩) (k * stride W) ca] 37 (0, 0))) := HBn1.out
                  clear HRn1 HBn1
                  clear ho hf hg HFa HQ5 hr2 hst2
                  have HFa : Hid (Fr (Wr gs gt) w9 wq2) := HFb.out
                  have HQ5 : Hid (St wq2 bs gs cs bt gt ct W k (fun i => if i < 5 then R i else P) SP) := HQb.out
                  clear HFb HQb HO2
                  go_upto_region 33 with (fail)
                  rw [← hwq2]
                  clear hwq2
                  have HZZ : Hid (∀ w', Fr (Wr gs gt) wq2 w' → ((w'.cell? ⟨gl, 0, none⟩ = some (.pointer (some ⟨bs 0, 0, none⟩)) ∧ w'.cell? ⟨gl, 1, none⟩ = some (.pointer (some ⟨bs 1, 0, none⟩)) ∧ w'.cell? ⟨gl, 2, none⟩ = some (.pointer (some ⟨bs 2, 0, none⟩)) ∧ w'.cell? ⟨gl, 3, none⟩ = some (.pointer (some ⟨bs 3, 0, none⟩)) ∧ w'.cell? ⟨gl, 4, none⟩ = some (.pointer (some ⟨bs 4, 0, none⟩)) ∧ w'.cell? ⟨gl, 5, none⟩ = some (.pointer (some ⟨bs 5, 0, none⟩)) ∧ w'.cell? ⟨gl, 6, none⟩ = some (.pointer (some ⟨bs 6, 0, none⟩))) ∧ ((w'.cell? ⟨w3.heap.size, 0, none⟩ = some (.int .i64 W) ∧ w'.cell? ⟨w3.heap.size, 1, none⟩ = some (.int .i64 k) ∧ w'.cell? ⟨w3.heap.size, 2, none⟩ = some (.slice (some ⟨gS, 0, none⟩) (k * stride W) (k * stride W))) ∧ (w'.cell? ⟨w.heap.size, 0, none⟩ = some (.int .i64 W) ∧ w'.cell? ⟨w.heap.size, 1, none⟩ = some (.int .i64 k) ∧ w'.cell? ⟨w.heap.size, 2, none⟩ = some (.slice ao n cap)) ∧ (w'.cell? ⟨wp0.heap.size, 0, none⟩ = some (.int .i64 W) ∧ w'.cell? ⟨wp0.heap.size, 1, none⟩ = some (.int .i64 k) ∧ w'.cell? ⟨wp0.heap.size, 2, none⟩ = some (.slice (some ⟨go, 0, none⟩) (k * stride W) co)) ∧ (w'.cell? ⟨wp1.heap.size, 0, none⟩ = some (.int .i64 W) ∧ w'.cell? ⟨wp1.heap.size, 1, none⟩ = some (.int .i64 k) ∧ w'.cell? ⟨wp1.heap.size, 2, none⟩ = some (.slice (some ⟨ga, 0, none⟩) (k * stride W) ca)) ∧ (w'.cell? ⟨wp2.heap.size, 0, none⟩ = some (.int .i64 W) ∧ w'.cell? ⟨wp2.heap.size, 1, none⟩ = some (.int .i64 k) ∧ w'.cell? ⟨wp2.heap.size, 2, none⟩ = some (.slice (some ⟨gx, 0, none⟩) (k * stride W) cx)))) ∧ (RowAt w' gS (k * stride W) W k SP ∧ RowAt w' go co W k (R 0) ∧ RowAt w' ga ca W k (R 1) ∧ RowAt w' gx cx W k (R 2)) ∧ Fr (fun _ => False) w w') := fun w' hf => by
                    have hn0 := HN0.out
                    have hn1 := HN1.out
                    have hn2 := HN2.out
                    have hs0 := HSZ0.out
                    have hhi : ∀ i, wr.heap.size ≤ i → ¬ Wr gs gt i := fun i hi hw => by
                      rcases hw with ⟨j, hj, rfl⟩ | rfl
                      · have := (hs0 j hj).1; omega
                      · have := (hs0 0 (by omega)).2; omega
                    obtain ⟨⟨⟨a, b⟩, c⟩, d, e⟩ := HK9.out w' (HFa.out.trans hf (fun _ _ hh => hh))
                    have b0 : w'.heap[wp0.heap.size]? = _ := (hf.block _ (lt_of_block HB0.out) (hhi _ (by omega))).trans HB0.out
                    have b1 : w'.heap[wp1.heap.size]? = _ := (hf.block _ (lt_of_block HB1.out) (hhi _ (by omega))).trans HB1.out
                    have b2 : w'.heap[wp2.heap.size]? = _ := (hf.block _ (lt_of_block HB2.out) (hhi _ (by omega))).trans HB2.out
                    obtain ⟨x0, x1, x2, _⟩ := cell_of_three b0
                    obtain ⟨y0, y1, y2, _⟩ := cell_of_three b1
                    obtain ⟨z0, z1, z2, _⟩ := cell_of_three b2
                    exact ⟨⟨⟨c 0 (by omega), c 1 (by omega), c 2 (by omega), c 3 (by omega), c 4 (by omega), c 5 (by omega), c 6 (by omega)⟩, a, b, ⟨x0, x1, x2⟩, ⟨y0, y1, y2⟩, z0, z1, z2⟩, ⟨d, HRt0.out.kept hf (hhi _ (by omega)), HRt1.out.kept hf (hhi _ (by omega)), HRt2.out.kept hf (hhi _ (by omega))⟩, e⟩
                  clear HK9 HFa HRt0 HRt1 HRt2 HB0 HB1 HB2 HN0 HN1 HN2 HSZ0
                  have HQ : Hid (St wq2 bs gs cs bt gt ct W k (fun i => if i < 5 then R i else P) SP) := HQ5.out
                  clear HQ5
                  have HF : Hid (Fr (Wr gs gt) wq2 wq2) := Fr.refl _ _
                  have HQa : Hid (St wq2 bs gs cs bt gt ct W k (pick7 (R 0) (R 1) (R 2) (R 3) (R 4) P P) SP) := HQ.out.congr (seven rfl rfl rfl rfl rfl rfl rfl) rfl
                  clear HQ
                  have HQ : Hid (St wq2 bs gs cs bt gt ct W k (pick7 (R 0) (R 1) (R 2) (R 3) (R 4) P P) SP) := HQa.out
                  clear HQa
                  obtain ⟨⟨⟨r0, r1, r2, r3, r4, r5, r6⟩, ⟨s0, s1, s2⟩, ⟨p0, p1, p2⟩, ⟨o0, o1, o2⟩, ⟨a0, a1, a2⟩, x0, x1, x2'⟩, _⟩ := HZZ.out wq2 HF.out
                  go_wp2_with fail
                  refine (HQ.out.invert HN.out (j := 3) (by omega)).mono ?_
                  rintro e wz1 ⟨rfl, hq, hf⟩
                  have HQn : Hid (St wz1 bs gs cs bt gt ct W k (pick7 (R 0) (R 1) (R 2) (R 2) (R 4) P P) SP) := hq.congr (seven rfl rfl rfl (by funext a e; simp [upd, pick7, HR.out, opB]; try (cases P a e <;> cases SP a e <;> simp)) rfl rfl rfl) rfl
                  have HFn : Hid (Fr (Wr gs gt) wq2 wz1) := HF.out.trans hf (fun _ _ hh => hh)
                  clear HQ HF
                  have HQ : Hid (St wz1 bs gs cs bt gt ct W k (pick7 (R 0) (R 1) (R 2) (R 2) (R 4) P P) SP) := HQn.out
                  have HF : Hid (Fr (Wr gs gt) wq2 wz1) := HFn.out
                  clear HQn HFn
                  clear hq hf
                  clear r0 r1 r2 r3 r4 r5 r6 s0 s1 s2 p0 p1 p2 o0 o1 o2 a0 a1 a2 x0 x1 x2'
                  go_wp2_with fail
                  have HS1 : Hid (∀ w', Fr (fun _ => False) wz1 w' → Calls Try.prog 19 #[.pointer (some ⟨bs 3, 0, none⟩), .agg #[.int .i64 W, .int .i64 k, .slice (some ⟨gx, 0, none⟩) (k * stride W) cx]] w' fun e w'' => e = .returned (.bool true) ∧ Fr (fun _ => False) w' w'') := fun w' hf => by
                    have hz := HZZ.out w' (HF.out.trans hf (fun _ _ hh => hh.elim))
                    have hq := HQ.out.kept hf
                    exact hq.same (j := 3) (R := R 2) (by omega) _ (RowAt.seen hz.2.1.2.2.2 hwl) (fun a e _ _ => by first | rfl | (simp [pick7, HR.out, opB]; done) | (simp [pick7, HR.out, opB]; cases P a e <;> cases SP a e <;> simp))
                  have HS2 : Hid (∀ w', Fr (fun _ => False) wz1 w' → Calls Try.prog 19 #[.pointer (some ⟨bs 4, 0, none⟩), .agg #[.int .i64 W, .int .i64 k, .slice (some ⟨gS, 0, none⟩) (k * stride W) (k * stride W)]] w' fun e w'' => e = .returned (.bool true) ∧ Fr (fun _ => False) w' w'') := fun w' hf => by
                    have hz := HZZ.out w' (HF.out.trans hf (fun _ _ hh => hh.elim))
                    have hq := HQ.out.kept hf
                    exact hq.same (j := 4) (R := SP) (by omega) _ (RowAt.seen hz.2.1.1 hwl) (fun a e _ _ => by first | rfl | (simp [pick7, HR.out, opB]; done) | (simp [pick7, HR.out, opB]; cases P a e <;> cases SP a e <;> simp))
                  have HSS : Hid (∀ w', Fr (fun _ => False) wz1 w' → w'.cell? ⟨gl, 3, none⟩ = some (.pointer (some ⟨bs 3, 0, none⟩)) ∧ w'.cell? ⟨gl, 4, none⟩ = some (.pointer (some ⟨bs 4, 0, none⟩)) ∧ w'.cell? ⟨wp2.heap.size, 0, none⟩ = some (.int .i64 W) ∧ w'.cell? ⟨wp2.heap.size, 1, none⟩ = some (.int .i64 k) ∧ w'.cell? ⟨wp2.heap.size, 2, none⟩ = some (.slice (some ⟨gx, 0, none⟩) (k * stride W) cx) ∧ w'.cell? ⟨w3.heap.size, 0, none⟩ = some (.int .i64 W) ∧ w'.cell? ⟨w3.heap.size, 1, none⟩ = some (.int .i64 k) ∧ w'.cell? ⟨w3.heap.size, 2, none⟩ = some (.slice (some ⟨gS, 0, none⟩) (k * stride W) (k * stride W))) := fun w' hf => by
                    have hz := (HZZ.out w' (HF.out.trans hf (fun _ _ hh => hh.elim))).1
                    obtain ⟨⟨r0, r1, r2, r3, r4, r5, r6⟩, ⟨s0, s1, s2⟩, ⟨p0, p1, p2⟩, ⟨o0, o1, o2⟩, ⟨a0, a1, a2⟩, x0, x1, x2'⟩ := hz
                    exact ⟨r3, r4, x0, x1, x2', s0, s1, s2⟩
                  go_region_held3 (fun w' => w'.cell? ⟨gl, 3, none⟩ = some (.pointer (some ⟨bs 3, 0, none⟩)) ∧ w'.cell? ⟨gl, 4, none⟩ = some (.pointer (some ⟨bs 4, 0, none⟩)) ∧ w'.cell? ⟨wp2.heap.size, 0, none⟩ = some (.int .i64 W) ∧ w'.cell? ⟨wp2.heap.size, 1, none⟩ = some (.int .i64 k) ∧ w'.cell? ⟨wp2.heap.size, 2, none⟩ = some (.slice (some ⟨gx, 0, none⟩) (k * stride W) cx) ∧ w'.cell? ⟨w3.heap.size, 0, none⟩ = some (.int .i64 W) ∧ w'.cell? ⟨w3.heap.size, 1, none⟩ = some (.int .i64 k) ∧ w'.cell? ⟨w3.heap.size, 2, none⟩ = some (.slice (some ⟨gS, 0, none⟩) (k * stride W) (k * stride W))) (exact HSS.out _ (by repeat (first | with_reducible exact Fr.refl _ _ | with_reducible refine Fr.drew ?_ | with_reducible refine Fr.trans ?_ hc1 (fun _ _ hh => hh) | with_reducible refine Fr.trans ?_ hc0 (fun _ _ hh => hh)))) (first | (go_at_call 19; (have _ := hc0); refine (HS2.out _ (by with_reducible exact (((Fr.refl (fun _ => False) wz1).drew).trans hc0 (fun _ _ hh => hh)))).mono ?_; rintro e wc1 ⟨rfl, hc1⟩) | (go_at_call 19; refine (HS1.out _ (by with_reducible exact ((Fr.refl (fun _ => False) wz1).drew))).mono ?_; rintro e wc0 ⟨rfl, hc0⟩))
                  have hfin : Fr (fun _ => False) wz1 wc1 := ((((Fr.refl (fun _ => False) wz1).drew).trans hc0 (fun _ _ hh => hh)).trans hc1 (fun _ _ hh => hh))
                  have HFIN : Hid (Fr (fun _ => False) wz1 wc1) := hfin
                  clear hfin hc0 hc1 HS1 HS2 HSS
                  have HQn : Hid (St wc1 bs gs cs bt gt ct W k (pick7 (R 0) (R 1) (R 2) (R 2) (R 4) P P) SP) := HQ.out.kept HFIN.out
                  have HFn : Hid (Fr (Wr gs gt) wq2 wc1) := HF.out.trans HFIN.out (fun _ _ hh => hh.elim)
                  clear HQ HF
                  have HQ : Hid (St wc1 bs gs cs bt gt ct W k (pick7 (R 0) (R 1) (R 2) (R 2) (R 4) P P) SP) := HQn.out
                  have HF : Hid (Fr (Wr gs gt) wq2 wc1) := HFn.out
                  clear HQn HFn
                  clear HFIN
                  obtain ⟨⟨⟨r0, r1, r2, r3, r4, r5, r6⟩, ⟨s0, s1, s2⟩, ⟨p0, p1, p2⟩, ⟨o0, o1, o2⟩, ⟨a0, a1, a2⟩, x0, x1, x2'⟩, _⟩ := HZZ.out wc1 HF.out
                  go_wp2_with fail
                  refine (HQ.out.blit HN.out (j := 0) (op := 0) (by omega) (by omega)).mono ?_
                  rintro e wz2 ⟨rfl, hq, hf⟩
                  have HQn : Hid (St wz2 bs gs cs bt gt ct W k (pick7 (R 0) (R 1) (R 2) (R 2) (R 4) P P) SP) := hq.congr (seven (by funext a e; simp [upd, pick7, HR.out, opB]; try (cases P a e <;> cases SP a e <;> simp)) rfl rfl rfl rfl rfl rfl) rfl
                  have HFn : Hid (Fr (Wr gs gt) wq2 wz2) := HF.out.trans hf (fun _ _ hh => hh)
                  clear HQ HF
                  have HQ : Hid (St wz2 bs gs cs bt gt ct W k (pick7 (R 0) (R 1) (R 2) (R 2) (R 4) P P) SP) := HQn.out
                  have HF : Hid (Fr (Wr gs gt) wq2 wz2) := HFn.out
                  clear HQn HFn
                  clear hq hf
                  clear r0 r1 r2 r3 r4 r5 r6 s0 s1 s2 p0 p1 p2 o0 o1 o2 a0 a1 a2 x0 x1 x2'
                  obtain ⟨⟨⟨r0, r1, r2, r3, r4, r5, r6⟩, ⟨s0, s1, s2⟩, ⟨p0, p1, p2⟩, ⟨o0, o1, o2⟩, ⟨a0, a1, a2⟩, x0, x1, x2'⟩, _⟩ := HZZ.out wz2 HF.out
                  go_wp2_with fail
                  refine (HQ.out.blit HN.out (j := 1) (op := 1) (by omega) (by omega)).mono ?_
                  rintro e wz3 ⟨rfl, hq, hf⟩
                  have HQn : Hid (St wz3 bs gs cs bt gt ct W k (pick7 (R 0) (R 1) (R 2) (R 2) (R 4) P P) SP) := hq.congr (seven rfl (by funext a e; simp [upd, pick7, HR.out, opB]; try (cases P a e <;> cases SP a e <;> simp)) rfl rfl rfl rfl rfl) rfl
                  have HFn : Hid (Fr (Wr gs gt) wq2 wz3) := HF.out.trans hf (fun _ _ hh => hh)
                  clear HQ HF
                  have HQ : Hid (St wz3 bs gs cs bt gt ct W k (pick7 (R 0) (R 1) (R 2) (R 2) (R 4) P P) SP) := HQn.out
                  have HF : Hid (Fr (Wr gs gt) wq2 wz3) := HFn.out
                  clear HQn HFn
                  clear hq hf
                  clear r0 r1 r2 r3 r4 r5 r6 s0 s1 s2 p0 p1 p2 o0 o1 o2 a0 a1 a2 x0 x1 x2'
                  obtain ⟨⟨⟨r0, r1, r2, r3, r4, r5, r6⟩, ⟨s0, s1, s2⟩, ⟨p0, p1, p2⟩, ⟨o0, o1, o2⟩, ⟨a0, a1, a2⟩, x0, x1, x2'⟩, _⟩ := HZZ.out wz3 HF.out
                  go_wp2_with fail
                  refine (HQ.out.blit HN.out (j := 2) (op := 2) (by omega) (by omega)).mono ?_
                  rintro e wz4 ⟨rfl, hq, hf⟩
                  have HQn : Hid (St wz4 bs gs cs bt gt ct W k (pick7 (R 0) (R 1) P (R 2) (R 4) P P) SP) := hq.congr (seven rfl rfl (by funext a e; simp [upd, pick7, HR.out, opB]; try (cases P a e <;> cases SP a e <;> simp)) rfl rfl rfl rfl) rfl
                  have HFn : Hid (Fr (Wr gs gt) wq2 wz4) := HF.out.trans hf (fun _ _ hh => hh)
                  clear HQ HF
                  have HQ : Hid (St wz4 bs gs cs bt gt ct W k (pick7 (R 0) (R 1) P (R 2) (R 4) P P) SP) := HQn.out
                  have HF : Hid (Fr (Wr gs gt) wq2 wz4) := HFn.out
                  clear HQn HFn
                  clear hq hf
                  clear r0 r1 r2 r3 r4 r5 r6 s0 s1 s2 p0 p1 p2 o0 o1 o2 a0 a1 a2 x0 x1 x2'
                  go_wp2_with fail
                  have HS1 : Hid (∀ w', Fr (fun _ => False) wz4 w' → Calls Try.prog 19 #[.pointer (some ⟨bs 0, 0, none⟩), .agg #[.int .i64 W, .int .i64 k, .slice (some ⟨go, 0, none⟩) (k * stride W) co]] w' fun e w'' => e = .returned (.bool true) ∧ Fr (fun _ => False) w' w'') := fun w' hf => by
                    have hz := HZZ.out w' (HF.out.trans hf (fun _ _ hh => hh.elim))
                    have hq := HQ.out.kept hf
                    exact hq.same (j := 0) (R := R 0) (by omega) _ (RowAt.seen hz.2.1.2.1 hwl) (fun a e _ _ => by first | rfl | (simp [pick7, HR.out, opB]; done) | (simp [pick7, HR.out, opB]; cases P a e <;> cases SP a e <;> simp))
                  have HS2 : Hid (∀ w', Fr (fun _ => False) wz4 w' → Calls Try.prog 19 #[.pointer (some ⟨bs 1, 0, none⟩), .agg #[.int .i64 W, .int .i64 k, .slice (some ⟨ga, 0, none⟩) (k * stride W) ca]] w' fun e w'' => e = .returned (.bool true) ∧ Fr (fun _ => False) w' w'') := fun w' hf => by
                    have hz := HZZ.out w' (HF.out.trans hf (fun _ _ hh => hh.elim))
                    have hq := HQ.out.kept hf
                    exact hq.same (j := 1) (R := R 1) (by omega) _ (RowAt.seen hz.2.1.2.2.1 hwl) (fun a e _ _ => by first | rfl | (simp [pick7, HR.out, opB]; done) | (simp [pick7, HR.out, opB]; cases P a e <;> cases SP a e <;> simp))
                  have HS3 : Hid (∀ w', Fr (fun _ => False) wz4 w' → Calls Try.prog 19 #[.pointer (some ⟨bs 2, 0, none⟩), .agg #[.int .i64 W, .int .i64 k, .slice ao n cap]] w' fun e w'' => e = .returned (.bool true) ∧ Fr (fun _ => False) w' w'') := fun w' hf => by
                    have hz := HZZ.out w' (HF.out.trans hf (fun _ _ hh => hh.elim))
                    have hq := HQ.out.kept hf
                    exact hq.same (j := 2) (R := P) (by omega) _ (HVR.out w' hz.2.2) (fun a e _ _ => by first | rfl | (simp [pick7, HR.out, opB]; done) | (simp [pick7, HR.out, opB]; cases P a e <;> cases SP a e <;> simp))
                  have HSS : Hid (∀ w', Fr (fun _ => False) wz4 w' → w'.cell? ⟨gl, 0, none⟩ = some (.pointer (some ⟨bs 0, 0, none⟩)) ∧ w'.cell? ⟨gl, 1, none⟩ = some (.pointer (some ⟨bs 1, 0, none⟩)) ∧ w'.cell? ⟨gl, 2, none⟩ = some (.pointer (some ⟨bs 2, 0, none⟩)) ∧ w'.cell? ⟨wp0.heap.size, 0, none⟩ = some (.int .i64 W) ∧ w'.cell? ⟨wp0.heap.size, 1, none⟩ = some (.int .i64 k) ∧ w'.cell? ⟨wp0.heap.size, 2, none⟩ = some (.slice (some ⟨go, 0, none⟩) (k * stride W) co) ∧ w'.cell? ⟨wp1.heap.size, 0, none⟩ = some (.int .i64 W) ∧ w'.cell? ⟨wp1.heap.size, 1, none⟩ = some (.int .i64 k) ∧ w'.cell? ⟨wp1.heap.size, 2, none⟩ = some (.slice (some ⟨ga, 0, none⟩) (k * stride W) ca) ∧ w'.cell? ⟨w.heap.size, 0, none⟩ = some (.int .i64 W) ∧ w'.cell? ⟨w.heap.size, 1, none⟩ = some (.int .i64 k) ∧ w'.cell? ⟨w.heap.size, 2, none⟩ = some (.slice ao n cap)) := fun w' hf => by
                    have hz := (HZZ.out w' (HF.out.trans hf (fun _ _ hh => hh.elim))).1
                    obtain ⟨⟨r0, r1, r2, r3, r4, r5, r6⟩, ⟨s0, s1, s2⟩, ⟨p0, p1, p2⟩, ⟨o0, o1, o2⟩, ⟨a0, a1, a2⟩, x0, x1, x2'⟩ := hz
                    exact ⟨r0, r1, r2, o0, o1, o2, a0, a1, a2, p0, p1, p2⟩
                  go_region_held3 (fun w' => w'.cell? ⟨gl, 0, none⟩ = some (.pointer (some ⟨bs 0, 0, none⟩)) ∧ w'.cell? ⟨gl, 1, none⟩ = some (.pointer (some ⟨bs 1, 0, none⟩)) ∧ w'.cell? ⟨gl, 2, none⟩ = some (.pointer (some ⟨bs 2, 0, none⟩)) ∧ w'.cell? ⟨wp0.heap.size, 0, none⟩ = some (.int .i64 W) ∧ w'.cell? ⟨wp0.heap.size, 1, none⟩ = some (.int .i64 k) ∧ w'.cell? ⟨wp0.heap.size, 2, none⟩ = some (.slice (some ⟨go, 0, none⟩) (k * stride W) co) ∧ w'.cell? ⟨wp1.heap.size, 0, none⟩ = some (.int .i64 W) ∧ w'.cell? ⟨wp1.heap.size, 1, none⟩ = some (.int .i64 k) ∧ w'.cell? ⟨wp1.heap.size, 2, none⟩ = some (.slice (some ⟨ga, 0, none⟩) (k * stride W) ca) ∧ w'.cell? ⟨w.heap.size, 0, none⟩ = some (.int .i64 W) ∧ w'.cell? ⟨w.heap.size, 1, none⟩ = some (.int .i64 k) ∧ w'.cell? ⟨w.heap.size, 2, none⟩ = some (.slice ao n cap)) (exact HSS.out _ (by repeat (first | with_reducible exact Fr.refl _ _ | with_reducible refine Fr.drew ?_ | with_reducible refine Fr.trans ?_ hc2 (fun _ _ hh => hh) | with_reducible refine Fr.trans ?_ hc1 (fun _ _ hh => hh) | with_reducible refine Fr.trans ?_ hc0 (fun _ _ hh => hh)))) (first | (go_at_call 19; (have _ := hc1); refine (HS3.out _ (by with_reducible exact ((((Fr.refl (fun _ => False) wz4).drew).trans hc0 (fun _ _ hh => hh)).trans hc1 (fun _ _ hh => hh)))).mono ?_; rintro e wc2 ⟨rfl, hc2⟩) | (go_at_call 19; (have _ := hc0); refine (HS2.out _ (by with_reducible exact (((Fr.refl (fun _ => False) wz4).drew).trans hc0 (fun _ _ hh => hh)))).mono ?_; rintro e wc1 ⟨rfl, hc1⟩) | (go_at_call 19; refine (HS1.out _ (by with_reducible exact ((Fr.refl (fun _ => False) wz4).drew))).mono ?_; rintro e wc0 ⟨rfl, hc0⟩))
                  have hfin : Fr (fun _ => False) wz4 wc2 := (((((Fr.refl (fun _ => False) wz4).drew).trans hc0 (fun _ _ hh => hh)).trans hc1 (fun _ _ hh => hh)).trans hc2 (fun _ _ hh => hh))
                  have HFIN : Hid (Fr (fun _ => False) wz4 wc2) := hfin
                  clear hfin hc0 hc1 hc2 HS1 HS2 HS3 HSS
                  have HQn : Hid (St wc2 bs gs cs bt gt ct W k (pick7 (R 0) (R 1) P (R 2) (R 4) P P) SP) := HQ.out.kept HFIN.out
                  have HFn : Hid (Fr (Wr gs gt) wq2 wc2) := HF.out.trans HFIN.out (fun _ _ hh => hh.elim)
                  clear HQ HF
                  have HQ : Hid (St wc2 bs gs cs bt gt ct W k (pick7 (R 0) (R 1) P (R 2) (R 4) P P) SP) := HQn.out
                  have HF : Hid (Fr (Wr gs gt) wq2 wc2) := HFn.out
                  clear HQn HFn
                  clear HFIN
                  obtain ⟨⟨⟨r0, r1, r2, r3, r4, r5, r6⟩, ⟨s0, s1, s2⟩, ⟨p0, p1, p2⟩, ⟨o0, o1, o2⟩, ⟨a0, a1, a2⟩, x0, x1, x2'⟩, _⟩ := HZZ.out wc2 HF.out
                  go_wp2_with fail
                  refine (HQ.out.invert HN.out (j := 5) (by omega)).mono ?_
                  rintro e wz5 ⟨rfl, hq, hf⟩
                  have HQn : Hid (St wz5 bs gs cs bt gt ct W k (pick7 (R 0) (R 1) P (R 2) (R 4) (fun a e => !P a e) P) SP) := hq.congr (seven rfl rfl rfl rfl rfl (by funext a e; simp [upd, pick7]; try (cases P a e <;> cases SP a e <;> simp)) rfl) rfl
                  have HFn : Hid (Fr (Wr gs gt) wq2 wz5) := HF.out.trans hf (fun _ _ hh => hh)
                  clear HQ HF
                  have HQ : Hid (St wz5 bs gs cs bt gt ct W k (pick7 (R 0) (R 1) P (R 2) (R 4) (fun a e => !P a e) P) SP) := HQn.out
                  have HF : Hid (Fr (Wr gs gt) wq2 wz5) := HFn.out
                  clear HQn HFn
                  clear hq hf
                  clear r0 r1 r2 r3 r4 r5 r6 s0 s1 s2 p0 p1 p2 o0 o1 o2 a0 a1 a2 x0 x1 x2'
                  go_wp2_with fail
                  refine (HQ.out.invertT HN.out).mono ?_
                  rintro e wz6 ⟨rfl, hq, hf⟩
                  have HQn : Hid (St wz6 bs gs cs bt gt ct W k (pick7 (R 0) (R 1) P (R 2) (R 4) (fun a e => !P a e) P) (fun a e => !SP a e)) := hq.congr (seven rfl rfl rfl rfl rfl rfl rfl) rfl
                  have HFn : Hid (Fr (Wr gs gt) wq2 wz6) := HF.out.trans hf (fun _ _ hh => hh)
                  clear HQ HF
                  have HQ : Hid (St wz6 bs gs cs bt gt ct W k (pick7 (R 0) (R 1) P (R 2) (R 4) (fun a e => !P a e) P) (fun a e => !SP a e)) := HQn.out
                  have HF : Hid (Fr (Wr gs gt) wq2 wz6) := HFn.out
                  clear HQn HFn
                  clear hq hf
                  obtain ⟨⟨⟨r0, r1, r2, r3, r4, r5, r6⟩, ⟨s0, s1, s2⟩, ⟨p0, p1, p2⟩, ⟨o0, o1, o2⟩, ⟨a0, a1, a2⟩, x0, x1, x2'⟩, _⟩ := HZZ.out wz6 HF.out
                  go_wp2_with fail
                  refine (HQ.out.blit HN.out (j := 5) (op := 1) (by omega) (by omega)).mono ?_
                  rintro e wz7 ⟨rfl, hq, hf⟩
                  have HQn : Hid (St wz7 bs gs cs bt gt ct W k (pick7 (R 0) (R 1) P (R 2) (R 4) (fun a e => (!P a e && !SP a e)) P) (fun a e => !SP a e)) := hq.congr (seven rfl rfl rfl rfl rfl (by funext a e; simp [upd, pick7, opB]; try (cases P a e <;> cases SP a e <;> simp)) rfl) rfl
                  have HFn : Hid (Fr (Wr gs gt) wq2 wz7) := HF.out.trans hf (fun _ _ hh => hh)
                  clear HQ HF
                  have HQ : Hid (St wz7 bs gs cs bt gt ct W k (pick7 (R 0) (R 1) P (R 2) (R 4) (fun a e => (!P a e && !SP a e)) P) (fun a e => !SP a e)) := HQn.out
                  have HF : Hid (Fr (Wr gs gt) wq2 wz7) := HFn.out
                  clear HQn HFn
                  clear hq hf
                  clear r0 r1 r2 r3 r4 r5 r6 s0 s1 s2 p0 p1 p2 o0 o1 o2 a0 a1 a2 x0 x1 x2'
                  obtain ⟨⟨⟨r0, r1, r2, r3, r4, r5, r6⟩, ⟨s0, s1, s2⟩, ⟨p0, p1, p2⟩, ⟨o0, o1, o2⟩, ⟨a0, a1, a2⟩, x0, x1, x2'⟩, _⟩ := HZZ.out wz7 HF.out
                  go_wp2_with fail
                  refine (HQ.out.invert HN.out (j := 5) (by omega)).mono ?_
                  rintro e wz8 ⟨rfl, hq, hf⟩
                  have HQn : Hid (St wz8 bs gs cs bt gt ct W k (pick7 (R 0) (R 1) P (R 2) (R 4) (R 0) P) (fun a e => !SP a e)) := hq.congr (seven rfl rfl rfl rfl rfl (by funext a e; simp [upd, pick7, HR.out, opB]; try (cases P a e <;> cases SP a e <;> simp)) rfl) rfl
                  have HFn : Hid (Fr (Wr gs gt) wq2 wz8) := HF.out.trans hf (fun _ _ hh => hh)
                  clear HQ HF
                  have HQ : Hid (St wz8 bs gs cs bt gt ct W k (pick7 (R 0) (R 1) P (R 2) (R 4) (R 0) P) (fun a e => !SP a e)) := HQn.out
                  have HF : Hid (Fr (Wr gs gt) wq2 wz8) := HFn.out
                  clear HQn HFn
                  clear hq hf
                  clear r0 r1 r2 r3 r4 r5 r6 s0 s1 s2 p0 p1 p2 o0 o1 o2 a0 a1 a2 x0 x1 x2'
                  go_wp2_with fail
                  have HS1 : Hid (∀ w', Fr (fun _ => False) wz8 w' → Calls Try.prog 19 #[.pointer (some ⟨bs 5, 0, none⟩), .agg #[.int .i64 W, .int .i64 k, .slice (some ⟨go, 0, none⟩) (k * stride W) co]] w' fun e w'' => e = .returned (.bool true) ∧ Fr (fun _ => False) w' w'') := fun w' hf => by
                    have hz := HZZ.out w' (HF.out.trans hf (fun _ _ hh => hh.elim))
                    have hq := HQ.out.kept hf
                    exact hq.same (j := 5) (R := R 0) (by omega) _ (RowAt.seen hz.2.1.2.1 hwl) (fun a e _ _ => by first | rfl | (simp [pick7, HR.out, opB]; done) | (simp [pick7, HR.out, opB]; cases P a e <;> cases SP a e <;> simp))
                  obtain ⟨CO, hCO⟩ : ∃ CO, CO = cnt W k (R 0) := ⟨_, rfl⟩
                  obtain ⟨CA, hCA⟩ : ∃ CA, CA = cnt W k (R 1) := ⟨_, rfl⟩
                  obtain ⟨CX, hCX⟩ : ∃ CX, CX = cnt W k (R 2) := ⟨_, rfl⟩
                  obtain ⟨CD, hCD⟩ : ∃ CD, CD = cnt W k P := ⟨_, rfl⟩
                  obtain ⟨CS, hCS⟩ : ∃ CS, CS = cnt W k SP := ⟨_, rfl⟩
                  have HC1 : Hid (∀ w', Fr (fun _ => False) wz8 w' → Calls Try.prog 27 #[.agg #[.int .i64 W, .int .i64 k, .slice (some ⟨go, 0, none⟩) (k * stride W) co]] w' fun e w'' => e = .returned (.int .i64 (CO : Nat)) ∧ Fr (fun _ => False) w' w'') := fun w' hf => by
                    have hz := HZZ.out w' (HF.out.trans hf (fun _ _ hh => hh.elim))
                    rw [hCO]
                    exact zcount_any W k _ _ w' (RowAt.seen hz.2.1.2.1 hwl) HSZ.out.1 HSZ.out.2.1 HSZ.out.2.2
                  have HC2 : Hid (∀ w', Fr (fun _ => False) wz8 w' → Calls Try.prog 27 #[.agg #[.int .i64 W, .int .i64 k, .slice (some ⟨ga, 0, none⟩) (k * stride W) ca]] w' fun e w'' => e = .returned (.int .i64 (CA : Nat)) ∧ Fr (fun _ => False) w' w'') := fun w' hf => by
                    have hz := HZZ.out w' (HF.out.trans hf (fun _ _ hh => hh.elim))
                    rw [hCA]
                    exact zcount_any W k _ _ w' (RowAt.seen hz.2.1.2.2.1 hwl) HSZ.out.1 HSZ.out.2.1 HSZ.out.2.2
                  have HC3 : Hid (∀ w', Fr (fun _ => False) wz8 w' → Calls Try.prog 27 #[.agg #[.int .i64 W, .int .i64 k, .slice ao n cap]] w' fun e w'' => e = .returned (.int .i64 (CD : Nat)) ∧ Fr (fun _ => False) w' w'') := fun w' hf => by
                    have hz := HZZ.out w' (HF.out.trans hf (fun _ _ hh => hh.elim))
                    rw [hCD]
                    exact zcount_any W k _ _ w' (HVR.out w' hz.2.2) HSZ.out.1 HSZ.out.2.1 HSZ.out.2.2
                  have HC4 : Hid (∀ w', Fr (fun _ => False) wz8 w' → Calls Try.prog 27 #[.agg #[.int .i64 W, .int .i64 k, .slice (some ⟨gS, 0, none⟩) (k * stride W) (k * stride W)]] w' fun e w'' => e = .returned (.int .i64 (CS : Nat)) ∧ Fr (fun _ => False) w' w'') := fun w' hf => by
                    have hz := HZZ.out w' (HF.out.trans hf (fun _ _ hh => hh.elim))
                    rw [hCS]
                    exact zcount_any W k _ _ w' (RowAt.seen hz.2.1.1 hwl) HSZ.out.1 HSZ.out.2.1 HSZ.out.2.2
                  have HC5 : Hid (∀ w', Fr (fun _ => False) wz8 w' → Calls Try.prog 27 #[.agg #[.int .i64 W, .int .i64 k, .slice (some ⟨gx, 0, none⟩) (k * stride W) cx]] w' fun e w'' => e = .returned (.int .i64 (CX : Nat)) ∧ Fr (fun _ => False) w' w'') := fun w' hf => by
                    have hz := HZZ.out w' (HF.out.trans hf (fun _ _ hh => hh.elim))
                    rw [hCX]
                    exact zcount_any W k _ _ w' (RowAt.seen hz.2.1.2.2.2 hwl) HSZ.out.1 HSZ.out.2.1 HSZ.out.2.2
                  have HWK : Hid (∀ w', Fr (fun _ => False) wz8 w' → Calls Try.prog 13 #[] w' fun e w'' => e = .returned (.bool true) ∧ Fr (fun _ => False) w' w'') := fun w' _ => wakes_any w'
                  have s1 : CO + CA = CD + CS := by rw [hCO, hCA, hCD, hCS, HR.out 0, HR.out 1]; exact or_and_cnt W k P SP
                  have s2 : CO = CA + CX := by rw [hCO, hCA, hCX, HR.out 0, HR.out 1, HR.out 2]; exact or_xor_cnt W k P SP
                  have hbk : ∀ Q : Nat → Nat → Bool, cnt W k Q ≤ 1048576 := fun Q => by have a := cnt_le W k Q; have b := HSZ.out.2.2; rw [Nat.mul_comm] at b; omega
                  have lCO : CO ≤ 1048576 := by rw [hCO]; exact hbk _
                  have lCA : CA ≤ 1048576 := by rw [hCA]; exact hbk _
                  have lCX : CX ≤ 1048576 := by rw [hCX]; exact hbk _
                  have lCD : CD ≤ 1048576 := by rw [hCD]; exact hbk _
                  have lCS : CS ≤ 1048576 := by rw [hCS]; exact hbk _
                  obtain ⟨T, hT⟩ : ∃ T, T = CO + CA := ⟨_, rfl⟩
                  have g1 : IntKind.i64.wrap ((CO : Int) + (CA : Int)) = (T : Int) := by rw [IntKind.wrap_i64]; omega
                  have g2 : IntKind.i64.wrap ((CD : Int) + (CS : Int)) = (T : Int) := by rw [IntKind.wrap_i64]; omega
                  have g3 : IntKind.i64.wrap ((CO : Int) - (CA : Int)) = (CX : Int) := by rw [IntKind.wrap_i64]; omega
                  have g4 : ((T : Int) == (T : Int)) = true := by simp
                  have g5 : ((CX : Int) == (CX : Int)) = true := by simp
                  clear hbk hCO hCA hCX hCD hCS s1 s2 hT lCO lCA lCX lCD lCS
                  have HSS : Hid (∀ w', Fr (fun _ => False) wz8 w' → w'.cell? ⟨gl, 5, none⟩ = some (.pointer (some ⟨bs 5, 0, none⟩)) ∧ w'.cell? ⟨wp0.heap.size, 0, none⟩ = some (.int .i64 W) ∧ w'.cell? ⟨wp0.heap.size, 1, none⟩ = some (.int .i64 k) ∧ w'.cell? ⟨wp0.heap.size, 2, none⟩ = some (.slice (some ⟨go, 0, none⟩) (k * stride W) co) ∧ w'.cell? ⟨wp1.heap.size, 0, none⟩ = some (.int .i64 W) ∧ w'.cell? ⟨wp1.heap.size, 1, none⟩ = some (.int .i64 k) ∧ w'.cell? ⟨wp1.heap.size, 2, none⟩ = some (.slice (some ⟨ga, 0, none⟩) (k * stride W) ca) ∧ w'.cell? ⟨w.heap.size, 0, none⟩ = some (.int .i64 W) ∧ w'.cell? ⟨w.heap.size, 1, none⟩ = some (.int .i64 k) ∧ w'.cell? ⟨w.heap.size, 2, none⟩ = some (.slice ao n cap) ∧ w'.cell? ⟨w3.heap.size, 0, none⟩ = some (.int .i64 W) ∧ w'.cell? ⟨w3.heap.size, 1, none⟩ = some (.int .i64 k) ∧ w'.cell? ⟨w3.heap.size, 2, none⟩ = some (.slice (some ⟨gS, 0, none⟩) (k * stride W) (k * stride W)) ∧ w'.cell? ⟨wp2.heap.size, 0, none⟩ = some (.int .i64 W) ∧ w'.cell? ⟨wp2.heap.size, 1, none⟩ = some (.int .i64 k) ∧ w'.cell? ⟨wp2.heap.size, 2, none⟩ = some (.slice (some ⟨gx, 0, none⟩) (k * stride W) cx)) := fun w' hf => by
                    have hz := (HZZ.out w' (HF.out.trans hf (fun _ _ hh => hh.elim))).1
                    obtain ⟨⟨r0, r1, r2, r3, r4, r5, r6⟩, ⟨s0, s1, s2⟩, ⟨p0, p1, p2⟩, ⟨o0, o1, o2⟩, ⟨a0, a1, a2⟩, x0, x1, x2'⟩ := hz
                    exact ⟨r5, o0, o1, o2, a0, a1, a2, p0, p1, p2, s0, s1, s2, x0, x1, x2'⟩
                  go_region_held3 (fun w' => w'.cell? ⟨gl, 5, none⟩ = some (.pointer (some ⟨bs 5, 0, none⟩)) ∧ w'.cell? ⟨wp0.heap.size, 0, none⟩ = some (.int .i64 W) ∧ w'.cell? ⟨wp0.heap.size, 1, none⟩ = some (.int .i64 k) ∧ w'.cell? ⟨wp0.heap.size, 2, none⟩ = some (.slice (some ⟨go, 0, none⟩) (k * stride W) co) ∧ w'.cell? ⟨wp1.heap.size, 0, none⟩ = some (.int .i64 W) ∧ w'.cell? ⟨wp1.heap.size, 1, none⟩ = some (.int .i64 k) ∧ w'.cell? ⟨wp1.heap.size, 2, none⟩ = some (.slice (some ⟨ga, 0, none⟩) (k * stride W) ca) ∧ w'.cell? ⟨w.heap.size, 0, none⟩ = some (.int .i64 W) ∧ w'.cell? ⟨w.heap.size, 1, none⟩ = some (.int .i64 k) ∧ w'.cell? ⟨w.heap.size, 2, none⟩ = some (.slice ao n cap) ∧ w'.cell? ⟨w3.heap.size, 0, none⟩ = some (.int .i64 W) ∧ w'.cell? ⟨w3.heap.size, 1, none⟩ = some (.int .i64 k) ∧ w'.cell? ⟨w3.heap.size, 2, none⟩ = some (.slice (some ⟨gS, 0, none⟩) (k * stride W) (k * stride W)) ∧ w'.cell? ⟨wp2.heap.size, 0, none⟩ = some (.int .i64 W) ∧ w'.cell? ⟨wp2.heap.size, 1, none⟩ = some (.int .i64 k) ∧ w'.cell? ⟨wp2.heap.size, 2, none⟩ = some (.slice (some ⟨gx, 0, none⟩) (k * stride W) cx)) (exact HSS.out _ (by repeat (first | with_reducible exact Fr.refl _ _ | with_reducible refine Fr.drew ?_ | with_reducible refine Fr.trans ?_ hc8 (fun _ _ hh => hh) | with_reducible refine Fr.trans ?_ hc7 (fun _ _ hh => hh) | with_reducible refine Fr.trans ?_ hc6 (fun _ _ hh => hh) | with_reducible refine Fr.trans ?_ hc5 (fun _ _ hh => hh) | with_reducible refine Fr.trans ?_ hc4 (fun _ _ hh => hh) | with_reducible refine Fr.trans ?_ hc3 (fun _ _ hh => hh) | with_reducible refine Fr.trans ?_ hc2 (fun _ _ hh => hh) | with_reducible refine Fr.trans ?_ hc1 (fun _ _ hh => hh) | with_reducible refine Fr.trans ?_ hc0 (fun _ _ hh => hh)))) (first | (go_at_call 13; (have _ := hc7); refine (HWK.out _ (by with_reducible exact ((((((((((Fr.refl (fun _ => False) wz8).drew).trans hc0 (fun _ _ hh => hh)).trans hc1 (fun _ _ hh => hh)).trans hc2 (fun _ _ hh => hh)).trans hc3 (fun _ _ hh => hh)).trans hc4 (fun _ _ hh => hh)).trans hc5 (fun _ _ hh => hh)).trans hc6 (fun _ _ hh => hh)).trans hc7 (fun _ _ hh => hh)))).mono ?_; rintro e wc8 ⟨rfl, hc8⟩) | (go_at_call 27; (have _ := hc6); refine (HC5.out _ (by with_reducible exact (((((((((Fr.refl (fun _ => False) wz8).drew).trans hc0 (fun _ _ hh => hh)).trans hc1 (fun _ _ hh => hh)).trans hc2 (fun _ _ hh => hh)).trans hc3 (fun _ _ hh => hh)).trans hc4 (fun _ _ hh => hh)).trans hc5 (fun _ _ hh => hh)).trans hc6 (fun _ _ hh => hh)))).mono ?_; rintro e wc7 ⟨rfl, hc7⟩) | (go_at_call 27; (have _ := hc5); refine (HC2.out _ (by with_reducible exact ((((((((Fr.refl (fun _ => False) wz8).drew).trans hc0 (fun _ _ hh => hh)).trans hc1 (fun _ _ hh => hh)).trans hc2 (fun _ _ hh => hh)).trans hc3 (fun _ _ hh => hh)).trans hc4 (fun _ _ hh => hh)).trans hc5 (fun _ _ hh => hh)))).mono ?_; rintro e wc6 ⟨rfl, hc6⟩) | (go_at_call 27; (have _ := hc4); refine (HC1.out _ (by with_reducible exact (((((((Fr.refl (fun _ => False) wz8).drew).trans hc0 (fun _ _ hh => hh)).trans hc1 (fun _ _ hh => hh)).trans hc2 (fun _ _ hh => hh)).trans hc3 (fun _ _ hh => hh)).trans hc4 (fun _ _ hh => hh)))).mono ?_; rintro e wc5 ⟨rfl, hc5⟩) | (go_at_call 27; (have _ := hc3); refine (HC4.out _ (by with_reducible exact ((((((Fr.refl (fun _ => False) wz8).drew).trans hc0 (fun _ _ hh => hh)).trans hc1 (fun _ _ hh => hh)).trans hc2 (fun _ _ hh => hh)).trans hc3 (fun _ _ hh => hh)))).mono ?_; rintro e wc4 ⟨rfl, hc4⟩) | (go_at_call 27; (have _ := hc2); refine (HC3.out _ (by with_reducible exact (((((Fr.refl (fun _ => False) wz8).drew).trans hc0 (fun _ _ hh => hh)).trans hc1 (fun _ _ hh => hh)).trans hc2 (fun _ _ hh => hh)))).mono ?_; rintro e wc3 ⟨rfl, hc3⟩) | (go_at_call 27; (have _ := hc1); refine (HC2.out _ (by with_reducible exact ((((Fr.refl (fun _ => False) wz8).drew).trans hc0 (fun _ _ hh => hh)).trans hc1 (fun _ _ hh => hh)))).mono ?_; rintro e wc2 ⟨rfl, hc2⟩) | (go_at_call 27; (have _ := hc0); refine (HC1.out _ (by with_reducible exact (((Fr.refl (fun _ => False) wz8).drew).trans hc0 (fun _ _ hh => hh)))).mono ?_; rintro e wc1 ⟨rfl, hc1⟩) | (go_at_call 19; refine (HS1.out _ (by with_reducible exact ((Fr.refl (fun _ => False) wz8).drew))).mono ?_; rintro e wc0 ⟨rfl, hc0⟩))
                  have hfin : Fr (fun _ => False) wz8 wc8 := (((((((((((Fr.refl (fun _ => False) wz8).drew).trans hc0 (fun _ _ hh => hh)).trans hc1 (fun _ _ hh => hh)).trans hc2 (fun _ _ hh => hh)).trans hc3 (fun _ _ hh => hh)).trans hc4 (fun _ _ hh => hh)).trans hc5 (fun _ _ hh => hh)).trans hc6 (fun _ _ hh => hh)).trans hc7 (fun _ _ hh => hh)).trans hc8 (fun _ _ hh => hh))
                  have HFIN : Hid (Fr (fun _ => False) w wc8) := (HZZ.out wz8 HF.out).2.2.trans hfin (fun _ _ hh => hh)
                  clear hfin hc0 hc1 hc2 hc3 hc4 hc5 hc6 hc7 hc8
                  go_wp2_with fail
                  go_ret
                  exact ⟨rfl, HFIN.out⟩

end Go.Proofs.Ytcopbjinnegfoaa
