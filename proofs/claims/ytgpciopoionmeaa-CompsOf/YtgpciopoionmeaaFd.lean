/- The reference's 'Of': the pieces of what is left, place by place. -/
import Derived.Test.YtgpciopoionmeaaFb
import Derived.Test.YtgpciopoionmeaaSp
import Derived.Test.YtgpciopoionmeaaCn
import Derived.Test.YtgpciopoionmeaaRefGet
import Derived.Deep.Cut
import Derived.Deep.CutRange
import Derived.Deep.Light
namespace Go.Proofs.Ytgpciopoionmeaa
set_option maxRecDepth 100000
open Go.RowKit

/-- What was found so far: the first pixels ahead of a place; what is left is connected with none of them. -/
structure Seek (B B' : Nat × Nat → Prop) (fs : List (Nat × Nat)) (a : Nat × Nat) : Prop where
  left : ∀ q, B' q ↔ B q ∧ ∀ f, f ∈ fs → ¬ PC B f q
  sorted : fs.Pairwise ras
  mem : ∀ p, p ∈ fs ↔ First B p ∧ ras p a
theorem Seek.begin {B : Nat × Nat → Prop} : Seek B B [] (0, 0) :=
  ⟨fun q => ⟨fun h => ⟨h, fun f hf => by simp at hf⟩, fun h => h.1⟩, List.Pairwise.nil, fun p => ⟨fun h => by simp at h, fun h => by have h2 := h.2; unfold ras at h2; simp only at h2; omega⟩⟩
theorem Seek.hit {B B' : Nat × Nat → Prop} {fs : List (Nat × Nat)} {a : Nat × Nat} (h : Seek B B' fs a) (hx : ∀ q, B q → ∃ f, First B f ∧ PC B f q) (ha : B' a) : First B a ∧ (∀ q, PC B' a q ↔ PC B a q) ∧ First B' a := by
  obtain ⟨hb, hn⟩ := (h.left a).1 ha
  have hpc : ∀ q, PC B' a q ↔ PC B a q := fun q => by
    constructor
    · exact PC.mono (fun p hp => ((h.left p).1 hp).1)
    · intro hq
      induction hq with
      | refl _ => exact .refl ha
      | step p hnb hr ih =>
        exact ih.step hnb ((h.left _).2 ⟨hr, fun f hf hc => hn f hf (hc.trans (p.step hnb hr).symm)⟩)
  have hf : First B a := ⟨hb, fun q hq hr => by
    obtain ⟨f, hf, hc⟩ := hx q hq.right
    have hra : ras f a := by
      rcases ras_total f q with e | e | e
      · exact ras_trans e hr
      · rw [e]; exact hr
      · exact absurd e (hf.2 q hc)
    exact hn f ((h.mem f).2 ⟨hf, hra⟩) (hc.trans hq.symm)⟩
  exact ⟨hf, hpc, ha, fun q hq => hf.2 q ((hpc q).1 hq)⟩
theorem Seek.found {B B' B2 : Nat × Nat → Prop} {fs : List (Nat × Nat)} {a a2 : Nat × Nat} (h : Seek B B' fs a) (hf : First B a) (hl : ∀ q, B2 q ↔ B' q ∧ ¬ PC B a q) (hn : ∀ p, B p → (ras p a2 ↔ ras p a ∨ p = a)) : Seek B B2 (fs ++ [a]) a2 := by
  refine ⟨fun q => ?_, ?_, fun p => ?_⟩
  · rw [hl, h.left]
    constructor
    · rintro ⟨⟨h1, h2⟩, h3⟩
      refine ⟨h1, fun f hf => ?_⟩
      rcases List.mem_append.1 hf with hf | hf
      · exact h2 f hf
      · simp at hf
        subst hf
        exact h3
    · rintro ⟨h1, h2⟩
      exact ⟨⟨h1, fun f hf => h2 f (List.mem_append_left _ hf)⟩, h2 a (by simp)⟩
  · rw [List.pairwise_append]
    refine ⟨h.sorted, by simp, fun x hx y hy => ?_⟩
    simp at hy
    subst hy
    exact ((h.mem x).1 hx).2
  · rw [List.mem_append, h.mem]
    constructor
    · rintro (⟨h1, h2⟩ | h1)
      · exact ⟨h1, (hn p h1.1).2 (Or.inl h2)⟩
      · simp at h1
        subst h1
        exact ⟨hf, (hn p hf.1).2 (Or.inr rfl)⟩
    · rintro ⟨h1, h2⟩
      rcases (hn p h1.1).1 h2 with h3 | h3
      · exact Or.inl ⟨h1, h3⟩
      · subst h3; exact Or.inr (by simp)
theorem Seek.none {B B' : Nat × Nat → Prop} {fs : List (Nat × Nat)} {a a2 : Nat × Nat} (h : Seek B B' fs a) (ha : ¬ B' a) (hn : ∀ p, B p → (ras p a2 ↔ ras p a ∨ p = a)) : Seek B B' fs a2 := by
  refine ⟨h.left, h.sorted, fun p => ?_⟩
  rw [h.mem]
  constructor
  · rintro ⟨h1, h2⟩
    exact ⟨h1, (hn p h1.1).2 (Or.inl h2)⟩
  · rintro ⟨h1, h2⟩
    refine ⟨h1, ?_⟩
    rcases (hn p h1.1).1 h2 with h3 | h3
    · exact h3
    · subst h3
      exfalso
      refine ha ((h.left p).2 ⟨h1.1, fun f hf hc => ?_⟩)
      exact h1.2 f hc.symm ((h.mem f).1 hf).2
theorem Seek.place {B B' : Nat × Nat → Prop} {fs : List (Nat × Nat)} {a a2 : Nat × Nat} (h : Seek B B' fs a) (hn : ∀ p, B p → (ras p a2 ↔ ras p a)) : Seek B B' fs a2 :=
  ⟨h.left, h.sorted, fun p => by
    rw [h.mem]
    exact ⟨fun h1 => ⟨h1.1, (hn p h1.1.1).2 h1.2⟩, fun h1 => ⟨h1.1, (hn p h1.1.1).1 h1.2⟩⟩⟩
theorem Seek.end_ {B B' : Nat × Nat → Prop} {fs : List (Nat × Nat)} {a : Nat × Nat} (h : Seek B B' fs a) (hn : ∀ p, B p → ras p a) : Firsts B fs :=
  ⟨h.sorted, fun p => by rw [h.mem]; exact ⟨fun h1 => h1.1, fun h1 => ⟨h1, hn p h1.1⟩⟩⟩
theorem IsPc.congr {B B' : Nat × Nat → Prop} {f : Nat × Nat} {p : Pc} (h : IsPc B' f p) (hc : ∀ q, PC B' f q ↔ PC B f q) : IsPc B f p := by
  refine ⟨fun x y hx hy => (h.pix x y hx hy).trans (hc _), fun q hq => h.box q ((hc q).2 hq), ?_, ?_, ?_, ?_⟩
  · obtain ⟨q, a, b⟩ := h.l; exact ⟨q, (hc q).1 a, b⟩
  · obtain ⟨q, a, b⟩ := h.r; exact ⟨q, (hc q).1 a, b⟩
  · obtain ⟨q, a, b⟩ := h.t; exact ⟨q, (hc q).1 a, b⟩
  · obtain ⟨q, a, b⟩ := h.b; exact ⟨q, (hc q).1 a, b⟩
theorem Pcs.snoc {B : Nat × Nat → Prop} {fs : List (Nat × Nat)} {l : List Pc} {f : Nat × Nat} {p : Pc} (h : Pcs B fs l) (k : IsPc B f p) : Pcs B (fs ++ [f]) (l ++ [p]) := by
  induction h with
  | nil => exact .cons k .nil
  | cons a _ ih => exact .cons a ih

set_option maxHeartbeats 2000000 in
theorem rof_bad (x y : Int) (v : Value) (l : List Nat) (w : World) (hx : -9223372036854775808 ≤ x ∧ x ≤ 9223372036854775807) (hy : -9223372036854775808 ≤ y ∧ y ≤ 9223372036854775807) (hv : Seen w v l) (hlt : ∀ j : Nat, l[j]?.getD 0 < 18446744073709551616) (hb : validB x y l = false) :
    Calls Try.prog 9 #[.agg #[.int .i64 x, .int .i64 y, v]] w fun e w' => e = .returned (.tuple #[.slice none 0 0, .int .i64 90]) ∧ Fr (fun _ => False) w w' := by
  have HCK : Hid (∀ w', Fr (fun _ => False) w w' → Calls Try.prog 21 #[.agg #[.int .i64 x, .int .i64 y, v]] w' fun e w'' => e = .returned (.bool false) ∧ Fr (fun _ => False) w' w'') := fun w' hf => by
    have := may_any x y v l w' hx hy (hv.kept hf) hlt
    rwa [hb] at this
  obtain ⟨ao, cap, rfl, _, _⟩ := hv
  go_enter Try.func9, Try.ntmps9
  go_wp2_with fail
  refine (HCK.out _ ((Fr.refl _ _).alloc _)).mono ?_
  rintro e w1 ⟨rfl, hf1⟩
  have HF : Hid (Fr (fun _ => False) w w1) := ((Fr.refl _ _).alloc _).trans hf1 (fun _ _ h => h)
  clear hf1
  go_wp2_with fail
  go_ret2
  exact ⟨rfl, HF.out⟩

/-- What the search holds at a place. -/
structure Sk (w1 wr : World) (g cap W H : Nat) (P : Nat → Nat → Bool) (v : Value) (L : List PV) (fs : List (Nat × Nat)) (x y : Nat) : Prop where
  row : ∃ P', RowAt wr g cap W H P' ∧ Seek (Bk W H P) (Bk W H P') fs (x, y)
  ps : OwnPs wr w1.heap.size v L
  pcs : Pcs (Bk W H P) fs (L.map (·.1))
  fr : Fr (fun k => k = g) w1 wr
  len : fs.length ≤ W * H
theorem blk_eq (W H : Nat) (P : Nat → Nat → Bool) : Blk W H P = Bk W H P := rfl
theorem left_bk {W H : Nat} {P' : Nat → Nat → Bool} {l : List (Nat × Nat)} {a : Nat × Nat} (hl : ∀ q, PC (Bk W H P') a q ↔ q ∈ l) (q : Nat × Nat) : Bk W H (leftP P' l) q ↔ Bk W H P' q ∧ ¬ PC (Bk W H P') a q := by
  unfold Bk leftP at *
  rw [hl]
  simp only [Bool.and_eq_true, Bool.not_eq_true', decide_eq_false_iff_not]
  exact ⟨fun ⟨a, b, c, d⟩ => ⟨⟨a, b, c⟩, d⟩, fun ⟨⟨a, b, c⟩, d⟩ => ⟨a, b, c, d⟩⟩
/-- As many first pixels as pixels, at most. -/
theorem inc_len : ∀ (N : Nat) (l : List Nat) (lo : Nat), l.Pairwise (· < ·) → (∀ a ∈ l, lo ≤ a ∧ a < N) → l.length ≤ N - lo
  | _, [], _, _, _ => Nat.zero_le _
  | N, x :: l, lo, hp, hm => by
    obtain ⟨h1, h2⟩ := List.pairwise_cons.1 hp
    have h3 := hm x (List.mem_cons_self ..)
    have := inc_len N l (x + 1) h2 (fun a ha => ⟨h1 a ha, (hm a (List.mem_cons_of_mem _ ha)).2⟩)
    rw [List.length_cons]
    omega
theorem ras_len : ∀ (W H : Nat) (fs : List (Nat × Nat)), fs.Pairwise ras → (∀ p ∈ fs, p.1 < W ∧ p.2 < H) → fs.length ≤ W * H := by
  intro W H fs hs hm
  have h1 : (fs.map fun p => p.2 * W + p.1).Pairwise (· < ·) := by
    rw [List.pairwise_map]
    refine List.Pairwise.imp_of_mem ?_ hs
    intro a b ha hb hr
    have h1 := hm a ha
    have h2 := hm b hb
    rcases hr with hr | ⟨e2, hr⟩
    · have := Nat.mul_le_mul_right W (show a.2 + 1 ≤ b.2 by omega)
      rw [Nat.add_mul, Nat.one_mul] at this
      omega
    · rw [e2]; omega
  have := inc_len (W * H) _ 0 h1 (fun n hn => by
    obtain ⟨p, hp, rfl⟩ := List.mem_map.1 hn
    have h1 := hm p hp
    have := Nat.mul_le_mul_right W (show p.2 + 1 ≤ H by omega)
    rw [Nat.add_mul, Nat.one_mul, Nat.mul_comm H W] at this
    exact ⟨Nat.zero_le _, by omega⟩)
  simpa using this

theorem OwnPs.weak {w : World} {base b : Nat} {v : Value} {L : List PV} (h : OwnPs w base v L) (hb : b ≤ base) : OwnPs w b v L :=
  ⟨ownsRow_base h.own (fun k hk => Nat.le_trans hb (h.own.lt k hk).1), fun q hq => ⟨(h.at_ q hq).1, Nat.le_trans hb (h.at_ q hq).2⟩, h.sep⟩
theorem OwnPs.next {S : Nat → Prop} {w w1 w2 w3 : World} {base g2 cap2 g' cap' : Nat} {v : Value} {L : List PV} {p : Pc} (h : OwnPs w base v L) (hb : base ≤ w.heap.size) (f01 : Fr S w w1) (hs : ∀ k, base ≤ k → ¬ S k) (hr : RowAt w1 g2 cap2 p.W p.H p.Q) (hg2 : w.heap.size ≤ g2) (f12 : Fr (fun _ => False) w1 w2)
    (ho3 : w3.ownsRow 0 34 5 (.slice (some ⟨g', 0, none⟩) (L.length + 1) cap') (L.length + 1) (cellsPs L ++ cellsP (p, g2, cap2))) (h23 : w2.grownBy w3 v.ownBlock) (hloc : v.ownBlock = some g' ∨ w2.heap.size ≤ g') :
    OwnPs w3 base (.slice (some ⟨g', 0, none⟩) (L.length + 1) cap') (L ++ [(p, g2, cap2)]) := by
  have s1 := f01.size
  have s2 := f12.size
  have hrow : ∀ {w' : World} {g cap W H : Nat} {Q : Nat → Nat → Bool}, w'.ownsRow base 34 5 v L.length (cellsPs L) → RowAt w' g cap W H Q → v.ownBlock ≠ some g := fun a b e => own_ne a b (by decide) e
  have hv2 : w2.ownsRow base 34 5 v L.length (cellsPs L) := row_kept (row_kept h.own f01 (fun k hk => hs k (h.own.lt k hk).1)) f12 (fun _ _ x => x)
  refine ⟨?_, fun q hq => ?_, ?_⟩
  · rw [List.length_append, cellsPs_append]
    refine ownsRow_base (by simpa [cellsPs] using ho3) (fun k hk => ?_)
    simp [Value.ownBlock] at hk
    subst hk
    rcases hloc with e | e
    · exact (h.own.lt _ e).1
    · omega
  · rcases List.mem_append.1 hq with hq | hq
    · have r2 := ((h.at_ q hq).1.kept f01 (hs _ (h.at_ q hq).2)).kept f12 (fun x => x)
      exact ⟨r2.grown h23 (hrow hv2 r2), (h.at_ q hq).2⟩
    · simp at hq
      subst hq
      have r2 := hr.kept f12 (fun x => x)
      exact ⟨r2.grown h23 (hrow hv2 r2), by simp only; omega⟩
  · rw [List.pairwise_append]
    refine ⟨h.sep, by simp, fun a ha b hb => ?_⟩
    simp at hb
    subst hb
    have := (h.at_ a ha).1.lt
    simp only
    omega
theorem Sk.count {w1 wr : World} {g cap W H : Nat} {P : Nat → Nat → Bool} {v : Value} {L : List PV} {fs : List (Nat × Nat)} {x y : Nat} (h : Sk w1 wr g cap W H P v L fs x y) : L.length ≤ W * H := by
  obtain ⟨P', _, hs⟩ := h.row
  have h1 := h.pcs.length
  rw [List.length_map] at h1
  rw [h1]
  exact ras_len W H fs hs.sorted (fun p hp => by have := ((hs.mem p).1 hp).1.1; exact ⟨this.1, this.2.1⟩)

set_option maxHeartbeats 8000000 in
theorem rof_ok (W H : Nat) (v : Value) (P : Nat → Nat → Bool) (w : World) (hb : Bm w v W H P) (hl : H * stride W ≤ 1000) :
    Calls Try.prog 9 #[.agg #[.int .i64 W, .int .i64 H, v]] w fun e w' => ∃ rv L fs, e = .returned (.tuple #[rv, .int .i64 0]) ∧ OwnPs w' w.heap.size rv L ∧ Firsts (Bk W H P) fs ∧ Pcs (Bk W H P) fs (L.map (·.1)) ∧ Fr (fun _ => False) w w' := by
  obtain ⟨i0, hi, hz0, hz1, hz2⟩ := info_parts Try.infoPc
  have h1 := hb.h1
  have h2 := hb.h2
  have h3 := hb.h3
  obtain ⟨f1, f2, f3⟩ := size_facts h1 h2 h3
  have HB : Hid (1 ≤ W ∧ 1 ≤ H ∧ W * H ≤ 1048576 ∧ W ≤ 1048576 ∧ H ≤ 1048576) := ⟨h1, h2, h3, f1, f2⟩
  have HCK : Hid (∀ w', Fr (fun _ => False) w w' → Calls Try.prog 21 #[.agg #[.int .i64 W, .int .i64 H, v]] w' fun e w'' => e = .returned (.bool true) ∧ Fr (fun _ => False) w' w'') := fun w' hf => by
    have := may_any W H v _ w' (by omega) (by omega) (hb.kept hf).seen (render_lt' W H P)
    rwa [render_valid W H P h1 h2 h3] at this
  have HCP : Hid (∀ w', Fr (fun _ => False) w w' → Calls Try.prog 32 #[.agg #[.int .i64 W, .int .i64 H, v]] w' fun e w'' => ∃ g cap, e = .returned (.agg #[.int .i64 W, .int .i64 H, .slice (some ⟨g, 0, none⟩) (H * stride W) cap]) ∧ RowAt w'' g cap W H P ∧ Fr (fun _ => False) w' w'' ∧ w'.heap.size ≤ g) := fun w' hf => by
    have hlen := length_render W H P
    have := copy_words W H v _ w' (hb.kept hf).seen (by rw [hlen]; exact Nat.mul_pos h2 (by unfold stride; omega)) (by rw [hlen]; exact hl)
    rw [hlen] at this
    refine this.mono ?_
    rintro e w'' ⟨g, cap, he, ho, hf2, hg⟩
    refine ⟨g, cap, he, ?_, hf2, hg⟩
    have h4 := ho
    unfold OwnW at h4
    rw [hlen] at h4
    exact h4
  obtain ⟨ao, cap0, hv0, _, _⟩ := hb.seen
  subst hv0
  clear hb
  go_enter Try.func9, Try.ntmps9
  go_wp2_with fail
  refine (HCK.out _ ((Fr.refl _ _).alloc _)).mono ?_
  rintro e w1 ⟨rfl, hf1⟩
  have HF1 : Hid (Fr (fun _ => False) w w1) := ((Fr.refl _ _).alloc _).trans hf1 (fun _ _ h => h)
  have hbx : w1.heap[w.heap.size]? = some (.cells #[.int .i64 W, .int .i64 H, .slice ao (render W H P).length cap0] 25 (0, 0)) := (hf1.block _ (by rw [World.size_alloc]; omega) (fun h => h)).trans (heap_alloc_new _ _)
  have HBX : Hid (w1.heap[w.heap.size]? = some (.cells #[.int .i64 W, .int .i64 H, .slice ao (render W H P).length cap0] 25 (0, 0))) := hbx
  clear hf1 HCK
  obtain ⟨c0, c1, c2, _⟩ := cell_of_three hbx
  clear hbx
  go_wp2_with fail
  refine (HCP.out _ HF1.out).mono ?_
  rintro e w2 ⟨g, cap, rfl, hr2, hf2, hg⟩
  have HR2 : Hid (RowAt w2 g cap W H P) := hr2
  have HF2 : Hid (Fr (fun _ => False) w w2) := HF1.out.trans hf2 (fun _ _ h => h)
  have HB2 : Hid (w2.heap[w.heap.size]? = some (.cells #[.int .i64 W, .int .i64 H, .slice ao (render W H P).length cap0] 25 (0, 0))) := (hf2.block _ (lt_of_block HBX.out) (fun h => h)).trans HBX.out
  have HGB : Hid (w.heap.size < g ∧ g < w2.heap.size) := ⟨by have := lt_of_block HBX.out; omega, hr2.lt⟩
  clear hf2 hr2 hg HCP c0 c1 c2 HBX
  go_wp2_with fail
  obtain ⟨s0, HS0⟩ : ∃ s0, Hid (w.heap.size = s0) := ⟨_, rfl⟩
  obtain ⟨tb, HTB⟩ : ∃ tb, Hid (w2.heap.size = tb) := ⟨_, rfl⟩
  obtain ⟨N, HN⟩ : ∃ N, Hid (H * stride W = N) := ⟨_, rfl⟩
  obtain ⟨w3, hw3⟩ : ∃ w3, w3 = w2.alloc (.cells #[.int .i64 W, .int .i64 H, .slice (some ⟨g, 0, none⟩) (H * stride W) cap] 25) := ⟨_, rfl⟩
  have HR3 : Hid (RowAt w3 g cap W H P) := by rw [hw3]; exact HR2.out.kept ((Fr.refl (fun _ => False) _).alloc _) (fun h => h)
  have HF3 : Hid (Fr (fun _ => False) w w3) := by rw [hw3]; exact HF2.out.alloc _
  have HCB : Hid (∀ w', Fr (fun k => k = g) w3 w' → w'.cell? ⟨tb, 0, none⟩ = some (.int .i64 W) ∧ w'.cell? ⟨tb, 1, none⟩ = some (.int .i64 H) ∧ w'.cell? ⟨tb, 2, none⟩ = some (.slice (some ⟨g, 0, none⟩) N cap) ∧ w'.cell? ⟨s0, 0, none⟩ = some (.int .i64 W) ∧ w'.cell? ⟨s0, 1, none⟩ = some (.int .i64 H)) := fun w' f => by
    have hg := HGB.out
    have h4 := HS0.out
    have h5 := HTB.out
    have hsz : w3.heap.size = w2.heap.size + 1 := by rw [hw3, World.size_alloc]
    have hb : w3.heap[w2.heap.size]? = some (.cells #[.int .i64 W, .int .i64 H, .slice (some ⟨g, 0, none⟩) N cap] 25 (0, 0)) := by rw [hw3, ← HN.out]; exact heap_alloc_new _ _
    have hb2 : w3.heap[w.heap.size]? = some (.cells #[.int .i64 W, .int .i64 H, .slice ao (render W H P).length cap0] 25 (0, 0)) := by rw [hw3]; exact blkUp HB2.out _
    rw [h5] at hb
    rw [h4] at hb2
    obtain ⟨z0, z1, z2, _⟩ := cell_of_three ((f.block _ (by omega) (by omega)).trans hb)
    obtain ⟨y0, y1, _, _⟩ := cell_of_three ((f.block _ (by omega) (by omega)).trans hb2)
    exact ⟨z0, z1, z2, y0, y1⟩
  have HG3 : Hid (g < w3.heap.size ∧ w.heap.size ≤ w3.heap.size ∧ w.heap.size ≤ g) := ⟨HR3.out.lt, HF3.out.size, by have := HGB.out; omega⟩
  have HSK0 : Hid (Sk w3 w3 g cap W H P (.slice none 0 0) [] [] 0 0) := by
    refine ⟨⟨P, HR3.out, Seek.begin⟩, ⟨World.ownsRow_nil _ _ _ _, by simp, by simp⟩, .nil, Fr.refl _ _, by simp⟩
  have HZG : Hid (∀ (P' : Nat → Nat → Bool) (w' : World), RowAt w' g cap W H P' → ∀ x y, x < W → y < H → Calls Try.prog 24 #[.agg #[.int .i64 W, .int .i64 H, .slice (some ⟨g, 0, none⟩) N cap], .int .i64 x, .int .i64 y] w' fun e w'' => e = .returned (.int .i64 ((P' x y).toNat : Nat)) ∧ Fr (fun _ => False) w' w'') := fun P' w' hr x y hx hy => by
    have hB := HB.out
    have := zget_in W H _ P' x y w' (hr.seen (size_facts hB.1 hB.2.1 hB.2.2.1).2.2) hB.1 hB.2.1 hB.2.2.1 hx hy
    rwa [HN.out] at this
  have HPO : Hid (∀ (P' : Nat → Nat → Bool) (w' : World), RowAt w' g cap W H P' → ∀ x y, x < W → y < H → P' x y = true → First (Bk W H P') (x, y) → Calls Try.prog 33 #[.agg #[.int .i64 (W : Int), .int .i64 (H : Int), .slice (some ⟨g, 0, none⟩) N cap], .int .i64 (x : Int), .int .i64 (y : Int)] w' fun e w'' => ∃ (X Y V U g2 cp : Nat) (Q : Nat → Nat → Bool) (l : List (Nat × Nat)), e = .returned (.agg #[.int .i64 (X : Int), .int .i64 (Y : Int), .int .i64 (V : Int), .int .i64 (U : Int), .slice (some ⟨g2, 0, none⟩) (U * stride V) cp]) ∧ RowAt w'' g2 cp V U Q ∧ IsPc (Bk W H P') (x, y) ⟨X, Y, V, U, Q⟩ ∧ (∀ q, PC (Bk W H P') (x, y) q ↔ q ∈ l) ∧ RowAt w'' g cap W H (leftP P' l) ∧ Fr (fun k => k = g) w' w'' ∧ w'.heap.size ≤ g2) := fun P' w' hr x y hx hy hp hf => by
    have hB := HB.out
    have := piece_ok W H g cap P' x y w' hr hB.1 hB.2.1 hB.2.2.1 hx hy hp hf
    rw [HN.out] at this
    refine this.mono ?_
    rintro e w'' ⟨X, V, U, g2, l, a1, a2, a3, _, a5, a6, a7, a8⟩
    exact ⟨X, y, V, U, g2, _, _, l, a1, a2, a3, a5, a6, a7, a8⟩
  rw [← hw3]
  rw [HTB.out, HS0.out]
  clear hw3 HR2 HF2 HB2 HGB HF1 HR3
  have h2 : 1 ≤ H := HB.out.2.1
  go_loopg [5, 6, 7] H (fun q lv k _ wr => ∃ (y : Nat) (L : List PV) (fs : List (Nat × Nat)), y + q = H ∧ k = .int .i64 (y : Int) ∧ Sk w3 wr g cap W H P lv L fs 0 y)
  case atStart => exact ⟨0, [], [], by omega, rfl, HSK0.out⟩
  case round =>
    clear HSK0
    obtain ⟨y, L, fs, hyq, rfl, hsk⟩ := hrel
    have HSK : Hid (Sk w3 wr g cap W H P u5 L fs 0 y) := hsk
    clear hsk
    obtain ⟨-, -, -, b0, b1⟩ := HCB.out wr HSK.out.fr
    by_cases hyH : y < H
    · have dy : decide (y < H) = true := decide_eq_true hyH
      go_wp2_with fail
      go_loopg [5, 7] W (fun q lv k wr => ∃ (x : Nat) (L : List PV) (fs : List (Nat × Nat)), x + q = W ∧ k = .int .i64 (x : Int) ∧ Sk w3 wr g cap W H P lv L fs x y)
      case atStart => exact ⟨0, L, fs, by omega, rfl, HSK.out⟩
      case round =>
        clear HSK b0 b1
        obtain ⟨x, L, fs, hxq, rfl, hsk⟩ := hrel
        obtain ⟨t0, t1, t2, b0, b1⟩ := HCB.out wr hsk.fr
        have HLN : Hid (L.length ≤ 1048576) := Nat.le_trans hsk.count HB.out.2.2.1
        obtain ⟨P', hrw, hsee⟩ := hsk.row
        have HRW : Hid (RowAt wr g cap W H P') := hrw
        have HSEE : Hid (Seek (Bk W H P) (Bk W H P') fs (x, y)) := hsee
        have HSK : Hid (Sk w3 wr g cap W H P u5 L fs x y) := hsk
        clear hrw hsee hsk
        by_cases hxW : x < W
        · have dx : decide (x < W) = true := decide_eq_true hxW
          have HNX : Hid (∀ p, Bk W H P p → (ras p (x + 1, y) ↔ ras p (x, y) ∨ p = (x, y))) := fun p _ => by
            unfold ras
            rcases p with ⟨a, b⟩
            simp only [Prod.mk.injEq]
            omega
          have HZ := HZG.out P' wr HRW.out x y hxW hyH
          cases hp : P' x y with
          | false =>
            rw [hp] at HZ
            have HZQ : Hid (Calls Try.prog 24 #[.agg #[.int .i64 W, .int .i64 H, .slice (some ⟨g, 0, none⟩) N cap], .int .i64 x, .int .i64 y] wr fun e w'' => e = .returned (.int .i64 0) ∧ Fr (fun _ => False) wr w'') := HZ
            clear HZ
            go_wp2_with fail
            refine HZQ.out.mono ?_
            rintro e w5 ⟨rfl, hf5⟩
            have HSN : Hid (Sk w3 w5 g cap W H P u5 L fs (x + 1) y) := by
              refine ⟨⟨P', HRW.out.kept hf5 (fun h => h), HSEE.out.none (fun h => by have := h.2.2; rw [hp] at this; cases this) HNX.out⟩, HSK.out.ps.kept hf5 (fun _ _ h => h), HSK.out.pcs, HSK.out.fr.trans hf5 (fun _ _ h => h.elim), HSK.out.len⟩
            clear hf5 t0 t1 t2 b0 b1 HSK HSEE HRW
            go_wp2_with fail
            go_roundg (W - (x + 1))
            case measure => omega
            case rel => exact ⟨x + 1, L, fs, by omega, by go_num, HSN.out⟩
          | true =>
            rw [hp] at HZ
            have HZQ : Hid (Calls Try.prog 24 #[.agg #[.int .i64 W, .int .i64 H, .slice (some ⟨g, 0, none⟩) N cap], .int .i64 x, .int .i64 y] wr fun e w'' => e = .returned (.int .i64 1) ∧ Fr (fun _ => False) wr w'') := HZ
            clear HZ
            obtain ⟨hfi, hpc, hfi'⟩ := HSEE.out.hit (fun q hq => exists_first _ q rfl hq) ⟨hxW, hyH, hp⟩
            have HFI : Hid (First (Bk W H P) (x, y)) := hfi
            have HPC : Hid (∀ q, PC (Bk W H P') (x, y) q ↔ PC (Bk W H P) (x, y) q) := hpc
            have HFI2 : Hid (First (Bk W H P') (x, y)) := hfi'
            clear hfi hpc hfi'
            go_wp2_with fail
            refine HZQ.out.mono ?_
            rintro e w5 ⟨rfl, hf5⟩
            have HF5 : Hid (Fr (fun _ => False) wr w5) := hf5
            obtain ⟨t0, t1, t2, b0, b1⟩ := HCB.out w5 (HSK.out.fr.trans hf5 (fun _ _ h => h.elim))
            have HP5 := HPO.out P' w5 (HRW.out.kept hf5 (fun h => h)) x y hxW hyH hp HFI2.out
            have HPQ : Hid (Calls Try.prog 33 #[.agg #[.int .i64 (W : Int), .int .i64 (H : Int), .slice (some ⟨g, 0, none⟩) N cap], .int .i64 (x : Int), .int .i64 (y : Int)] w5 fun e w'' => ∃ (X Y V U g2 cp : Nat) (Q : Nat → Nat → Bool) (l : List (Nat × Nat)), e = .returned (.agg #[.int .i64 (X : Int), .int .i64 (Y : Int), .int .i64 (V : Int), .int .i64 (U : Int), .slice (some ⟨g2, 0, none⟩) (U * stride V) cp]) ∧ RowAt w'' g2 cp V U Q ∧ IsPc (Bk W H P') (x, y) ⟨X, Y, V, U, Q⟩ ∧ (∀ q, PC (Bk W H P') (x, y) q ↔ q ∈ l) ∧ RowAt w'' g cap W H (leftP P' l) ∧ Fr (fun k => k = g) w5 w'' ∧ w5.heap.size ≤ g2) := HP5
            clear hf5 HP5 HZQ
            go_wp2_with fail
            refine HPQ.out.mono ?_
            rintro e w8 ⟨X, Y, V, U, g2, cp, Q, l, rfl, hr8, hpc8, hal8, hrg8, hf8, hg8⟩
            have HR8 : Hid (RowAt w8 g2 cp V U Q) := hr8
            have HIP : Hid (IsPc (Bk W H P) (x, y) ⟨X, Y, V, U, Q⟩) := hpc8.congr HPC.out
            have HS8 : Hid (Seek (Bk W H P) (Bk W H (leftP P' l)) (fs ++ [(x, y)]) (x + 1, y)) := HSEE.out.found HFI.out (fun q => by
              have h1 := left_bk hal8 q
              rw [HPC.out] at h1
              exact h1) HNX.out
            have HF8 : Hid (Fr (fun k => k = g) wr w8) := (HF5.out.mono (fun _ _ h => h.elim)).trans hf8 (fun _ _ h => h)
            have HG8 : Hid (wr.heap.size ≤ g2) := Nat.le_trans HF5.out.size hg8
            have HRG : Hid (RowAt w8 g cap W H (leftP P' l)) := hrg8
            have hgb := HG3.out
            have HS0' : Hid (∀ k, w3.heap.size ≤ k → ¬ (k = g)) := fun k hk e => by have := HG3.out; omega
            have HOW : Hid (w8.ownsRow 0 34 5 u5 L.length (cellsPs L)) := ownsRow_base (row_kept HSK.out.ps.own HF8.out (fun k hk => HS0'.out k (HSK.out.ps.own.lt k hk).1)) (fun _ _ => Nat.zero_le _)
            have HZS : Hid (w3.heap.size ≤ wr.heap.size) := HSK.out.fr.size
            have hln := HLN.out
            clear hr8 hpc8 hal8 hrg8 hf8 hg8 hgb HPQ HFI HFI2 HPC HSEE HRW HF5 t0 t1 t2 b0 b1
            go_wp2_with (first | (at_builtin; refine wpList_append_row _ rfl _ _ 26 rfl 34 i0 (.agg #[.int .i64 0, .int .i64 0, .int .i64 0, .int .i64 0, .slice none 0 0]) 5 56 Try.underlying26 hi hz0 hz1 hz2 rfl (by decide) _ _ _ rfl (HOW.out.alloc _) ⟨w8.heap.size, 0, none⟩ 1 1 _ rfl rfl (cell_five_new _ _ _ _ _ _ _) ?_ ?_ ?_ (by decide) ?_))
            · intro u hu; simp at hu; rcases hu with rfl | rfl | rfl | rfl | rfl <;> rfl
            · unfold maxLen; omega
            · omega
            · intro g' cap' w9 hown9 hgrow9 hloc9 _ _
              have HO9 : Hid (OwnPs w9 w3.heap.size (.slice (some ⟨g', 0, none⟩) (L.length + 1) cap') (L ++ [(⟨X, Y, V, U, Q⟩, g2, cp)])) := HSK.out.ps.next HZS.out HF8.out HS0'.out HR8.out HG8.out ((Fr.refl (fun _ => False) w8).alloc _) hown9 hgrow9 (by rw [World.size_alloc]; exact hloc9)
              have HF9 : Hid (Fr (fun k => k = g) w3 w9) := ((HSK.out.fr.trans HF8.out (fun _ _ h => h)).alloc _).grown hgrow9 (fun k hk hlt => by have := (HSK.out.ps.own.lt k hk).1; omega)
              have HRG9 : Hid (RowAt w9 g cap W H (leftP P' l)) := (HRG.out.kept ((Fr.refl (fun _ => False) w8).alloc _) (fun h => h)).grown hgrow9 (fun e => by have := (HSK.out.ps.own.lt _ e).1; have := HG3.out; omega)
              have HSN : Hid (Sk w3 w9 g cap W H P (.slice (some ⟨g', 0, none⟩) (L.length + 1) cap') (L ++ [(⟨X, Y, V, U, Q⟩, g2, cp)]) (fs ++ [(x, y)]) (x + 1) y) := by
                refine ⟨⟨_, HRG9.out, HS8.out⟩, HO9.out, ?_, HF9.out, ?_⟩
                · rw [List.map_append]
                  exact HSK.out.pcs.snoc HIP.out
                · exact ras_len W H _ HS8.out.sorted (fun p hp => by have := ((HS8.out.mem p).1 hp).1.1; exact ⟨this.1, this.2.1⟩)
              clear hown9 hgrow9 hloc9 HRG9 HF9 HO9 HOW HRG HF8 HS8 HIP HR8 hln
              go_wp2_with fail
              go_roundg (W - (x + 1))
              case measure => omega
              case rel => exact ⟨x + 1, _, _, by omega, by go_num, HSN.out⟩
        · have dx : decide (x < W) = false := decide_eq_false hxW
          have hxe : x = W := by omega
          have HSN : Hid (Sk w3 wr g cap W H P u5 L fs 0 (y + 1)) := by
            refine ⟨⟨P', HRW.out, HSEE.out.place (fun p hp => ?_)⟩, HSK.out.ps, HSK.out.pcs, HSK.out.fr, HSK.out.len⟩
            have := hp.1
            unfold ras
            simp only
            omega
          clear HSK HSEE HRW
          go_wp2_with fail
          go_roundg (H - (y + 1))
          case measure => omega
          case rel => exact ⟨y + 1, L, fs, by omega, by go_num, HSN.out⟩
    · have dy : decide (y < H) = false := decide_eq_false hyH
      have HEND : Hid (Firsts (Bk W H P) fs) := by
        obtain ⟨P', _, hsee⟩ := HSK.out.row
        exact hsee.end_ (fun p hp => by have := hp.2.1; unfold ras; simp only; omega)
      go_wp2_with fail
      go_ret2
      have h6 := HG3.out
      exact ⟨_, L, fs, rfl, HSK.out.ps.weak (by omega), HEND.out, HSK.out.pcs, HF3.out.trans HSK.out.fr (fun k hk e => by omega)⟩
end Go.Proofs.Ytgpciopoionmeaa
