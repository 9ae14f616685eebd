/- The reference's 'piece': all that is connected with a black pixel. -/
import Derived.Test.YtgpciopoionmeaaFa
import Derived.Test.YtgpciopoionmeaaLo
import Derived.Test.YtgpciopoionmeaaCw
import Derived.Test.YtgpciopoionmeaaCrop
import Derived.Test.YtgpciopoionmeaaOf
import Derived.Test.YtgpciopoionmeaaOs
import Derived.Deep.RegionHeld3
import Derived.Deep.AppendLies
import Derived.Deep.Cut
import Derived.Deep.CutRange
import Derived.Deep.Light
namespace Go.Proofs.Ytgpciopoionmeaa
set_option maxRecDepth 100000
open Go.RowKit

theorem Try.infoDot : (Try.prog.info? 95).map (fun i => (i.zero, i.size, i.bytes)) = some (some (.agg #[.int .i64 0, .int .i64 0]), 2, 16) := by kernel_rfl
def dotC (l : List (Nat × Nat)) : List Value := l.flatMap fun p => [.int .i64 (p.1 : Int), .int .i64 (p.2 : Int)]
theorem length_dotC : ∀ l, (dotC l).length = l.length * 2
  | [] => rfl
  | p :: l => by
    have := length_dotC l
    unfold dotC at *
    rw [List.flatMap_cons, List.length_append, this]
    simp; omega
theorem dotC_snoc (l : List (Nat × Nat)) (p : Nat × Nat) : dotC (l ++ [p]) = dotC l ++ [.int .i64 (p.1 : Int), .int .i64 (p.2 : Int)] := by unfold dotC; rw [List.flatMap_append]; simp
theorem dotC_at : ∀ (l : List (Nat × Nat)) (k : Nat) (p : Nat × Nat), l[k]? = some p → (dotC l)[k * 2]? = some (.int .i64 (p.1 : Int)) ∧ (dotC l)[k * 2 + 1]? = some (.int .i64 (p.2 : Int))
  | [], k, p, h => by simp at h
  | x :: l, 0, p, h => by
    simp at h
    subst h
    exact ⟨rfl, rfl⟩
  | x :: l, k + 1, p, h => by
    have := dotC_at l k p (by simpa using h)
    unfold dotC at *
    rw [List.flatMap_cons, show (k + 1) * 2 = k * 2 + 2 by omega, show k * 2 + 2 + 1 = k * 2 + 1 + 2 by omega]
    exact this
/-- The dots in memory: a row of one's own. -/
structure DtAt (w : World) (base : Nat) (v : Value) (l : List (Nat × Nat)) : Prop where
  own : w.ownsRow 0 95 2 v l.length (dotC l)
  new : ∀ k, v.ownBlock = some k → base ≤ k
theorem DtAt.kept {S : Nat → Prop} {w w' : World} {base : Nat} {v : Value} {l : List (Nat × Nat)} (h : DtAt w base v l) (f : Fr S w w') (hs : ∀ k, base ≤ k → ¬ S k) : DtAt w' base v l :=
  ⟨row_kept h.own f (fun k hk e => hs k (h.new k hk) e), h.new⟩
theorem DtAt.first (w : World) (x y : Int) (a e : Nat) (hx : x = (a : Int)) (hy : y = (e : Int)) (base : Nat) (hb : base ≤ w.heap.size) : DtAt (w.alloc (.cells #[.int .i64 x, .int .i64 y] 95)) base (.slice (some ⟨w.heap.size, 0, none⟩) 1 1) [(a, e)] := by
  subst hx
  subst hy
  refine ⟨⟨rfl, Or.inr ⟨w.heap.size, 1, _, rfl, Nat.zero_le _, heap_alloc_new _ _, Nat.le_refl _, by unfold maxLen; omega, rfl, rfl⟩⟩, fun k hk => ?_⟩
  simp only [Value.ownBlock, Option.some.injEq] at hk
  omega
theorem leftP_put (P : Nat → Nat → Bool) (l : List (Nat × Nat)) (a e : Nat) : putPix (leftP P l) a e false = leftP P (l ++ [(a, e)]) := by
  funext x y
  unfold putPix leftP
  by_cases h : x = a ∧ y = e
  · obtain ⟨rfl, rfl⟩ := h
    rw [if_pos ⟨rfl, rfl⟩]
    simp
  · rw [if_neg h]
    congr 1
    have : ((x, y) ∈ l ++ [(a, e)]) ↔ (x, y) ∈ l := by
      rw [List.mem_append]
      constructor
      · rintro (h1 | h1)
        · exact h1
        · simp at h1
          exact absurd h1 h
      · exact Or.inl
    simp only [this]
theorem cell_two_new1 (w : World) (a b : Value) (t : TypeId) : ∀ (j : Nat) (u : Value), [a, b][j]? = some u → (w.alloc (.cells #[a, b] t)).cell? (Addr.add ⟨w.heap.size, 0, none⟩ j) = some u := fun j u hu => by
  have h := heap_alloc_new w (.cells #[a, b] t)
  match j, hu with
  | 0, hu => cases hu; show (w.alloc (.cells #[a, b] t)).cell? ⟨w.heap.size, 0, none⟩ = _; unfold World.cell?; simp only [h]; rfl
  | 1, hu => cases hu; show (w.alloc (.cells #[a, b] t)).cell? ⟨w.heap.size, 1, none⟩ = _; unfold World.cell?; simp only [h]; rfl
  | j + 2, hu => simp at hu

/-- The least and the greatest of the first k dots. -/
structure Mm (l : List (Nat × Nat)) (k X0 X1 Y1 : Nat) : Prop where
  le : ∀ i p, i < k → l[i]? = some p → X0 ≤ p.1 ∧ p.1 ≤ X1 ∧ p.2 ≤ Y1
  a : ∃ p, p ∈ l ∧ p.1 = X0
  b : ∃ p, p ∈ l ∧ p.1 = X1
  c : ∃ p, p ∈ l ∧ p.2 = Y1
theorem Mm.next {l : List (Nat × Nat)} {k X0 X1 Y1 : Nat} (h : Mm l k X0 X1 Y1) {p : Nat × Nat} (hp : l[k]? = some p) : Mm l (k + 1) (min X0 p.1) (max X1 p.1) (max Y1 p.2) := by
  have hm := List.mem_of_getElem? hp
  refine ⟨fun i q hi hq => ?_, ?_, ?_, ?_⟩
  · by_cases e : i = k
    · subst e
      rw [hp] at hq
      cases hq
      omega
    · have := h.le i q (by omega) hq
      omega
  · rcases Nat.le_total X0 p.1 with e | e
    · rw [Nat.min_eq_left e]; exact h.a
    · rw [Nat.min_eq_right e]; exact ⟨p, hm, rfl⟩
  · rcases Nat.le_total X1 p.1 with e | e
    · rw [Nat.max_eq_right e]; exact ⟨p, hm, rfl⟩
    · rw [Nat.max_eq_left e]; exact h.b
  · rcases Nat.le_total Y1 p.2 with e | e
    · rw [Nat.max_eq_right e]; exact ⟨p, hm, rfl⟩
    · rw [Nat.max_eq_left e]; exact h.c
theorem two_fst {w : World} {o : Nat} {x y : Value} {t : TypeId} (h : w.heap[o]? = some (.cells #[x, y] t (0, 0))) (a : Value) : (w.setCell ⟨o, 0, none⟩ a).heap[o]? = some (.cells #[a, y] t (0, 0)) := by
  simp [World.setCell, Array.getElem?_modify, h]
theorem two_snd {w : World} {o : Nat} {x y : Value} {t : TypeId} (h : w.heap[o]? = some (.cells #[x, y] t (0, 0))) (a : Value) : (w.setCell ⟨o, 1, none⟩ a).heap[o]? = some (.cells #[x, a] t (0, 0)) := by
  simp [World.setCell, Array.getElem?_modify, h]
theorem five_all {w : World} {b : Nat} {x y z u v x' y' z' u' v' : Value} {t : TypeId} (h : w.heap[b]? = some (.cells #[x, y, z, u, v] t (0, 0))) :
    (((((w.setCell ⟨b, 0, none⟩ x').setCell ⟨b, 1, none⟩ y').setCell ⟨b, 2, none⟩ z').setCell ⟨b, 3, none⟩ u').setCell ⟨b, 4, none⟩ v').heap[b]? = some (.cells #[x', y', z', u', v'] t (0, 0)) := by
  simp [World.setCell, Array.getElem?_modify, h]
theorem Fr.own5 {S : Nat → Prop} {w w' : World} (f : Fr S w w') (b : Nat) (hb : w.heap.size ≤ b) (x y z u v : Value) : Fr S w (((((w'.setCell ⟨b, 0, none⟩ x).setCell ⟨b, 1, none⟩ y).setCell ⟨b, 2, none⟩ z).setCell ⟨b, 3, none⟩ u).setCell ⟨b, 4, none⟩ v) :=
  f.trans (((((((Fr.refl (fun k => k = b) w').setCell (p := ⟨b, 0, none⟩) (fun _ => rfl) x).setCell (p := ⟨b, 1, none⟩) (fun _ => rfl) y).setCell (p := ⟨b, 2, none⟩) (fun _ => rfl) z).setCell (p := ⟨b, 3, none⟩) (fun _ => rfl) u).setCell (p := ⟨b, 4, none⟩) (fun _ => rfl) v)) (fun i hi e => by omega)
theorem cell_of_fivex {w : World} {o : Nat} {a b c d e : Value} {t : TypeId} (hb : w.heap[o]? = some (.cells #[a, b, c, d, e] t (0, 0))) :
    w.cell? ⟨o, 0, none⟩ = some a ∧ w.cell? ⟨o, 1, none⟩ = some b ∧ w.cell? ⟨o, 2, none⟩ = some c ∧ w.cell? ⟨o, 3, none⟩ = some d ∧ w.cell? ⟨o, 4, none⟩ = some e := by
  refine ⟨?_, ?_, ?_, ?_, ?_⟩ <;> (unfold World.cell?; simp only [hb]; rfl)
theorem cell_of_fivez {w : World} {o : Nat} {a b c d e : Value} {t : TypeId} (hb : w.heap[o]? = some (.cells #[a, b, c, d, e] t (0, 0))) :
    w.cell? ⟨o, 0, none⟩ = some a ∧ w.cell? ⟨o, 1, none⟩ = some b ∧ w.cell? ⟨o, 2, none⟩ = some c ∧ w.cell? ⟨o, 3, none⟩ = some d ∧ w.cell? ⟨o, 4, none⟩ = some e ∧ ∀ j, w.frozen? ⟨o, j, none⟩ = false := by
  obtain ⟨h0, h1, h2, h3, h4⟩ := cell_of_fivex hb
  exact ⟨h0, h1, h2, h3, h4, fun j => by simp [World.frozen?, hb]⟩
/-- The first k dots, in their own bitmap. -/
def dotsP (X Y : Nat) (l : List (Nat × Nat)) (k : Nat) : Nat → Nat → Bool := fun a e => decide ((X + a, Y + e) ∈ l.take k)
theorem dotsP_zero (X Y : Nat) (l : List (Nat × Nat)) : dotsP X Y l 0 = fun _ _ => false := by funext a e; simp [dotsP]
theorem dotsP_next (X Y : Nat) (l : List (Nat × Nat)) {k : Nat} {p : Nat × Nat} {a0 e0 : Nat} (hp : l[k]? = some p) (ha : X + a0 = p.1) (he : Y + e0 = p.2) : putPix (dotsP X Y l k) a0 e0 true = dotsP X Y l (k + 1) := by
  funext a e
  have ht : l.take (k + 1) = l.take k ++ [p] := by rw [List.take_add_one, hp]; rfl
  unfold putPix dotsP
  rw [ht]
  by_cases h : a = a0 ∧ e = e0
  · obtain ⟨rfl, rfl⟩ := h
    rw [if_pos ⟨rfl, rfl⟩]
    have : (X + a, Y + e) = p := Prod.ext ha he
    rw [this]
    simp
  · rw [if_neg h]
    have hn : (X + a, Y + e) ≠ p := fun e2 => h (by
      have h1 := congrArg Prod.fst e2
      have h2 := congrArg Prod.snd e2
      simp only at h1 h2
      omega)
    have : ((X + a, Y + e) ∈ l.take k ++ [p]) ↔ (X + a, Y + e) ∈ l.take k := by
      rw [List.mem_append]
      exact ⟨fun h => h.elim id (fun h1 => absurd (List.mem_singleton.1 h1) hn), Or.inl⟩
    rw [decide_eq_decide]
    exact this.symm
/-- A black pixel's place. -/
def Blk (W H : Nat) (P : Nat → Nat → Bool) (q : Nat × Nat) : Prop := q.1 < W ∧ q.2 < H ∧ P q.1 q.2 = true
/-- What the flood holds: the dots, what is left. -/
structure Fw (w1 wr : World) (g cap W H : Nat) (P : Nat → Nat → Bool) (f : Nat × Nat) (v : Value) (l : List (Nat × Nat)) (n : Nat) : Prop where
  dt : DtAt wr w1.heap.size v l
  rw : RowAt wr g cap W H (leftP P l)
  fr : Fr (fun k => k = g) w1 wr
  fl : Fld (Blk W H P) f l n
  ln : n ≤ l.length
  ct : cnt W H (leftP P l) + l.length = cnt W H P
theorem Fw.blk {w1 wr : World} {g cap W H : Nat} {P : Nat → Nat → Bool} {f : Nat × Nat} {v : Value} {l : List (Nat × Nat)} {n : Nat} (h : Fw w1 wr g cap W H P f v l n) {q : Nat × Nat} (hq : q ∈ l) : Blk W H P q := (h.fl.cn q hq).right
theorem get_left {W H : Nat} {P : Nat → Nat → Bool} {l : List (Nat × Nat)} {X Y : Int} (h : getPix W H (leftP P l) X Y = true) : ∃ a e : Nat, X = a ∧ Y = e ∧ a < W ∧ e < H ∧ P a e = true ∧ (a, e) ∉ l := by
  unfold getPix at h
  simp only [Bool.and_eq_true, decide_eq_true_eq] at h
  obtain ⟨⟨h1, h2, h3, h4⟩, h5⟩ := h
  rw [leftP_in] at h5
  exact ⟨X.toNat, Y.toNat, by omega, by omega, by omega, by omega, h5.1, h5.2⟩
theorem get_not {W H : Nat} {P : Nat → Nat → Bool} {l : List (Nat × Nat)} {X Y : Int} (h : getPix W H (leftP P l) X Y = false) : ∀ q : Nat × Nat, Blk W H P q → (q.1 : Int) = X → (q.2 : Int) = Y → q ∈ l := by
  rintro ⟨a, e⟩ ⟨h1, h2, h3⟩ hx hy
  subst hx
  subst hy
  rw [getPix_in h1 h2] at h
  by_cases hm : (a, e) ∈ l
  · exact hm
  · exact absurd (leftP_in.2 ⟨h3, hm⟩) (by rw [h]; decide)

set_option linter.unusedSimpArgs false in
set_option maxHeartbeats 40000000 in
theorem piece_ok (W H g cap : Nat) (P : Nat → Nat → Bool) (x y : Nat) (w : World) (hr : RowAt w g cap W H P) (h1 : 1 ≤ W) (h2 : 1 ≤ H) (h3 : W * H ≤ 1048576) (hx : x < W) (hy : y < H) (hp : P x y = true) (hfi : First (Blk W H P) (x, y)) :
    Calls Try.prog 33 #[.agg #[.int .i64 (W : Int), .int .i64 (H : Int), .slice (some ⟨g, 0, none⟩) (H * stride W) cap], .int .i64 (x : Int), .int .i64 (y : Int)] w fun e w' => ∃ (X V U g2 : Nat) (l : List (Nat × Nat)), e = .returned (.agg #[.int .i64 (X : Int), .int .i64 (y : Int), .int .i64 (V : Int), .int .i64 (U : Int), .slice (some ⟨g2, 0, none⟩) (U * stride V) (U * stride V)]) ∧ RowAt w' g2 (U * stride V) V U (dotsP X y l l.length) ∧ IsPc (Blk W H P) (x, y) ⟨X, y, V, U, dotsP X y l l.length⟩ ∧ (1 ≤ V ∧ 1 ≤ U ∧ V * U ≤ 1048576) ∧ (∀ q, PC (Blk W H P) (x, y) q ↔ q ∈ l) ∧ RowAt w' g cap W H (leftP P l) ∧ Fr (fun k => k = g) w w' ∧ w.heap.size ≤ g2 := by
  have HFI : Hid (First (Blk W H P) (x, y)) := hfi
  clear hfi
  obtain ⟨i0, hi, hz0, hz1, hz2⟩ := info_parts Try.infoDot
  obtain ⟨f1, f2, f3⟩ := size_facts h1 h2 h3
  have HR : Hid (RowAt w g cap W H P) := hr
  have HB : Hid (1 ≤ W ∧ 1 ≤ H ∧ W * H ≤ 1048576 ∧ W ≤ 1048576 ∧ H ≤ 1048576) := ⟨h1, h2, h3, f1, f2⟩
  have HXY : Hid (x < W ∧ y < H ∧ P x y = true) := ⟨hx, hy, hp⟩
  have HGL : Hid (g < w.heap.size) := hr.lt
  have HCB : Hid (cnt W H P ≤ 1048576) := Nat.le_trans (cnt_le W H P) (by rw [Nat.mul_comm]; exact h3)
  obtain ⟨N, HN⟩ : ∃ N, Hid (N = H * stride W) := ⟨_, rfl⟩
  rw [← HN.out]
  obtain ⟨s0, HS0⟩ : ∃ s0, Hid (w.heap.size = s0) := ⟨_, rfl⟩
  have HA : Hid (Fr (fun _ => False) w ((w.alloc (.cells #[.int .i64 (W : Int), .int .i64 (H : Int), .slice (some ⟨g, 0, none⟩) N cap] 25)).alloc (.cells #[.int .i64 0, .int .i64 0, .int .i64 0, .int .i64 0, .slice none 0 0] 34))) := ((Fr.refl _ _).alloc _).alloc _
  have HC : Hid (∀ w', Fr (fun k => k = g) ((w.alloc (.cells #[.int .i64 (W : Int), .int .i64 (H : Int), .slice (some ⟨g, 0, none⟩) N cap] 25)).alloc (.cells #[.int .i64 0, .int .i64 0, .int .i64 0, .int .i64 0, .slice none 0 0] 34)) w' → (w'.cell? ⟨w.heap.size, 0, none⟩ = some (.int .i64 W) ∧ w'.cell? ⟨w.heap.size, 1, none⟩ = some (.int .i64 H) ∧ w'.cell? ⟨w.heap.size, 2, none⟩ = some (.slice (some ⟨g, 0, none⟩) N cap))) := fun w' hf => by
    have hgl := HGL.out
    have e1 : ((w.alloc (.cells #[.int .i64 (W : Int), .int .i64 (H : Int), .slice (some ⟨g, 0, none⟩) N cap] 25)).alloc (.cells #[.int .i64 0, .int .i64 0, .int .i64 0, .int .i64 0, .slice none 0 0] 34)).heap[w.heap.size]? = some (.cells #[.int .i64 (W : Int), .int .i64 (H : Int), .slice (some ⟨g, 0, none⟩) N cap] 25 (0, 0)) := blkUp (heap_alloc_new _ _) _
    obtain ⟨a0, a1, a2, _⟩ := cell_of_three ((hf.block _ (lt_of_block e1) (by omega)).trans e1)
    exact ⟨a0, a1, a2⟩
  have HCR : Hid (∀ w', Fr (fun k => k = g) ((w.alloc (.cells #[.int .i64 (W : Int), .int .i64 (H : Int), .slice (some ⟨g, 0, none⟩) N cap] 25)).alloc (.cells #[.int .i64 0, .int .i64 0, .int .i64 0, .int .i64 0, .slice none 0 0] 34)) w' → w'.heap[w.heap.size + 1]? = some (.cells #[.int .i64 0, .int .i64 0, .int .i64 0, .int .i64 0, .slice none 0 0] 34 (0, 0))) := fun w' hf => by
    have hgl := HGL.out
    have e2 : ((w.alloc (.cells #[.int .i64 (W : Int), .int .i64 (H : Int), .slice (some ⟨g, 0, none⟩) N cap] 25)).alloc (.cells #[.int .i64 0, .int .i64 0, .int .i64 0, .int .i64 0, .slice none 0 0] 34)).heap[w.heap.size + 1]? = some (.cells #[.int .i64 0, .int .i64 0, .int .i64 0, .int .i64 0, .slice none 0 0] 34 (0, 0)) := by
      have := heap_alloc_new (w.alloc (.cells #[.int .i64 (W : Int), .int .i64 (H : Int), .slice (some ⟨g, 0, none⟩) N cap] 25)) (.cells #[.int .i64 0, .int .i64 0, .int .i64 0, .int .i64 0, .slice none 0 0] 34)
      rwa [World.size_alloc] at this
    exact (hf.block _ (lt_of_block e2) (by omega)).trans e2
  have hz : ((w.alloc (.cells #[.int .i64 (W : Int), .int .i64 (H : Int), .slice (some ⟨g, 0, none⟩) N cap] 25)).alloc (.cells #[.int .i64 0, .int .i64 0, .int .i64 0, .int .i64 0, .slice none 0 0] 34)).heap.size = w.heap.size + 2 := by simp
  clear hr h1 h2 h3 f3 hx hy hp
  go_enter Try.func33, Try.ntmps33
  obtain ⟨c0, c1, c2⟩ := HC.out _ ((Fr.refl _ _).alloc (.cells #[.int .i64 (x : Int), .int .i64 (y : Int)] 95))
  go_wp2_with fail
  generalize ((w.alloc (.cells #[.int .i64 (W : Int), .int .i64 (H : Int), .slice (some ⟨g, 0, none⟩) N cap] 25)).alloc (.cells #[.int .i64 0, .int .i64 0, .int .i64 0, .int .i64 0, .slice none 0 0] 34)) = w1 at *
  have HSZ : Hid (w1.heap.size = w.heap.size + 2) := hz
  clear hz
  have HF0 : Hid (Fr (fun k => k = g) w1 (w1.alloc (.cells #[.int .i64 (x : Int), .int .i64 (y : Int)] 95))) := (Fr.refl _ _).alloc _
  have HD0 : Hid (DtAt (w1.alloc (.cells #[.int .i64 (x : Int), .int .i64 (y : Int)] 95)) w1.heap.size (.slice (some ⟨w1.heap.size, 0, none⟩) 1 1) [(x, y)]) := DtAt.first w1 _ _ x y rfl rfl _ (Nat.le_refl _)
  have HPT : Hid (Calls Try.prog 53 #[.agg #[.int .i64 (W : Int), .int .i64 (H : Int), .slice (some ⟨g, 0, none⟩) N cap], .int .i64 (x : Int), .int .i64 (y : Int), .int .i64 0] (w1.alloc (.cells #[.int .i64 (x : Int), .int .i64 (y : Int)] 95)) fun e w' => e = .returned (.tuple #[]) ∧ RowAt w' g cap W H (leftP P [(x, y)]) ∧ Fr (fun k => k = g) (w1.alloc (.cells #[.int .i64 (x : Int), .int .i64 (y : Int)] 95)) w') := by
    have hb := HB.out
    have h := zput_any W H g cap P x y false (w1.alloc (.cells #[.int .i64 (x : Int), .int .i64 (y : Int)] 95)) (HR.out.kept (HA.out.alloc _) (fun h => h)) hb.1 hb.2.1 hb.2.2.1 HXY.out.1 HXY.out.2.1
    rw [show P = leftP P [] from (leftP_nil P).symm, leftP_put, List.nil_append, ← HN.out] at h
    exact h
  refine HPT.out.mono ?_
  rintro e w3 ⟨rfl, hr3, hf3⟩
  have HW3 : Hid (Fw w1 w3 g cap W H P (x, y) (.slice (some ⟨w1.heap.size, 0, none⟩) 1 1) [(x, y)] 0) := by
    have hxy := HXY.out
    refine ⟨HD0.out.kept hf3 (fun k hk e => ?_), hr3, HF0.out.trans hf3 (fun _ _ h => h), Fld.first ⟨hxy.1, hxy.2.1, hxy.2.2⟩, Nat.zero_le _, ?_⟩
    · have := HSZ.out
      have := HGL.out
      omega
    · exact cnt_less W H P (leftP P [(x, y)]) x y hxy.1 hxy.2.1 hxy.2.2 (by simp [leftP]) (fun a e h => by
      have hn : (a, e) ∉ [(x, y)] := fun hm => by
        simp at hm
        exact h hm
      unfold leftP
      rw [decide_eq_false hn]
      simp)
  clear hr3 hf3 HPT HD0 HF0 c0 c1 c2
  rw [HS0.out] at HC HCR
  rw [HS0.out]
  go_wp2_with fail
  go_loopg [7, 8, 9, 10] (cnt W H P) (fun q v i _ _ wr => ∃ (l : List (Nat × Nat)) (n : Nat) (vv : Value), n + q = cnt W H P ∧ i = .int .i64 (n : Int) ∧ v = vv ∧ Fw w1 wr g cap W H P (x, y) vv l n)
  case atStart => exact ⟨[(x, y)], 0, _, by omega, rfl, rfl, by rw [show s0 + 2 = w1.heap.size by have := HSZ.out; have := HS0.out; omega]; exact HW3.out⟩
  case round =>
    obtain ⟨l, n, vv, hnq, rfl, hvv, hfw⟩ := hrel
    have hvv2 := hvv.symm
    clear hvv
    subst hvv2
    obtain ⟨va, vc, rfl⟩ := own_slice hfw.dt.own
    have HW : Hid (Fw w1 wr g cap W H P (x, y) (.slice va l.length vc) l n) := hfw
    have hll : l.length ≤ 1048576 := by have := HCB.out; have := hfw.ct; omega
    clear hfw HW3
    by_cases hnl : n < l.length
    · have d1 : decide (n < l.length) = true := decide_eq_true hnl
      obtain ⟨p, hp⟩ : ∃ p, l[n]? = some p := ⟨_, List.getElem?_eq_getElem hnl⟩
      have HPB : Hid (p.1 < W ∧ p.2 < H) := by have h := HW.out.blk (List.mem_of_getElem? hp); exact ⟨h.1, h.2.1⟩
      have HP : Hid (l[n]? = some p) := hp
      clear hp
      go_wp2_with fail
      go_loopw [7, 9, 10] (fun v j _ wr => ∃ (l : List (Nat × Nat)) (vv : Value) (j0 : Int), -1 ≤ j0 ∧ j0 ≤ 2 ∧ j = .int .i64 j0 ∧ v = vv ∧ Fw w1 wr g cap W H P (x, y) vv l n ∧ l[n]? = some p ∧ FldP (Blk W H P) l p j0 (-1)) (fun _ j _ _ => (2 - intOf j).toNat)
      case atStart => exact ⟨l, _, -1, by omega, by omega, rfl, rfl, HW.out, HP.out, FldP.zero _ _ _⟩
      case round =>
        clear HW HP hll hnl d1
        obtain ⟨l, vv, j0, hj1, hj2, rfl, hvv, hfw, hp, hfp⟩ := hrel
        have hvv2 := hvv.symm
        clear hvv
        subst hvv2
        obtain ⟨va, vc, rfl⟩ := own_slice hfw.dt.own
        have HW : Hid (Fw w1 wr g cap W H P (x, y) (.slice va l.length vc) l n) := hfw
        have HP : Hid (l[n]? = some p) := hp
        have HFP : Hid (FldP (Blk W H P) l p j0 (-1)) := hfp
        clear hfw hp hfp
        by_cases hj : j0 ≤ 1
        · have dj : decide (j0 ≤ 1) = true := decide_eq_true hj
          go_wp2_with fail
          go_loopw [7, 10] (fun v k wr => ∃ (l : List (Nat × Nat)) (vv : Value) (k0 : Int), -1 ≤ k0 ∧ k0 ≤ 2 ∧ k = .int .i64 k0 ∧ v = vv ∧ Fw w1 wr g cap W H P (x, y) vv l n ∧ l[n]? = some p ∧ FldP (Blk W H P) l p j0 k0) (fun _ k _ => (2 - intOf k).toNat)
          case atStart => exact ⟨l, _, -1, by omega, by omega, rfl, rfl, HW.out, HP.out, HFP.out⟩
          case round =>
            clear HW HP HFP
            obtain ⟨l, vv, k0, hk1, hk2, rfl, hvv, hfw, hp, hfp⟩ := hrel
            have hvv2 := hvv.symm
            clear hvv
            subst hvv2
            have hnl : n < l.length := (List.getElem?_eq_some_iff.1 hp).1
            obtain ⟨gl, vc, hvs, -⟩ := row_form hfw.dt.own (by omega)
            subst hvs
            have HW : Hid (Fw w1 wr g cap W H P (x, y) (.slice (some ⟨gl, 0, none⟩) l.length vc) l n) := hfw
            have HP : Hid (l[n]? = some p) := hp
            have HFP : Hid (FldP (Blk W H P) l p j0 k0) := hfp
            have hll : l.length ≤ 1048576 := by have := HCB.out; have := hfw.ct; omega
            clear hfw hp hfp
            by_cases hk : k0 ≤ 1
            · have dk : decide (k0 ≤ 1) = true := decide_eq_true hk
              have HCL : Hid (∀ w', Fr (fun k => k = g) wr w' → w'.cell? ⟨s0, 0, none⟩ = some (.int .i64 W) ∧ w'.cell? ⟨s0, 1, none⟩ = some (.int .i64 H) ∧ w'.cell? ⟨s0, 2, none⟩ = some (.slice (some ⟨g, 0, none⟩) N cap) ∧ w'.cell? ⟨gl, n * 2, none⟩ = some (.int .i64 (p.1 : Int)) ∧ w'.cell? ⟨gl, n * 2 + 1, none⟩ = some (.int .i64 (p.2 : Int))) := fun w' f => by
                have hf := HW.out.fr.trans f (fun _ _ h => h)
                have hd := (HW.out.dt.kept f (fun k hk e => by have := HSZ.out; have := HGL.out; omega)).own
                obtain ⟨a0, a1, a2⟩ := HC.out w' hf
                obtain ⟨d0, d1⟩ := dotC_at l n p HP.out
                exact ⟨a0, a1, a2, (hd.cellAt (n * 2) (by omega)).trans d0, (hd.cellAt (n * 2 + 1) (by omega)).trans d1⟩
              have hpb := HPB.out
              have hw1 : IntKind.i64.wrap ((p.1 : Int) + k0) = (p.1 : Int) + k0 := by have := HB.out; rw [IntKind.wrap_i64]; omega
              have hw2 : IntKind.i64.wrap ((p.2 : Int) + j0) = (p.2 : Int) + j0 := by have := HB.out; rw [IntKind.wrap_i64]; omega
              have hw3 : IntKind.i64.wrap (k0 + 1) = k0 + 1 := by rw [IntKind.wrap_i64]; omega
              have HG1 : Hid (∀ w', Fr (fun _ => False) wr w' → Calls Try.prog 24 #[.agg #[.int .i64 (W : Int), .int .i64 (H : Int), .slice (some ⟨g, 0, none⟩) N cap], .int .i64 ((p.1 : Int) + k0), .int .i64 ((p.2 : Int) + j0)] w' fun e w'' => e = .returned (.int .i64 ((getPix W H (leftP P l) ((p.1 : Int) + k0) ((p.2 : Int) + j0)).toNat : Nat)) ∧ Fr (fun _ => False) w' w'') := fun w' f => by
                have hb := HB.out
                have h := zget_any W H _ (leftP P l) ((p.1 : Int) + k0) ((p.2 : Int) + j0) w' ((HW.out.rw.kept f (fun h => h)).seen (size_facts hb.1 hb.2.1 hb.2.2.1).2.2) hb.1 hb.2.1 hb.2.2.1
                rw [← HN.out] at h
                exact h
              clear hpb
              obtain ⟨c0, c1, c2, c3, c4⟩ := HCL.out wr (Fr.refl _ _)
              cases hgp : getPix W H (leftP P l) ((p.1 : Int) + k0) ((p.2 : Int) + j0)
              · have HGP : Hid (getPix W H (leftP P l) ((p.1 : Int) + k0) ((p.2 : Int) + j0) = false) := hgp
                rw [hgp] at HG1
                clear hgp
                go_wp2_with fail
                go_region_held3 (fun w' => w'.cell? ⟨s0, 0, none⟩ = some (.int .i64 W) ∧ w'.cell? ⟨s0, 1, none⟩ = some (.int .i64 H) ∧ w'.cell? ⟨s0, 2, none⟩ = some (.slice (some ⟨g, 0, none⟩) N cap) ∧ w'.cell? ⟨gl, n * 2, none⟩ = some (.int .i64 (p.1 : Int)) ∧ w'.cell? ⟨gl, n * 2 + 1, none⟩ = some (.int .i64 (p.2 : Int))) (exact HCL.out _ (by repeat (first | with_reducible exact Fr.refl _ _ | with_reducible refine Fr.drew ?_ | with_reducible refine Fr.trans ?_ hf7 (fun _ _ hh => hh.elim)))) (first | (go_at_call 24; refine (HG1.out _ (by repeat (first | with_reducible exact Fr.refl _ _ | with_reducible refine Fr.drew ?_))).mono ?_; rintro e w7 ⟨rfl, hf7⟩))
                have hf : Fr (fun _ => False) wr w7 := by
                  refine Fr.trans ?_ hf7 (fun _ _ h => h)
                  repeat (first | with_reducible exact Fr.refl _ _ | with_reducible refine Fr.drew ?_)
                have HF7 : Hid (Fr (fun _ => False) wr w7) := hf
                clear hf hf7 c0 c1 c2 c3 c4
                go_wp2_with fail
                go_roundw
                case rel => exact ⟨l, _, k0 + 1, by omega, by omega, rfl, rfl, ⟨HW.out.dt.kept HF7.out (fun _ _ h => h), HW.out.rw.kept HF7.out (fun h => h), HW.out.fr.trans HF7.out (fun _ _ h => h.elim), HW.out.fl, HW.out.ln, HW.out.ct⟩, HP.out, HFP.out.next (get_not HGP.out)⟩
                case measure => simp [intOf]; omega
              · obtain ⟨a0, e0, hx0, hy0, ha0, he0, hpa, hnm⟩ := get_left hgp
                have HQ : Hid (Blk W H P (a0, e0) ∧ (a0, e0) ∉ l ∧ nb p (a0, e0) ∧ (p.1 : Int) + k0 = a0 ∧ (p.2 : Int) + j0 = e0) := ⟨⟨ha0, he0, hpa⟩, hnm, by unfold nb; simp only; omega, hx0, hy0⟩
                rw [hgp, hx0, hy0] at HG1
                rw [hx0] at hw1
                rw [hy0] at hw2
                clear hgp ha0 he0 hpa hnm
                go_wp2_with fail
                go_region_held3 (fun w' => w'.cell? ⟨s0, 0, none⟩ = some (.int .i64 W) ∧ w'.cell? ⟨s0, 1, none⟩ = some (.int .i64 H) ∧ w'.cell? ⟨s0, 2, none⟩ = some (.slice (some ⟨g, 0, none⟩) N cap) ∧ w'.cell? ⟨gl, n * 2, none⟩ = some (.int .i64 (p.1 : Int)) ∧ w'.cell? ⟨gl, n * 2 + 1, none⟩ = some (.int .i64 (p.2 : Int))) (exact HCL.out _ (by repeat (first | with_reducible exact Fr.refl _ _ | with_reducible refine Fr.drew ?_ | with_reducible refine Fr.trans ?_ hf7 (fun _ _ hh => hh.elim)))) (first | (go_at_call 24; refine (HG1.out _ (by repeat (first | with_reducible exact Fr.refl _ _ | with_reducible refine Fr.drew ?_))).mono ?_; rintro e w7 ⟨rfl, hf7⟩))
                have hf : Fr (fun _ => False) wr w7 := by
                  refine Fr.trans ?_ hf7 (fun _ _ h => h)
                  repeat (first | with_reducible exact Fr.refl _ _ | with_reducible refine Fr.drew ?_)
                have HF7 : Hid (Fr (fun _ => False) wr w7) := hf
                clear hf hf7 c0 c1 c2 c3 c4
                have HCL7 : Hid (∀ w', Fr (fun k => k = g) w7 w' → w'.cell? ⟨s0, 0, none⟩ = some (.int .i64 W) ∧ w'.cell? ⟨s0, 1, none⟩ = some (.int .i64 H) ∧ w'.cell? ⟨s0, 2, none⟩ = some (.slice (some ⟨g, 0, none⟩) N cap) ∧ w'.cell? ⟨gl, n * 2, none⟩ = some (.int .i64 (p.1 : Int)) ∧ w'.cell? ⟨gl, n * 2 + 1, none⟩ = some (.int .i64 (p.2 : Int))) := fun w' f => HCL.out w' ((HF7.out.mono (fun _ _ h => h.elim)).trans f (fun _ _ h => h))
                have HPU : Hid (∀ w', Fr (fun _ => False) w7 w' → Calls Try.prog 53 #[.agg #[.int .i64 (W : Int), .int .i64 (H : Int), .slice (some ⟨g, 0, none⟩) N cap], .int .i64 (a0 : Int), .int .i64 (e0 : Int), .int .i64 0] w' fun e w'' => e = .returned (.tuple #[]) ∧ RowAt w'' g cap W H (leftP P (l ++ [(a0, e0)])) ∧ Fr (fun k => k = g) w' w'') := fun w' f => by
                  have hb := HB.out
                  have hq := HQ.out.1
                  have h := zput_any W H g cap (leftP P l) a0 e0 false w' (HW.out.rw.kept (HF7.out.trans f (fun _ _ h => h)) (fun h => h)) hb.1 hb.2.1 hb.2.2.1 hq.1 hq.2.1
                  rw [leftP_put, ← HN.out] at h
                  exact h
                obtain ⟨c0, c1, c2, c3, c4⟩ := HCL7.out w7 (Fr.refl _ _)
                go_wp2_with fail
                go_region_held3 (fun w' => w'.cell? ⟨s0, 0, none⟩ = some (.int .i64 W) ∧ w'.cell? ⟨s0, 1, none⟩ = some (.int .i64 H) ∧ w'.cell? ⟨s0, 2, none⟩ = some (.slice (some ⟨g, 0, none⟩) N cap) ∧ w'.cell? ⟨gl, n * 2, none⟩ = some (.int .i64 (p.1 : Int)) ∧ w'.cell? ⟨gl, n * 2 + 1, none⟩ = some (.int .i64 (p.2 : Int))) (exact HCL7.out _ (by repeat (first | with_reducible exact Fr.refl _ _ | with_reducible refine Fr.drew ?_ | with_reducible refine Fr.trans ?_ hf8 (fun _ _ hh => hh)))) (first | (go_at_call 53; refine (HPU.out _ (by repeat (first | with_reducible exact Fr.refl _ _ | with_reducible refine Fr.drew ?_))).mono ?_; rintro e w8 ⟨rfl, hr8, hf8⟩))
                have hf : Fr (fun k => k = g) w7 w8 := by
                  refine Fr.trans ?_ hf8 (fun _ _ h => h)
                  repeat (first | with_reducible exact Fr.refl _ _ | with_reducible refine Fr.drew ?_)
                have HF8 : Hid (Fr (fun k => k = g) w7 w8) := hf
                have HR8 : Hid (RowAt w8 g cap W H (leftP P (l ++ [(a0, e0)]))) := hr8
                clear hf hf8 hr8 c0 c1 c2 c3 c4 HPU
                have HFR8 : Hid (Fr (fun k => k = g) w1 w8) := (HW.out.fr.trans HF7.out (fun _ _ h => h.elim)).trans HF8.out (fun _ _ h => h)
                have HD8 : Hid (DtAt w8 w1.heap.size (.slice (some ⟨gl, 0, none⟩) l.length vc) l) := (HW.out.dt.kept HF7.out (fun _ _ h => h)).kept HF8.out (fun k hk e => by have := HSZ.out; have := HGL.out; omega)
                obtain ⟨_, _, _, c3, c4⟩ := HCL7.out w8 HF8.out
                have c3' : w8.drew.cell? ⟨gl, n * 2, none⟩ = some (.int .i64 (p.1 : Int)) := c3
                have c4' : w8.drew.cell? ⟨gl, n * 2 + 1, none⟩ = some (.int .i64 (p.2 : Int)) := c4
                go_wp2_with fail
                go_region_law ((refine step_append_lies _ (by rfl) _ _ _ (by rfl) 0 95 i0 (.agg #[.int .i64 0, .int .i64 0]) 2 16 Try.underlying96 hi hz0 hz1 hz2 rfl (by decide) (.slice (some ⟨gl, 0, none⟩) l.length vc) l.length (dotC l) (by rfl) ((row_kept HD8.out.own (Fr.refl (fun _ => False) w8).drew (fun _ _ h => h)).alloc _) ⟨w8.drew.heap.size, 0, none⟩ 1 1 [.int .i64 (a0 : Int), .int .i64 (e0 : Int)] (by rfl) (by rfl) (cell_two_new1 _ _ _ _) ?_ (by decide) (by unfold maxLen; omega) (by omega) (Nat.zero_le _) (w8.heap.size + 1) (by simp) ?_; (intro u hu; simp at hu; rcases hu with rfl | rfl <;> rfl); intro g' cap' w9 hown9 hgrow9 hat9 hlt9))
                all_goals
                  have hf89 : Fr (fun k => (Value.slice (some ⟨gl, 0, none⟩) l.length vc).ownBlock = some k) w8 w9 := (((Fr.refl (fun k => (Value.slice (some ⟨gl, 0, none⟩) l.length vc).ownBlock = some k) w8).drew).alloc _).grown hgrow9 (fun k e _ => e)
                  have HR9 : Hid (RowAt w9 g cap W H (leftP P (l ++ [(a0, e0)]))) := HR8.out.kept hf89 (fun e => own_ne HD8.out.own HR8.out (by decide) e)
                  have HF9 : Hid (Fr (fun k => k = g) w1 w9) := HFR8.out.trans hf89 (fun k hk e => by have := HD8.out.new k e; omega)
                  have HD9 : Hid (DtAt w9 w1.heap.size (.slice (some ⟨g', 0, none⟩) (l.length + 1) cap') (l ++ [(a0, e0)])) := by
                    refine ⟨?_, fun k hk => ?_⟩
                    · rw [dotC_snoc, List.length_append]; exact hown9
                    · simp only [Value.ownBlock, Option.some.injEq] at hk
                      subst hk
                      rcases hat9 with e | e
                      · exact HD8.out.new _ e
                      · have := HFR8.out.size
                        omega
                  clear hf89 hown9 hgrow9 hat9 hlt9 c3 c4 c3' c4'
                  have HFL : Hid (Fw w1 w9 g cap W H P (x, y) (.slice (some ⟨g', 0, none⟩) (l.length + 1) cap') (l ++ [(a0, e0)]) n) := by
                    have hq := HQ.out
                    refine ⟨HD9.out, HR9.out, HF9.out, HW.out.fl.more (List.mem_of_getElem? HP.out) hq.2.2.1 hq.1 hq.2.1 HW.out.ln, by rw [List.length_append]; have := HW.out.ln; omega, ?_⟩
                    have h1 := cnt_less W H (leftP P l) (leftP P (l ++ [(a0, e0)])) a0 e0 hq.1.1 hq.1.2.1 (leftP_in.2 ⟨hq.1.2.2, hq.2.1⟩) (by rw [← leftP_put]; unfold putPix; rw [if_pos ⟨rfl, rfl⟩]) (fun a e h => by rw [← leftP_put]; unfold putPix; rw [if_neg h])
                    have h2 := HW.out.ct
                    rw [List.length_append]
                    simp only [List.length_cons, List.length_nil]
                    omega
                  have HPN : Hid ((l ++ [(a0, e0)])[n]? = some p) := by
                    show _ = _
                    rw [List.getElem?_append_left hnl]
                    exact HP.out
                  have HFN : Hid (FldP (Blk W H P) (l ++ [(a0, e0)]) p j0 (k0 + 1)) := (HFP.out.more (a0, e0)).next (fun q _ h1 h2 => by
                    have hq := HQ.out
                    have e : q = (a0, e0) := Prod.ext (by simp only; omega) (by simp only; omega)
                    subst e
                    simp)
                  go_wp2_with fail
                  go_roundw
                all_goals first
                  | exact ⟨l ++ [(a0, e0)], _, k0 + 1, by omega, by omega, rfl, rfl, HFL.out, HPN.out, HFN.out⟩
                  | (simp [intOf]; omega)
            · have dk : decide (k0 ≤ 1) = false := decide_eq_false hk
              obtain rfl : k0 = 2 := by omega
              have hw3 : IntKind.i64.wrap (j0 + 1) = j0 + 1 := by rw [IntKind.wrap_i64]; omega
              go_wp2_with fail
              go_roundw
              case rel => exact ⟨l, _, j0 + 1, by omega, by omega, rfl, rfl, HW.out, HP.out, HFP.out.row⟩
              case measure => simp [intOf]; omega
        · have dj : decide (j0 ≤ 1) = false := decide_eq_false hj
          obtain rfl : j0 = 2 := by omega
          have hw3 : IntKind.i64.wrap ((n : Int) + 1) = ((n + 1 : Nat) : Int) := by have h1 := (List.getElem?_eq_some_iff.1 HP.out).1; have h2 := HCB.out; have h3 := HW.out.ct; rw [IntKind.wrap_i64]; omega
          have HNX : Hid (Fw w1 wr g cap W H P (x, y) (.slice va l.length vc) l (n + 1)) := ⟨HW.out.dt, HW.out.rw, HW.out.fr, HW.out.fl.next HP.out (Int.le_refl 2) HFP.out, (List.getElem?_eq_some_iff.1 HP.out).1, HW.out.ct⟩
          have HNL : Hid (n + 1 ≤ cnt W H P) := by
            have h1 := (List.getElem?_eq_some_iff.1 HP.out).1
            have h3 := HW.out.ct
            show _ ≤ _
            omega
          go_wp2_with fail
          go_roundg (cnt W H P - (n + 1))
          case measure => have := HNL.out; omega
          case rel => exact ⟨l, n + 1, _, by have := HNL.out; omega, rfl, rfl, HNX.out⟩

    · obtain rfl : n = l.length := by have := HW.out.ln; omega
      have d1 : decide (l.length < l.length) = false := decide_eq_false hnl
      have HALL : Hid (∀ q, PC (Blk W H P) (x, y) q ↔ q ∈ l) := HW.out.fl.all
      have HL0 : Hid (l[0]? = some (x, y)) := HW.out.fl.hd
      have hl0 : 0 < l.length := (List.getElem?_eq_some_iff.1 HL0.out).1
      obtain ⟨gl, vc, hvs, -⟩ := row_form HW.out.dt.own hl0
      cases hvs
      have HDC : Hid (∀ S w', Fr S wr w' → (∀ k, S k → wr.heap.size ≤ k) → ∀ k p, l[k]? = some p → w'.cell? ⟨gl, k * 2, none⟩ = some (.int .i64 (p.1 : Int)) ∧ w'.cell? ⟨gl, k * 2 + 1, none⟩ = some (.int .i64 (p.2 : Int))) := fun S w' f hS k p hp => by
        have hg := (HW.out.dt.own.lt gl rfl).2
        have hd := row_kept HW.out.dt.own f (fun k hk e => by simp only [Value.ownBlock, Option.some.injEq] at hk; have := hS k e; omega)
        have hk := (List.getElem?_eq_some_iff.1 hp).1
        obtain ⟨d0, d1⟩ := dotC_at l k p hp
        exact ⟨(hd.cellAt (k * 2) (by omega)).trans d0, (hd.cellAt (k * 2 + 1) (by omega)).trans d1⟩
      have k0 : wr.cell? ⟨gl, 0, none⟩ = some (.int .i64 (x : Int)) := (HDC.out (fun _ => False) wr (Fr.refl _ _) (fun _ h => h.elim) 0 (x, y) HL0.out).1
      have k1 : wr.cell? ⟨gl, 1, none⟩ = some (.int .i64 (y : Int)) := (HDC.out (fun _ => False) wr (Fr.refl _ _) (fun _ h => h.elim) 0 (x, y) HL0.out).2
      have k0' : (wr.alloc (.cells #[.int .i64 (x : Int), .int .i64 (y : Int)] 95)).cell? ⟨gl, 0, none⟩ = some (.int .i64 (x : Int)) := (HDC.out (fun _ => False) _ ((Fr.refl _ _).alloc _) (fun _ h => h.elim) 0 (x, y) HL0.out).1
      have k1' : (wr.alloc (.cells #[.int .i64 (x : Int), .int .i64 (y : Int)] 95)).cell? ⟨gl, 1, none⟩ = some (.int .i64 (y : Int)) := (HDC.out (fun _ => False) _ ((Fr.refl _ _).alloc _) (fun _ h => h.elim) 0 (x, y) HL0.out).2
      have hb1 : ((wr.alloc (.cells #[.int .i64 (x : Int), .int .i64 (y : Int)] 95)).alloc (.cells #[.int .i64 (x : Int), .int .i64 (y : Int)] 95)).heap[wr.heap.size]? = some (.cells #[.int .i64 (x : Int), .int .i64 (y : Int)] 95 (0, 0)) := blkUp (heap_alloc_new _ _) _
      have hb2 : ((wr.alloc (.cells #[.int .i64 (x : Int), .int .i64 (y : Int)] 95)).alloc (.cells #[.int .i64 (x : Int), .int .i64 (y : Int)] 95)).heap[wr.heap.size + 1]? = some (.cells #[.int .i64 (x : Int), .int .i64 (y : Int)] 95 (0, 0)) := by
        have := heap_alloc_new (wr.alloc (.cells #[.int .i64 (x : Int), .int .i64 (y : Int)] 95)) (.cells #[.int .i64 (x : Int), .int .i64 (y : Int)] 95)
        rwa [World.size_alloc] at this
      have HF5 : Hid (Fr (fun _ => False) wr ((wr.alloc (.cells #[.int .i64 (x : Int), .int .i64 (y : Int)] 95)).alloc (.cells #[.int .i64 (x : Int), .int .i64 (y : Int)] 95))) := ((Fr.refl _ _).alloc _).alloc _
      go_wp2_with fail
      generalize ((wr.alloc (.cells #[.int .i64 (x : Int), .int .i64 (y : Int)] 95)).alloc (.cells #[.int .i64 (x : Int), .int .i64 (y : Int)] 95)) = w5 at *
      obtain ⟨wE, rfl⟩ : ∃ wE, wE = wr := ⟨_, rfl⟩
      clear k0 k1 k0' k1' d1
      obtain ⟨bl, HBL⟩ : ∃ bl, Hid (wE.heap.size = bl) := ⟨_, rfl⟩
      obtain ⟨bh, HBH⟩ : ∃ bh, Hid (wE.heap.size + 1 = bh) := ⟨_, rfl⟩
      rw [HBL.out] at hb1
      rw [HBH.out] at hb2
      rw [HBH.out, HBL.out]
      have HB5 : Hid (w5.heap[bl]? = some (.cells #[.int .i64 (x : Int), .int .i64 (y : Int)] 95 (0, 0)) ∧ w5.heap[bh]? = some (.cells #[.int .i64 (x : Int), .int .i64 (y : Int)] 95 (0, 0))) := ⟨hb1, hb2⟩
      clear hb1 hb2
      have HM1 : Hid (Mm l 1 x x y) := ⟨fun i p hi hp => by
          obtain rfl : i = 0 := by omega
          rw [HL0.out] at hp
          cases hp
          exact ⟨Nat.le_refl _, Nat.le_refl _, Nat.le_refl _⟩, ⟨(x, y), HW.out.fl.mem, rfl⟩, ⟨(x, y), HW.out.fl.mem, rfl⟩, ⟨(x, y), HW.out.fl.mem, rfl⟩⟩
      go_loopw [13] (fun i wz => ∃ (k X0 X1 Y1 : Nat), i = .int .i64 (k : Int) ∧ 1 ≤ k ∧ k ≤ l.length ∧ Mm l k X0 X1 Y1 ∧ wz.heap[bl]? = some (.cells #[.int .i64 (X0 : Int), .int .i64 (y : Int)] 95 (0, 0)) ∧ wz.heap[bh]? = some (.cells #[.int .i64 (X1 : Int), .int .i64 (Y1 : Int)] 95 (0, 0)) ∧ Fr (fun k => k = bl ∨ k = bh) w5 wz) (fun i _ => l.length - (intOf i).toNat)
      case atStart => exact ⟨1, x, x, y, rfl, by omega, by omega, HM1.out, HB5.out.1, HB5.out.2, Fr.refl _ _⟩
      case round =>
        clear HM1 HB5
        obtain ⟨k, X0, X1, Y1, rfl, hk1, hk2, hmm, hbl, hbh, hfz⟩ := hrel
        have HMM : Hid (Mm l k X0 X1 Y1) := hmm
        have HFZ : Hid (Fr (fun k => k = bl ∨ k = bh) w5 wr) := hfz
        have HBB : Hid (wr.heap[bl]? = some (.cells #[.int .i64 (X0 : Int), .int .i64 (y : Int)] 95 (0, 0)) ∧ wr.heap[bh]? = some (.cells #[.int .i64 (X1 : Int), .int .i64 (Y1 : Int)] 95 (0, 0))) := ⟨hbl, hbh⟩
        clear hmm hbl hbh hfz
        by_cases hkl : k < l.length
        · have dk : decide (k < l.length) = true := decide_eq_true hkl
          obtain ⟨p, hp⟩ : ∃ p, l[k]? = some p := ⟨_, List.getElem?_eq_getElem hkl⟩
          have HP : Hid (l[k]? = some p) := hp
          have HNX : Hid (Mm l (k + 1) (min X0 p.1) (max X1 p.1) (max Y1 p.2)) := HMM.out.next hp
          clear hp
          have hw3 : IntKind.i64.wrap ((k : Int) + 1) = ((k + 1 : Nat) : Int) := by have h2 := HCB.out; have h3 := HW.out.ct; rw [IntKind.wrap_i64]; omega
          have HDK : Hid (∀ w', Fr (fun k => k = bl ∨ k = bh) w5 w' → w'.cell? ⟨gl, k * 2, none⟩ = some (.int .i64 (p.1 : Int)) ∧ w'.cell? ⟨gl, k * 2 + 1, none⟩ = some (.int .i64 (p.2 : Int))) := fun w' f => HDC.out (fun k => k = bl ∨ k = bh) w' ((HF5.out.mono (fun _ _ h => h.elim)).trans f (fun _ _ h => h)) (fun k e => by have := HBL.out; have := HBH.out; omega) k p HP.out
          have HK0 : Hid (∀ w', Fr (fun _ => False) wr w' → w'.cell? ⟨gl, k * 2, none⟩ = some (.int .i64 (p.1 : Int)) ∧ w'.cell? ⟨gl, k * 2 + 1, none⟩ = some (.int .i64 (p.2 : Int)) ∧ w'.cell? ⟨bl, 0, none⟩ = some (.int .i64 (X0 : Int)) ∧ w'.cell? ⟨bl, 1, none⟩ = some (.int .i64 (y : Int)) ∧ w'.cell? ⟨bh, 0, none⟩ = some (.int .i64 (X1 : Int)) ∧ w'.cell? ⟨bh, 1, none⟩ = some (.int .i64 (Y1 : Int))) := fun w' f => by
            obtain ⟨d0, d1⟩ := HDK.out w' (HFZ.out.trans f (fun _ _ h => h.elim))
            obtain ⟨e0, e1, _⟩ := cell_of_two ((f.block _ (lt_of_block HBB.out.1) (fun h => h)).trans HBB.out.1)
            obtain ⟨e2, e3, _⟩ := cell_of_two ((f.block _ (lt_of_block HBB.out.2) (fun h => h)).trans HBB.out.2)
            exact ⟨d0, d1, e0, e1, e2, e3⟩
          obtain ⟨c0, c1, c2, c3, c4, c5⟩ := HK0.out wr (Fr.refl _ _)
          by_cases q0 : p.1 < X0
          · have e10 : decide ((p.1 : Int) < (X0 : Int)) = true := decide_eq_true (by omega)
            have e20 : decide (p.1 < X0) = true := decide_eq_true q0
            go_upto_region 20 with (fail)
            go_region_held3 (fun w' => w'.cell? ⟨gl, k * 2, none⟩ = some (.int .i64 (p.1 : Int)) ∧ w'.cell? ⟨gl, k * 2 + 1, none⟩ = some (.int .i64 (p.2 : Int)) ∧ w'.cell? ⟨bl, 0, none⟩ = some (.int .i64 (X0 : Int)) ∧ w'.cell? ⟨bl, 1, none⟩ = some (.int .i64 (y : Int)) ∧ w'.cell? ⟨bh, 0, none⟩ = some (.int .i64 (X1 : Int)) ∧ w'.cell? ⟨bh, 1, none⟩ = some (.int .i64 (Y1 : Int))) (exact HK0.out _ (by repeat (first | with_reducible exact Fr.refl _ _ | with_reducible refine Fr.drew ?_))) (fail)
            have zf0 := (cell_of_two HBB.out.1).2.2 0
            have HB0' : Hid ((wr.setCell ⟨bl, 0, none⟩ (.int .i64 (p.1 : Int))).heap[bl]? = some (.cells #[.int .i64 (p.1 : Int), .int .i64 (y : Int)] 95 (0, 0)) ∧ (wr.setCell ⟨bl, 0, none⟩ (.int .i64 (p.1 : Int))).heap[bh]? = some (.cells #[.int .i64 (X1 : Int), .int .i64 (Y1 : Int)] 95 (0, 0))) := ⟨two_fst HBB.out.1 _, (Below.heap_setCell _ _ _ _ (by have h1 := HBL.out; have h2 := HBH.out; show bh ≠ bl; omega)).trans HBB.out.2⟩
            have HF0' : Hid (Fr (fun k => k = bl ∨ k = bh) w5 (wr.setCell ⟨bl, 0, none⟩ (.int .i64 (p.1 : Int)))) := HFZ.out.setCell (p := ⟨bl, 0, none⟩) (fun _ => Or.inl rfl) _
            go_upto_region 22 with (fail)
            clear c0 c1 c2 c3 c4 c5 zf0
            generalize (wr.setCell ⟨bl, 0, none⟩ (.int .i64 (p.1 : Int))) = wn0 at *
            have HK1 : Hid (∀ w', Fr (fun _ => False) wn0 w' → w'.cell? ⟨gl, k * 2, none⟩ = some (.int .i64 (p.1 : Int)) ∧ w'.cell? ⟨gl, k * 2 + 1, none⟩ = some (.int .i64 (p.2 : Int)) ∧ w'.cell? ⟨bl, 0, none⟩ = some (.int .i64 (p.1 : Int)) ∧ w'.cell? ⟨bl, 1, none⟩ = some (.int .i64 (y : Int)) ∧ w'.cell? ⟨bh, 0, none⟩ = some (.int .i64 (X1 : Int)) ∧ w'.cell? ⟨bh, 1, none⟩ = some (.int .i64 (Y1 : Int))) := fun w' f => by
              obtain ⟨d0, d1⟩ := HDK.out w' (HF0'.out.trans f (fun _ _ h => h.elim))
              obtain ⟨e0, e1, _⟩ := cell_of_two ((f.block _ (lt_of_block HB0'.out.1) (fun h => h)).trans HB0'.out.1)
              obtain ⟨e2, e3, _⟩ := cell_of_two ((f.block _ (lt_of_block HB0'.out.2) (fun h => h)).trans HB0'.out.2)
              exact ⟨d0, d1, e0, e1, e2, e3⟩
            obtain ⟨c0, c1, c2, c3, c4, c5⟩ := HK1.out wn0 (Fr.refl _ _)
            by_cases q1 : X1 < p.1
            · have e11 : decide ((X1 : Int) < (p.1 : Int)) = true := decide_eq_true (by omega)
              have e21 : decide (X1 < p.1) = true := decide_eq_true q1
              go_upto_region 22 with (fail)
              go_region_held3 (fun w' => w'.cell? ⟨gl, k * 2, none⟩ = some (.int .i64 (p.1 : Int)) ∧ w'.cell? ⟨gl, k * 2 + 1, none⟩ = some (.int .i64 (p.2 : Int)) ∧ w'.cell? ⟨bl, 0, none⟩ = some (.int .i64 (p.1 : Int)) ∧ w'.cell? ⟨bl, 1, none⟩ = some (.int .i64 (y : Int)) ∧ w'.cell? ⟨bh, 0, none⟩ = some (.int .i64 (X1 : Int)) ∧ w'.cell? ⟨bh, 1, none⟩ = some (.int .i64 (Y1 : Int))) (exact HK1.out _ (by repeat (first | with_reducible exact Fr.refl _ _ | with_reducible refine Fr.drew ?_))) (fail)
              have zf1 := (cell_of_two HB0'.out.2).2.2 0
              have HB1' : Hid ((wn0.setCell ⟨bh, 0, none⟩ (.int .i64 (p.1 : Int))).heap[bl]? = some (.cells #[.int .i64 (p.1 : Int), .int .i64 (y : Int)] 95 (0, 0)) ∧ (wn0.setCell ⟨bh, 0, none⟩ (.int .i64 (p.1 : Int))).heap[bh]? = some (.cells #[.int .i64 (p.1 : Int), .int .i64 (Y1 : Int)] 95 (0, 0))) := ⟨(Below.heap_setCell _ _ _ _ (by have h1 := HBL.out; have h2 := HBH.out; show bl ≠ bh; omega)).trans HB0'.out.1, two_fst HB0'.out.2 _⟩
              have HF1' : Hid (Fr (fun k => k = bl ∨ k = bh) w5 (wn0.setCell ⟨bh, 0, none⟩ (.int .i64 (p.1 : Int)))) := HF0'.out.setCell (p := ⟨bh, 0, none⟩) (fun _ => Or.inr rfl) _
              go_upto_region 24 with (fail)
              clear c0 c1 c2 c3 c4 c5 zf1
              generalize (wn0.setCell ⟨bh, 0, none⟩ (.int .i64 (p.1 : Int))) = wn1 at *
              have HK2 : Hid (∀ w', Fr (fun _ => False) wn1 w' → w'.cell? ⟨gl, k * 2, none⟩ = some (.int .i64 (p.1 : Int)) ∧ w'.cell? ⟨gl, k * 2 + 1, none⟩ = some (.int .i64 (p.2 : Int)) ∧ w'.cell? ⟨bl, 0, none⟩ = some (.int .i64 (p.1 : Int)) ∧ w'.cell? ⟨bl, 1, none⟩ = some (.int .i64 (y : Int)) ∧ w'.cell? ⟨bh, 0, none⟩ = some (.int .i64 (p.1 : Int)) ∧ w'.cell? ⟨bh, 1, none⟩ = some (.int .i64 (Y1 : Int))) := fun w' f => by
                obtain ⟨d0, d1⟩ := HDK.out w' (HF1'.out.trans f (fun _ _ h => h.elim))
                obtain ⟨e0, e1, _⟩ := cell_of_two ((f.block _ (lt_of_block HB1'.out.1) (fun h => h)).trans HB1'.out.1)
                obtain ⟨e2, e3, _⟩ := cell_of_two ((f.block _ (lt_of_block HB1'.out.2) (fun h => h)).trans HB1'.out.2)
                exact ⟨d0, d1, e0, e1, e2, e3⟩
              obtain ⟨c0, c1, c2, c3, c4, c5⟩ := HK2.out wn1 (Fr.refl _ _)
              by_cases q2 : Y1 < p.2
              · have e12 : decide ((Y1 : Int) < (p.2 : Int)) = true := decide_eq_true (by omega)
                have e22 : decide (Y1 < p.2) = true := decide_eq_true q2
                go_upto_region 24 with (fail)
                go_region_held3 (fun w' => w'.cell? ⟨gl, k * 2, none⟩ = some (.int .i64 (p.1 : Int)) ∧ w'.cell? ⟨gl, k * 2 + 1, none⟩ = some (.int .i64 (p.2 : Int)) ∧ w'.cell? ⟨bl, 0, none⟩ = some (.int .i64 (p.1 : Int)) ∧ w'.cell? ⟨bl, 1, none⟩ = some (.int .i64 (y : Int)) ∧ w'.cell? ⟨bh, 0, none⟩ = some (.int .i64 (p.1 : Int)) ∧ w'.cell? ⟨bh, 1, none⟩ = some (.int .i64 (Y1 : Int))) (exact HK2.out _ (by repeat (first | with_reducible exact Fr.refl _ _ | with_reducible refine Fr.drew ?_))) (fail)
                have zf2 := (cell_of_two HB1'.out.2).2.2 1
                have HB2' : Hid ((wn1.setCell ⟨bh, 1, none⟩ (.int .i64 (p.2 : Int))).heap[bl]? = some (.cells #[.int .i64 (p.1 : Int), .int .i64 (y : Int)] 95 (0, 0)) ∧ (wn1.setCell ⟨bh, 1, none⟩ (.int .i64 (p.2 : Int))).heap[bh]? = some (.cells #[.int .i64 (p.1 : Int), .int .i64 (p.2 : Int)] 95 (0, 0))) := ⟨(Below.heap_setCell _ _ _ _ (by have h1 := HBL.out; have h2 := HBH.out; show bl ≠ bh; omega)).trans HB1'.out.1, two_snd HB1'.out.2 _⟩
                have HF2' : Hid (Fr (fun k => k = bl ∨ k = bh) w5 (wn1.setCell ⟨bh, 1, none⟩ (.int .i64 (p.2 : Int)))) := HF1'.out.setCell (p := ⟨bh, 1, none⟩) (fun _ => Or.inr rfl) _
                go_upto_region 19 with (fail)
                clear c0 c1 c2 c3 c4 c5 zf2
                generalize (wn1.setCell ⟨bh, 1, none⟩ (.int .i64 (p.2 : Int))) = wn2 at *
                go_wp2_with fail
                go_roundw
                case rel => exact ⟨k + 1, p.1, p.1, p.2, by go_num, by omega, by omega, by have h := HNX.out; rw [Nat.min_eq_right (by omega : p.1 ≤ X0)] at h; rw [Nat.max_eq_right (by omega : X1 ≤ p.1)] at h; rw [Nat.max_eq_right (by omega : Y1 ≤ p.2)] at h; exact h, HB2'.out.1, HB2'.out.2, by repeat (first | exact HF2'.out | refine Fr.drew ?_)⟩
                case measure => simp [intOf]; omega
              · have e12 : decide ((Y1 : Int) < (p.2 : Int)) = false := decide_eq_false (by omega)
                have e22 : decide (Y1 < p.2) = false := decide_eq_false q2
                go_upto_region 24 with (fail)
                go_region_held3 (fun w' => w'.cell? ⟨gl, k * 2, none⟩ = some (.int .i64 (p.1 : Int)) ∧ w'.cell? ⟨gl, k * 2 + 1, none⟩ = some (.int .i64 (p.2 : Int)) ∧ w'.cell? ⟨bl, 0, none⟩ = some (.int .i64 (p.1 : Int)) ∧ w'.cell? ⟨bl, 1, none⟩ = some (.int .i64 (y : Int)) ∧ w'.cell? ⟨bh, 0, none⟩ = some (.int .i64 (p.1 : Int)) ∧ w'.cell? ⟨bh, 1, none⟩ = some (.int .i64 (Y1 : Int))) (exact HK2.out _ (by repeat (first | with_reducible exact Fr.refl _ _ | with_reducible refine Fr.drew ?_))) (fail)
                go_upto_region 19 with (fail)
                clear c0 c1 c2 c3 c4 c5
                go_wp2_with fail
                go_roundw
                case rel => exact ⟨k + 1, p.1, p.1, Y1, by go_num, by omega, by omega, by have h := HNX.out; rw [Nat.min_eq_right (by omega : p.1 ≤ X0)] at h; rw [Nat.max_eq_right (by omega : X1 ≤ p.1)] at h; rw [Nat.max_eq_left (by omega : p.2 ≤ Y1)] at h; exact h, HB1'.out.1, HB1'.out.2, by repeat (first | exact HF1'.out | refine Fr.drew ?_)⟩
                case measure => simp [intOf]; omega
            · have e11 : decide ((X1 : Int) < (p.1 : Int)) = false := decide_eq_false (by omega)
              have e21 : decide (X1 < p.1) = false := decide_eq_false q1
              go_upto_region 22 with (fail)
              go_region_held3 (fun w' => w'.cell? ⟨gl, k * 2, none⟩ = some (.int .i64 (p.1 : Int)) ∧ w'.cell? ⟨gl, k * 2 + 1, none⟩ = some (.int .i64 (p.2 : Int)) ∧ w'.cell? ⟨bl, 0, none⟩ = some (.int .i64 (p.1 : Int)) ∧ w'.cell? ⟨bl, 1, none⟩ = some (.int .i64 (y : Int)) ∧ w'.cell? ⟨bh, 0, none⟩ = some (.int .i64 (X1 : Int)) ∧ w'.cell? ⟨bh, 1, none⟩ = some (.int .i64 (Y1 : Int))) (exact HK1.out _ (by repeat (first | with_reducible exact Fr.refl _ _ | with_reducible refine Fr.drew ?_))) (fail)
              go_upto_region 24 with (fail)
              clear c0 c1 c2 c3 c4 c5
              have HK2 : Hid (∀ w', Fr (fun _ => False) wn0 w' → w'.cell? ⟨gl, k * 2, none⟩ = some (.int .i64 (p.1 : Int)) ∧ w'.cell? ⟨gl, k * 2 + 1, none⟩ = some (.int .i64 (p.2 : Int)) ∧ w'.cell? ⟨bl, 0, none⟩ = some (.int .i64 (p.1 : Int)) ∧ w'.cell? ⟨bl, 1, none⟩ = some (.int .i64 (y : Int)) ∧ w'.cell? ⟨bh, 0, none⟩ = some (.int .i64 (X1 : Int)) ∧ w'.cell? ⟨bh, 1, none⟩ = some (.int .i64 (Y1 : Int))) := fun w' f => by
                obtain ⟨d0, d1⟩ := HDK.out w' (HF0'.out.trans f (fun _ _ h => h.elim))
                obtain ⟨e0, e1, _⟩ := cell_of_two ((f.block _ (lt_of_block HB0'.out.1) (fun h => h)).trans HB0'.out.1)
                obtain ⟨e2, e3, _⟩ := cell_of_two ((f.block _ (lt_of_block HB0'.out.2) (fun h => h)).trans HB0'.out.2)
                exact ⟨d0, d1, e0, e1, e2, e3⟩
              obtain ⟨c0, c1, c2, c3, c4, c5⟩ := HK2.out wn0 (Fr.refl _ _)
              by_cases q2 : Y1 < p.2
              · have e12 : decide ((Y1 : Int) < (p.2 : Int)) = true := decide_eq_true (by omega)
                have e22 : decide (Y1 < p.2) = true := decide_eq_true q2
                go_upto_region 24 with (fail)
                go_region_held3 (fun w' => w'.cell? ⟨gl, k * 2, none⟩ = some (.int .i64 (p.1 : Int)) ∧ w'.cell? ⟨gl, k * 2 + 1, none⟩ = some (.int .i64 (p.2 : Int)) ∧ w'.cell? ⟨bl, 0, none⟩ = some (.int .i64 (p.1 : Int)) ∧ w'.cell? ⟨bl, 1, none⟩ = some (.int .i64 (y : Int)) ∧ w'.cell? ⟨bh, 0, none⟩ = some (.int .i64 (X1 : Int)) ∧ w'.cell? ⟨bh, 1, none⟩ = some (.int .i64 (Y1 : Int))) (exact HK2.out _ (by repeat (first | with_reducible exact Fr.refl _ _ | with_reducible refine Fr.drew ?_))) (fail)
                have zf2 := (cell_of_two HB0'.out.2).2.2 1
                have HB2' : Hid ((wn0.setCell ⟨bh, 1, none⟩ (.int .i64 (p.2 : Int))).heap[bl]? = some (.cells #[.int .i64 (p.1 : Int), .int .i64 (y : Int)] 95 (0, 0)) ∧ (wn0.setCell ⟨bh, 1, none⟩ (.int .i64 (p.2 : Int))).heap[bh]? = some (.cells #[.int .i64 (X1 : Int), .int .i64 (p.2 : Int)] 95 (0, 0))) := ⟨(Below.heap_setCell _ _ _ _ (by have h1 := HBL.out; have h2 := HBH.out; show bl ≠ bh; omega)).trans HB0'.out.1, two_snd HB0'.out.2 _⟩
                have HF2' : Hid (Fr (fun k => k = bl ∨ k = bh) w5 (wn0.setCell ⟨bh, 1, none⟩ (.int .i64 (p.2 : Int)))) := HF0'.out.setCell (p := ⟨bh, 1, none⟩) (fun _ => Or.inr rfl) _
                go_upto_region 19 with (fail)
                clear c0 c1 c2 c3 c4 c5 zf2
                generalize (wn0.setCell ⟨bh, 1, none⟩ (.int .i64 (p.2 : Int))) = wn2 at *
                go_wp2_with fail
                go_roundw
                case rel => exact ⟨k + 1, p.1, X1, p.2, by go_num, by omega, by omega, by have h := HNX.out; rw [Nat.min_eq_right (by omega : p.1 ≤ X0)] at h; rw [Nat.max_eq_left (by omega : p.1 ≤ X1)] at h; rw [Nat.max_eq_right (by omega : Y1 ≤ p.2)] at h; exact h, HB2'.out.1, HB2'.out.2, by repeat (first | exact HF2'.out | refine Fr.drew ?_)⟩
                case measure => simp [intOf]; omega
              · have e12 : decide ((Y1 : Int) < (p.2 : Int)) = false := decide_eq_false (by omega)
                have e22 : decide (Y1 < p.2) = false := decide_eq_false q2
                go_upto_region 24 with (fail)
                go_region_held3 (fun w' => w'.cell? ⟨gl, k * 2, none⟩ = some (.int .i64 (p.1 : Int)) ∧ w'.cell? ⟨gl, k * 2 + 1, none⟩ = some (.int .i64 (p.2 : Int)) ∧ w'.cell? ⟨bl, 0, none⟩ = some (.int .i64 (p.1 : Int)) ∧ w'.cell? ⟨bl, 1, none⟩ = some (.int .i64 (y : Int)) ∧ w'.cell? ⟨bh, 0, none⟩ = some (.int .i64 (X1 : Int)) ∧ w'.cell? ⟨bh, 1, none⟩ = some (.int .i64 (Y1 : Int))) (exact HK2.out _ (by repeat (first | with_reducible exact Fr.refl _ _ | with_reducible refine Fr.drew ?_))) (fail)
                go_upto_region 19 with (fail)
                clear c0 c1 c2 c3 c4 c5
                go_wp2_with fail
                go_roundw
                case rel => exact ⟨k + 1, p.1, X1, Y1, by go_num, by omega, by omega, by have h := HNX.out; rw [Nat.min_eq_right (by omega : p.1 ≤ X0)] at h; rw [Nat.max_eq_left (by omega : p.1 ≤ X1)] at h; rw [Nat.max_eq_left (by omega : p.2 ≤ Y1)] at h; exact h, HB0'.out.1, HB0'.out.2, by repeat (first | exact HF0'.out | refine Fr.drew ?_)⟩
                case measure => simp [intOf]; omega
          · have e10 : decide ((p.1 : Int) < (X0 : Int)) = false := decide_eq_false (by omega)
            have e20 : decide (p.1 < X0) = false := decide_eq_false q0
            go_upto_region 20 with (fail)
            go_region_held3 (fun w' => w'.cell? ⟨gl, k * 2, none⟩ = some (.int .i64 (p.1 : Int)) ∧ w'.cell? ⟨gl, k * 2 + 1, none⟩ = some (.int .i64 (p.2 : Int)) ∧ w'.cell? ⟨bl, 0, none⟩ = some (.int .i64 (X0 : Int)) ∧ w'.cell? ⟨bl, 1, none⟩ = some (.int .i64 (y : Int)) ∧ w'.cell? ⟨bh, 0, none⟩ = some (.int .i64 (X1 : Int)) ∧ w'.cell? ⟨bh, 1, none⟩ = some (.int .i64 (Y1 : Int))) (exact HK0.out _ (by repeat (first | with_reducible exact Fr.refl _ _ | with_reducible refine Fr.drew ?_))) (fail)
            go_upto_region 22 with (fail)
            clear c0 c1 c2 c3 c4 c5
            have HK1 : Hid (∀ w', Fr (fun _ => False) wr w' → w'.cell? ⟨gl, k * 2, none⟩ = some (.int .i64 (p.1 : Int)) ∧ w'.cell? ⟨gl, k * 2 + 1, none⟩ = some (.int .i64 (p.2 : Int)) ∧ w'.cell? ⟨bl, 0, none⟩ = some (.int .i64 (X0 : Int)) ∧ w'.cell? ⟨bl, 1, none⟩ = some (.int .i64 (y : Int)) ∧ w'.cell? ⟨bh, 0, none⟩ = some (.int .i64 (X1 : Int)) ∧ w'.cell? ⟨bh, 1, none⟩ = some (.int .i64 (Y1 : Int))) := fun w' f => by
              obtain ⟨d0, d1⟩ := HDK.out w' (HFZ.out.trans f (fun _ _ h => h.elim))
              obtain ⟨e0, e1, _⟩ := cell_of_two ((f.block _ (lt_of_block HBB.out.1) (fun h => h)).trans HBB.out.1)
              obtain ⟨e2, e3, _⟩ := cell_of_two ((f.block _ (lt_of_block HBB.out.2) (fun h => h)).trans HBB.out.2)
              exact ⟨d0, d1, e0, e1, e2, e3⟩
            obtain ⟨c0, c1, c2, c3, c4, c5⟩ := HK1.out wr (Fr.refl _ _)
            by_cases q1 : X1 < p.1
            · have e11 : decide ((X1 : Int) < (p.1 : Int)) = true := decide_eq_true (by omega)
              have e21 : decide (X1 < p.1) = true := decide_eq_true q1
              go_upto_region 22 with (fail)
              go_region_held3 (fun w' => w'.cell? ⟨gl, k * 2, none⟩ = some (.int .i64 (p.1 : Int)) ∧ w'.cell? ⟨gl, k * 2 + 1, none⟩ = some (.int .i64 (p.2 : Int)) ∧ w'.cell? ⟨bl, 0, none⟩ = some (.int .i64 (X0 : Int)) ∧ w'.cell? ⟨bl, 1, none⟩ = some (.int .i64 (y : Int)) ∧ w'.cell? ⟨bh, 0, none⟩ = some (.int .i64 (X1 : Int)) ∧ w'.cell? ⟨bh, 1, none⟩ = some (.int .i64 (Y1 : Int))) (exact HK1.out _ (by repeat (first | with_reducible exact Fr.refl _ _ | with_reducible refine Fr.drew ?_))) (fail)
              have zf1 := (cell_of_two HBB.out.2).2.2 0
              have HB1' : Hid ((wr.setCell ⟨bh, 0, none⟩ (.int .i64 (p.1 : Int))).heap[bl]? = some (.cells #[.int .i64 (X0 : Int), .int .i64 (y : Int)] 95 (0, 0)) ∧ (wr.setCell ⟨bh, 0, none⟩ (.int .i64 (p.1 : Int))).heap[bh]? = some (.cells #[.int .i64 (p.1 : Int), .int .i64 (Y1 : Int)] 95 (0, 0))) := ⟨(Below.heap_setCell _ _ _ _ (by have h1 := HBL.out; have h2 := HBH.out; show bl ≠ bh; omega)).trans HBB.out.1, two_fst HBB.out.2 _⟩
              have HF1' : Hid (Fr (fun k => k = bl ∨ k = bh) w5 (wr.setCell ⟨bh, 0, none⟩ (.int .i64 (p.1 : Int)))) := HFZ.out.setCell (p := ⟨bh, 0, none⟩) (fun _ => Or.inr rfl) _
              go_upto_region 24 with (fail)
              clear c0 c1 c2 c3 c4 c5 zf1
              generalize (wr.setCell ⟨bh, 0, none⟩ (.int .i64 (p.1 : Int))) = wn1 at *
              have HK2 : Hid (∀ w', Fr (fun _ => False) wn1 w' → w'.cell? ⟨gl, k * 2, none⟩ = some (.int .i64 (p.1 : Int)) ∧ w'.cell? ⟨gl, k * 2 + 1, none⟩ = some (.int .i64 (p.2 : Int)) ∧ w'.cell? ⟨bl, 0, none⟩ = some (.int .i64 (X0 : Int)) ∧ w'.cell? ⟨bl, 1, none⟩ = some (.int .i64 (y : Int)) ∧ w'.cell? ⟨bh, 0, none⟩ = some (.int .i64 (p.1 : Int)) ∧ w'.cell? ⟨bh, 1, none⟩ = some (.int .i64 (Y1 : Int))) := fun w' f => by
                obtain ⟨d0, d1⟩ := HDK.out w' (HF1'.out.trans f (fun _ _ h => h.elim))
                obtain ⟨e0, e1, _⟩ := cell_of_two ((f.block _ (lt_of_block HB1'.out.1) (fun h => h)).trans HB1'.out.1)
                obtain ⟨e2, e3, _⟩ := cell_of_two ((f.block _ (lt_of_block HB1'.out.2) (fun h => h)).trans HB1'.out.2)
                exact ⟨d0, d1, e0, e1, e2, e3⟩
              obtain ⟨c0, c1, c2, c3, c4, c5⟩ := HK2.out wn1 (Fr.refl _ _)
              by_cases q2 : Y1 < p.2
              · have e12 : decide ((Y1 : Int) < (p.2 : Int)) = true := decide_eq_true (by omega)
                have e22 : decide (Y1 < p.2) = true := decide_eq_true q2
                go_upto_region 24 with (fail)
                go_region_held3 (fun w' => w'.cell? ⟨gl, k * 2, none⟩ = some (.int .i64 (p.1 : Int)) ∧ w'.cell? ⟨gl, k * 2 + 1, none⟩ = some (.int .i64 (p.2 : Int)) ∧ w'.cell? ⟨bl, 0, none⟩ = some (.int .i64 (X0 : Int)) ∧ w'.cell? ⟨bl, 1, none⟩ = some (.int .i64 (y : Int)) ∧ w'.cell? ⟨bh, 0, none⟩ = some (.int .i64 (p.1 : Int)) ∧ w'.cell? ⟨bh, 1, none⟩ = some (.int .i64 (Y1 : Int))) (exact HK2.out _ (by repeat (first | with_reducible exact Fr.refl _ _ | with_reducible refine Fr.drew ?_))) (fail)
                have zf2 := (cell_of_two HB1'.out.2).2.2 1
                have HB2' : Hid ((wn1.setCell ⟨bh, 1, none⟩ (.int .i64 (p.2 : Int))).heap[bl]? = some (.cells #[.int .i64 (X0 : Int), .int .i64 (y : Int)] 95 (0, 0)) ∧ (wn1.setCell ⟨bh, 1, none⟩ (.int .i64 (p.2 : Int))).heap[bh]? = some (.cells #[.int .i64 (p.1 : Int), .int .i64 (p.2 : Int)] 95 (0, 0))) := ⟨(Below.heap_setCell _ _ _ _ (by have h1 := HBL.out; have h2 := HBH.out; show bl ≠ bh; omega)).trans HB1'.out.1, two_snd HB1'.out.2 _⟩
                have HF2' : Hid (Fr (fun k => k = bl ∨ k = bh) w5 (wn1.setCell ⟨bh, 1, none⟩ (.int .i64 (p.2 : Int)))) := HF1'.out.setCell (p := ⟨bh, 1, none⟩) (fun _ => Or.inr rfl) _
                go_upto_region 19 with (fail)
                clear c0 c1 c2 c3 c4 c5 zf2
                generalize (wn1.setCell ⟨bh, 1, none⟩ (.int .i64 (p.2 : Int))) = wn2 at *
                go_wp2_with fail
                go_roundw
                case rel => exact ⟨k + 1, X0, p.1, p.2, by go_num, by omega, by omega, by have h := HNX.out; rw [Nat.min_eq_left (by omega : X0 ≤ p.1)] at h; rw [Nat.max_eq_right (by omega : X1 ≤ p.1)] at h; rw [Nat.max_eq_right (by omega : Y1 ≤ p.2)] at h; exact h, HB2'.out.1, HB2'.out.2, by repeat (first | exact HF2'.out | refine Fr.drew ?_)⟩
                case measure => simp [intOf]; omega
              · have e12 : decide ((Y1 : Int) < (p.2 : Int)) = false := decide_eq_false (by omega)
                have e22 : decide (Y1 < p.2) = false := decide_eq_false q2
                go_upto_region 24 with (fail)
                go_region_held3 (fun w' => w'.cell? ⟨gl, k * 2, none⟩ = some (.int .i64 (p.1 : Int)) ∧ w'.cell? ⟨gl, k * 2 + 1, none⟩ = some (.int .i64 (p.2 : Int)) ∧ w'.cell? ⟨bl, 0, none⟩ = some (.int .i64 (X0 : Int)) ∧ w'.cell? ⟨bl, 1, none⟩ = some (.int .i64 (y : Int)) ∧ w'.cell? ⟨bh, 0, none⟩ = some (.int .i64 (p.1 : Int)) ∧ w'.cell? ⟨bh, 1, none⟩ = some (.int .i64 (Y1 : Int))) (exact HK2.out _ (by repeat (first | with_reducible exact Fr.refl _ _ | with_reducible refine Fr.drew ?_))) (fail)
                go_upto_region 19 with (fail)
                clear c0 c1 c2 c3 c4 c5
                go_wp2_with fail
                go_roundw
                case rel => exact ⟨k + 1, X0, p.1, Y1, by go_num, by omega, by omega, by have h := HNX.out; rw [Nat.min_eq_left (by omega : X0 ≤ p.1)] at h; rw [Nat.max_eq_right (by omega : X1 ≤ p.1)] at h; rw [Nat.max_eq_left (by omega : p.2 ≤ Y1)] at h; exact h, HB1'.out.1, HB1'.out.2, by repeat (first | exact HF1'.out | refine Fr.drew ?_)⟩
                case measure => simp [intOf]; omega
            · have e11 : decide ((X1 : Int) < (p.1 : Int)) = false := decide_eq_false (by omega)
              have e21 : decide (X1 < p.1) = false := decide_eq_false q1
              go_upto_region 22 with (fail)
              go_region_held3 (fun w' => w'.cell? ⟨gl, k * 2, none⟩ = some (.int .i64 (p.1 : Int)) ∧ w'.cell? ⟨gl, k * 2 + 1, none⟩ = some (.int .i64 (p.2 : Int)) ∧ w'.cell? ⟨bl, 0, none⟩ = some (.int .i64 (X0 : Int)) ∧ w'.cell? ⟨bl, 1, none⟩ = some (.int .i64 (y : Int)) ∧ w'.cell? ⟨bh, 0, none⟩ = some (.int .i64 (X1 : Int)) ∧ w'.cell? ⟨bh, 1, none⟩ = some (.int .i64 (Y1 : Int))) (exact HK1.out _ (by repeat (first | with_reducible exact Fr.refl _ _ | with_reducible refine Fr.drew ?_))) (fail)
              go_upto_region 24 with (fail)
              clear c0 c1 c2 c3 c4 c5
              have HK2 : Hid (∀ w', Fr (fun _ => False) wr w' → w'.cell? ⟨gl, k * 2, none⟩ = some (.int .i64 (p.1 : Int)) ∧ w'.cell? ⟨gl, k * 2 + 1, none⟩ = some (.int .i64 (p.2 : Int)) ∧ w'.cell? ⟨bl, 0, none⟩ = some (.int .i64 (X0 : Int)) ∧ w'.cell? ⟨bl, 1, none⟩ = some (.int .i64 (y : Int)) ∧ w'.cell? ⟨bh, 0, none⟩ = some (.int .i64 (X1 : Int)) ∧ w'.cell? ⟨bh, 1, none⟩ = some (.int .i64 (Y1 : Int))) := fun w' f => by
                obtain ⟨d0, d1⟩ := HDK.out w' (HFZ.out.trans f (fun _ _ h => h.elim))
                obtain ⟨e0, e1, _⟩ := cell_of_two ((f.block _ (lt_of_block HBB.out.1) (fun h => h)).trans HBB.out.1)
                obtain ⟨e2, e3, _⟩ := cell_of_two ((f.block _ (lt_of_block HBB.out.2) (fun h => h)).trans HBB.out.2)
                exact ⟨d0, d1, e0, e1, e2, e3⟩
              obtain ⟨c0, c1, c2, c3, c4, c5⟩ := HK2.out wr (Fr.refl _ _)
              by_cases q2 : Y1 < p.2
              · have e12 : decide ((Y1 : Int) < (p.2 : Int)) = true := decide_eq_true (by omega)
                have e22 : decide (Y1 < p.2) = true := decide_eq_true q2
                go_upto_region 24 with (fail)
                go_region_held3 (fun w' => w'.cell? ⟨gl, k * 2, none⟩ = some (.int .i64 (p.1 : Int)) ∧ w'.cell? ⟨gl, k * 2 + 1, none⟩ = some (.int .i64 (p.2 : Int)) ∧ w'.cell? ⟨bl, 0, none⟩ = some (.int .i64 (X0 : Int)) ∧ w'.cell? ⟨bl, 1, none⟩ = some (.int .i64 (y : Int)) ∧ w'.cell? ⟨bh, 0, none⟩ = some (.int .i64 (X1 : Int)) ∧ w'.cell? ⟨bh, 1, none⟩ = some (.int .i64 (Y1 : Int))) (exact HK2.out _ (by repeat (first | with_reducible exact Fr.refl _ _ | with_reducible refine Fr.drew ?_))) (fail)
                have zf2 := (cell_of_two HBB.out.2).2.2 1
                have HB2' : Hid ((wr.setCell ⟨bh, 1, none⟩ (.int .i64 (p.2 : Int))).heap[bl]? = some (.cells #[.int .i64 (X0 : Int), .int .i64 (y : Int)] 95 (0, 0)) ∧ (wr.setCell ⟨bh, 1, none⟩ (.int .i64 (p.2 : Int))).heap[bh]? = some (.cells #[.int .i64 (X1 : Int), .int .i64 (p.2 : Int)] 95 (0, 0))) := ⟨(Below.heap_setCell _ _ _ _ (by have h1 := HBL.out; have h2 := HBH.out; show bl ≠ bh; omega)).trans HBB.out.1, two_snd HBB.out.2 _⟩
                have HF2' : Hid (Fr (fun k => k = bl ∨ k = bh) w5 (wr.setCell ⟨bh, 1, none⟩ (.int .i64 (p.2 : Int)))) := HFZ.out.setCell (p := ⟨bh, 1, none⟩) (fun _ => Or.inr rfl) _
                go_upto_region 19 with (fail)
                clear c0 c1 c2 c3 c4 c5 zf2
                generalize (wr.setCell ⟨bh, 1, none⟩ (.int .i64 (p.2 : Int))) = wn2 at *
                go_wp2_with fail
                go_roundw
                case rel => exact ⟨k + 1, X0, X1, p.2, by go_num, by omega, by omega, by have h := HNX.out; rw [Nat.min_eq_left (by omega : X0 ≤ p.1)] at h; rw [Nat.max_eq_left (by omega : p.1 ≤ X1)] at h; rw [Nat.max_eq_right (by omega : Y1 ≤ p.2)] at h; exact h, HB2'.out.1, HB2'.out.2, by repeat (first | exact HF2'.out | refine Fr.drew ?_)⟩
                case measure => simp [intOf]; omega
              · have e12 : decide ((Y1 : Int) < (p.2 : Int)) = false := decide_eq_false (by omega)
                have e22 : decide (Y1 < p.2) = false := decide_eq_false q2
                go_upto_region 24 with (fail)
                go_region_held3 (fun w' => w'.cell? ⟨gl, k * 2, none⟩ = some (.int .i64 (p.1 : Int)) ∧ w'.cell? ⟨gl, k * 2 + 1, none⟩ = some (.int .i64 (p.2 : Int)) ∧ w'.cell? ⟨bl, 0, none⟩ = some (.int .i64 (X0 : Int)) ∧ w'.cell? ⟨bl, 1, none⟩ = some (.int .i64 (y : Int)) ∧ w'.cell? ⟨bh, 0, none⟩ = some (.int .i64 (X1 : Int)) ∧ w'.cell? ⟨bh, 1, none⟩ = some (.int .i64 (Y1 : Int))) (exact HK2.out _ (by repeat (first | with_reducible exact Fr.refl _ _ | with_reducible refine Fr.drew ?_))) (fail)
                go_upto_region 19 with (fail)
                clear c0 c1 c2 c3 c4 c5
                go_wp2_with fail
                go_roundw
                case rel => exact ⟨k + 1, X0, X1, Y1, by go_num, by omega, by omega, by have h := HNX.out; rw [Nat.min_eq_left (by omega : X0 ≤ p.1)] at h; rw [Nat.max_eq_left (by omega : p.1 ≤ X1)] at h; rw [Nat.max_eq_left (by omega : p.2 ≤ Y1)] at h; exact h, HBB.out.1, HBB.out.2, by repeat (first | exact HFZ.out | refine Fr.drew ?_)⟩
                case measure => simp [intOf]; omega
        · obtain rfl : k = l.length := by omega
          have d9 : decide (l.length < l.length) = false := decide_eq_false hkl
          have hx0 := HMM.out.le 0 (x, y) hl0 HL0.out
          have hXW : X1 < W := by
            obtain ⟨p, hp, e⟩ := HMM.out.b
            have := (HW.out.blk hp).1
            omega
          have hYH : Y1 < H := by
            obtain ⟨p, hp, e⟩ := HMM.out.c
            have := (HW.out.blk hp).2.1
            omega
          simp only at hx0
          have HNM : Hid (X0 ≤ x ∧ x ≤ X1 ∧ y ≤ Y1 ∧ X1 < W ∧ Y1 < H) := ⟨hx0.1, hx0.2.1, hx0.2.2, hXW, hYH⟩
          obtain ⟨V, hV⟩ : ∃ V, V = X1 - X0 + 1 := ⟨_, rfl⟩
          obtain ⟨U, hU⟩ : ∃ U, U = Y1 - y + 1 := ⟨_, rfl⟩
          have HVU : Hid (V = X1 - X0 + 1 ∧ U = Y1 - y + 1) := ⟨hV, hU⟩
          have hb := HB.out
          have HSV : Hid (1 ≤ V ∧ 1 ≤ U ∧ V * U ≤ 1048576) := ⟨by omega, by omega, Nat.le_trans (Nat.mul_le_mul (by omega : V ≤ W) (by omega : U ≤ H)) hb.2.2.1⟩
          have hw1 : IntKind.i64.wrap ((X1 : Int) - (X0 : Int)) = (X1 : Int) - (X0 : Int) := by rw [IntKind.wrap_i64]; omega
          have hw2 : IntKind.i64.wrap ((X1 : Int) - (X0 : Int) + 1) = (V : Int) := by rw [IntKind.wrap_i64]; omega
          have hw3 : IntKind.i64.wrap ((Y1 : Int) - (y : Int)) = (Y1 : Int) - (y : Int) := by rw [IntKind.wrap_i64]; omega
          have hw4 : IntKind.i64.wrap ((Y1 : Int) - (y : Int) + 1) = (U : Int) := by rw [IntKind.wrap_i64]; omega
          clear hb hV hU hx0 hXW hYH
          have HCB2 : Hid (∀ w', Fr (fun _ => False) wr w' → w'.cell? ⟨bl, 0, none⟩ = some (.int .i64 (X0 : Int)) ∧ w'.cell? ⟨bl, 1, none⟩ = some (.int .i64 (y : Int)) ∧ w'.cell? ⟨bh, 0, none⟩ = some (.int .i64 (X1 : Int)) ∧ w'.cell? ⟨bh, 1, none⟩ = some (.int .i64 (Y1 : Int))) := fun w' f => by
            obtain ⟨e0, e1, _⟩ := cell_of_two ((f.block _ (lt_of_block HBB.out.1) (fun h => h)).trans HBB.out.1)
            obtain ⟨e2, e3, _⟩ := cell_of_two ((f.block _ (lt_of_block HBB.out.2) (fun h => h)).trans HBB.out.2)
            exact ⟨e0, e1, e2, e3⟩
          have HWH : Hid (∀ w' : World, Calls Try.prog 30 #[.int .i64 (V : Int), .int .i64 (U : Int)] w' fun e w'' => ∃ g, e = .returned (.agg #[.int .i64 (V : Int), .int .i64 (U : Int), .slice (some ⟨g, 0, none⟩) (U * stride V) (U * stride V)]) ∧ RowAt w'' g (U * stride V) V U (fun _ _ => false) ∧ Fr (fun _ => False) w' w'' ∧ w'.heap.size ≤ g) := fun w' => zwhite_any V U w' HSV.out.1 HSV.out.2.1 HSV.out.2.2
          obtain ⟨c0, c1, c2, c3⟩ := HCB2.out wr (Fr.refl _ _)
          go_upto_region 26 with (fail)
          go_cut [14] from 143 to 160 (fun u wc => ∃ bp g2 : Nat, u = .pointer (some ⟨bp, 0, none⟩) ∧ wc.heap[bp]? = some (.cells #[.int .i64 (X0 : Int), .int .i64 (y : Int), .int .i64 (V : Int), .int .i64 (U : Int), .slice (some ⟨g2, 0, none⟩) (U * stride V) (U * stride V)] 34 (0, 0)) ∧ RowAt wc g2 (U * stride V) V U (fun _ _ => false) ∧ wr.heap.size ≤ bp ∧ wr.heap.size ≤ g2 ∧ Fr (fun _ => False) wr wc)
          case first =>
            go_region_held3 (fun w' => w'.cell? ⟨bl, 0, none⟩ = some (.int .i64 (X0 : Int)) ∧ w'.cell? ⟨bl, 1, none⟩ = some (.int .i64 (y : Int)) ∧ w'.cell? ⟨bh, 0, none⟩ = some (.int .i64 (X1 : Int)) ∧ w'.cell? ⟨bh, 1, none⟩ = some (.int .i64 (Y1 : Int))) (exact HCB2.out _ (by repeat (first | with_reducible refine Fr.setCell ?_ (fun hh => absurd hh (Nat.not_lt.2 (by first | exact Nat.le_refl _ | exact ks0))) _ | with_reducible refine Fr.alloc ?_ _ | with_reducible refine Fr.drew ?_ | with_reducible exact Fr.refl _ _ | with_reducible refine Fr.trans ?_ hf6 (fun _ _ hh => hh)))) (first | (go_at_call 30; refine (HWH.out _).mono ?_; rintro e w6 ⟨g2, rfl, hr6, hf6, hg6⟩; (have hs6 := hf6.size); (try have ks0 : wr.heap.size ≤ w6.heap.size := by simp at hs6; omega); (have hc6 := hf6.cells); (have hz6 := hf6.frozens)))
            · go_wp2_with fail
              go_meet
              have hsz : wr.heap.size ≤ w6.heap.size := hs6
              have hgz : wr.heap.size ≤ g2 := hg6
              have f6 : Fr (fun _ => False) wr w6 := (Fr.refl (fun _ => False) wr).drew.trans hf6 (fun _ _ h => h)
              exact ⟨w6.heap.size, g2, rfl, heap_alloc_new _ _, hr6.kept ((Fr.refl (fun _ => False) _).alloc _) (fun h => h), hsz, hgz, f6.alloc _⟩
            · go_wp2_with fail
              go_meet
              have hgz : wr.heap.size + 1 ≤ g2 := by have h := hg6; simp at h; omega
              have f6 : Fr (fun _ => False) wr w6 := ((Fr.refl (fun _ => False) wr).drew.alloc _).trans hf6 (fun _ _ h => h)
              have hz := hf6.block wr.heap.size (by simp) (fun h => h)
              have hz2 := hz.trans (heap_alloc_new wr.drew (.cells #[.int .i64 0, .int .i64 0, .int .i64 0, .int .i64 0, .slice none 0 0] 34))
              refine ⟨wr.heap.size, g2, rfl, five_all hz2, ?_, Nat.le_refl _, by omega, Fr.own5 f6 _ (Nat.le_refl _) _ _ _ _ _⟩
              exact hr6.kept ((((((Fr.refl (fun k => k = wr.heap.size) w6).setCell (p := ⟨wr.heap.size, 0, none⟩) (fun _ => rfl) _).setCell (p := ⟨wr.heap.size, 1, none⟩) (fun _ => rfl) _).setCell (p := ⟨wr.heap.size, 2, none⟩) (fun _ => rfl) _).setCell (p := ⟨wr.heap.size, 3, none⟩) (fun _ => rfl) _).setCell (p := ⟨wr.heap.size, 4, none⟩) (fun _ => rfl) _) (by omega)
          case' rest =>
            obtain ⟨bp, g2, rfl, hbp, hr2, hbp2, hg2, hfc⟩ := hcut
            have HBP : Hid (wc.heap[bp]? = some (.cells #[.int .i64 (X0 : Int), .int .i64 (y : Int), .int .i64 (V : Int), .int .i64 (U : Int), .slice (some ⟨g2, 0, none⟩) (U * stride V) (U * stride V)] 34 (0, 0))) := hbp
            have HR2 : Hid (RowAt wc g2 (U * stride V) V U (dotsP X0 y l 0)) := by rw [dotsP_zero]; exact hr2
            have HNE : Hid (bp ≠ g2) := fun e => by
              subst e
              rcases hr2.2 with ⟨e1, _⟩ | ⟨g1, c1, cur, e1, _, hg1, _⟩
              · cases e1
              · simp only [Value.slice.injEq, Option.some.injEq, Addr.mk.injEq] at e1
                obtain ⟨⟨rfl, _⟩, _⟩ := e1
                rw [hbp] at hg1
                simp at hg1
            have HFC : Hid (Fr (fun _ => False) wr wc) := hfc
            have HFE : Hid (Fr (fun k => k = bl ∨ k = bh) wE wr) := (HF5.out.mono (fun _ _ h => h.elim)).trans HFZ.out (fun _ _ h => h)
            have HGG : Hid (wE.heap.size + 2 ≤ g2 ∧ w1.heap.size ≤ wE.heap.size) := by
              have h1 := lt_of_block HBB.out.2
              have h2 := HBH.out
              have h3 := HW.out.fr.size
              show _ ∧ _
              omega
            clear hbp hr2 hbp2 hg2 hfc c0 c1 c2 c3 hw1 hw2 hw3 hw4
            obtain ⟨N2, HN2⟩ : ∃ N2, Hid (U * stride V = N2) := ⟨_, rfl⟩
            rw [HN2.out] at HBP HR2
            have HKR : Hid (∀ w', Fr (fun k => k = g2) wc w' → ∀ k p, l[k]? = some p → w'.cell? ⟨bp, 2, none⟩ = some (.int .i64 (V : Int)) ∧ w'.cell? ⟨bp, 3, none⟩ = some (.int .i64 (U : Int)) ∧ w'.cell? ⟨bp, 4, none⟩ = some (.slice (some ⟨g2, 0, none⟩) N2 N2) ∧ w'.cell? ⟨gl, k * 2, none⟩ = some (.int .i64 (p.1 : Int)) ∧ w'.cell? ⟨gl, k * 2 + 1, none⟩ = some (.int .i64 (p.2 : Int)) ∧ w'.cell? ⟨bl, 0, none⟩ = some (.int .i64 (X0 : Int)) ∧ w'.cell? ⟨bl, 1, none⟩ = some (.int .i64 (y : Int))) := fun w' f k p hp => by
              have h1 := HGG.out
              have h2 := HBL.out
              have h3 := HNE.out
              have hb := (f.block _ (lt_of_block HBP.out) (by omega)).trans HBP.out
              have hl := (f.block _ (lt_of_block ((HFC.out.block _ (lt_of_block HBB.out.1) (fun h => h)).trans HBB.out.1)) (by omega)).trans ((HFC.out.block _ (lt_of_block HBB.out.1) (fun h => h)).trans HBB.out.1)
              obtain ⟨e0, e1, _⟩ := cell_of_two hl
              have hd := HDC.out (fun k => k = bl ∨ k = bh ∨ k = g2) w' (((HFE.out.mono (fun _ _ h => h.elim Or.inl (fun h => Or.inr (Or.inl h)))).trans HFC.out (fun _ _ h => h.elim)).trans f (fun _ _ h => Or.inr (Or.inr h))) (fun k hk => by have := HBH.out; omega) k p hp
              refine ⟨?_, ?_, ?_, hd.1, hd.2, e0, e1⟩ <;> (unfold World.cell?; simp only [hb]; rfl)
            go_wp2_with fail
            go_loopw [15] (fun i wz => ∃ k : Nat, k ≤ l.length ∧ i = .int .i64 (k : Int) ∧ RowAt wz g2 N2 V U (dotsP X0 y l k) ∧ Fr (fun k => k = g2) wc wz) (fun i _ => l.length - (intOf i).toNat)
            case atStart => exact ⟨0, Nat.zero_le _, rfl, HR2.out, Fr.refl _ _⟩
            case round =>
              obtain ⟨k, hk, rfl, hrz, hfz⟩ := hrel
              have HRZ : Hid (RowAt wr g2 N2 V U (dotsP X0 y l k)) := hrz
              have HFZ2 : Hid (Fr (fun k => k = g2) wc wr) := hfz
              clear hrz hfz HR2
              by_cases hkl2 : k < l.length
              · have dk : decide (k < l.length) = true := decide_eq_true hkl2
                obtain ⟨p, hp⟩ : ∃ p, l[k]? = some p := ⟨_, List.getElem?_eq_getElem hkl2⟩
                have hm := HMM.out.le k p hkl2 hp
                have hvu := HVU.out
                have hnm := HNM.out
                have hpy : y ≤ p.2 := by
                  have h1 := HFI.out.2 p ((HALL.out p).2 (List.mem_of_getElem? hp))
                  unfold ras at h1
                  simp only at h1
                  omega
                obtain ⟨a0, ha0⟩ : ∃ a0, X0 + a0 = p.1 := ⟨p.1 - X0, by omega⟩
                obtain ⟨e0, he0⟩ : ∃ e0, y + e0 = p.2 := ⟨p.2 - y, by omega⟩
                have hb := HB.out
                have hw1 : IntKind.i64.wrap ((p.1 : Int) - (X0 : Int)) = (a0 : Int) := by rw [IntKind.wrap_i64]; omega
                have hw2 : IntKind.i64.wrap ((p.2 : Int) - (y : Int)) = (e0 : Int) := by rw [IntKind.wrap_i64]; omega
                have hw3 : IntKind.i64.wrap ((k : Int) + 1) = ((k + 1 : Nat) : Int) := by rw [IntKind.wrap_i64]; omega
                have HAE : Hid (a0 < V ∧ e0 < U) := by show _ ∧ _; omega
                have HPU : Hid (∀ w', Fr (fun _ => False) wr w' → Calls Try.prog 53 #[.agg #[.int .i64 (V : Int), .int .i64 (U : Int), .slice (some ⟨g2, 0, none⟩) N2 N2], .int .i64 (a0 : Int), .int .i64 (e0 : Int), .int .i64 1] w' fun e w'' => e = .returned (.tuple #[]) ∧ RowAt w'' g2 N2 V U (dotsP X0 y l (k + 1)) ∧ Fr (fun k => k = g2) w' w'') := fun w' f => by
                  have hs := HSV.out
                  have hae := HAE.out
                  have h := zput_any V U g2 N2 (dotsP X0 y l k) a0 e0 true w' (HRZ.out.kept f (fun h => h)) hs.1 hs.2.1 hs.2.2 hae.1 hae.2
                  rw [dotsP_next X0 y l hp ha0 he0, HN2.out] at h
                  exact h
                have HKC : Hid (∀ w', Fr (fun k => k = g2) wr w' → w'.cell? ⟨bp, 2, none⟩ = some (.int .i64 (V : Int)) ∧ w'.cell? ⟨bp, 3, none⟩ = some (.int .i64 (U : Int)) ∧ w'.cell? ⟨bp, 4, none⟩ = some (.slice (some ⟨g2, 0, none⟩) N2 N2) ∧ w'.cell? ⟨gl, k * 2, none⟩ = some (.int .i64 (p.1 : Int)) ∧ w'.cell? ⟨gl, k * 2 + 1, none⟩ = some (.int .i64 (p.2 : Int)) ∧ w'.cell? ⟨bl, 0, none⟩ = some (.int .i64 (X0 : Int)) ∧ w'.cell? ⟨bl, 1, none⟩ = some (.int .i64 (y : Int))) := fun w' f => HKR.out w' (HFZ2.out.trans f (fun _ _ h => h)) k p hp
                clear hm hvu hnm hpy ha0 he0 hb hp
                obtain ⟨c0, c1, c2, c3, c4, c5, c6⟩ := HKC.out wr (Fr.refl _ _)
                go_wp2_with fail
                go_region_held3 (fun w' => w'.cell? ⟨bp, 2, none⟩ = some (.int .i64 (V : Int)) ∧ w'.cell? ⟨bp, 3, none⟩ = some (.int .i64 (U : Int)) ∧ w'.cell? ⟨bp, 4, none⟩ = some (.slice (some ⟨g2, 0, none⟩) N2 N2) ∧ w'.cell? ⟨gl, k * 2, none⟩ = some (.int .i64 (p.1 : Int)) ∧ w'.cell? ⟨gl, k * 2 + 1, none⟩ = some (.int .i64 (p.2 : Int)) ∧ w'.cell? ⟨bl, 0, none⟩ = some (.int .i64 (X0 : Int)) ∧ w'.cell? ⟨bl, 1, none⟩ = some (.int .i64 (y : Int))) (exact HKC.out _ (by repeat (first | with_reducible exact Fr.refl _ _ | with_reducible refine Fr.drew ?_ | with_reducible refine Fr.trans ?_ hf8 (fun _ _ hh => hh)))) (first | (go_at_call 53; refine (HPU.out _ (by repeat (first | with_reducible exact Fr.refl _ _ | with_reducible refine Fr.drew ?_))).mono ?_; rintro e w8 ⟨rfl, hr8, hf8⟩))
                have hf : Fr (fun k => k = g2) wr w8 := by
                  refine Fr.trans ?_ hf8 (fun _ _ h => h)
                  repeat (first | with_reducible exact Fr.refl _ _ | with_reducible refine Fr.drew ?_)
                have HF8 : Hid (Fr (fun k => k = g2) wr w8) := hf
                have HR8 : Hid (RowAt w8 g2 N2 V U (dotsP X0 y l (k + 1))) := hr8
                clear hf hf8 hr8 c0 c1 c2 c3 c4 c5 c6
                go_wp2_with fail
                go_roundw
                case rel => exact ⟨k + 1, by omega, by go_num, HR8.out, HFZ2.out.trans HF8.out (fun _ _ h => h)⟩
                case measure => simp [intOf]; omega
              · obtain rfl : k = l.length := by omega
                have h1 := HGG.out
                have h2 := HBL.out
                have h3 := HBH.out
                have h4 := HNE.out
                have h5 := HSZ.out
                have h6 := HS0.out
                have h7 := HGL.out
                have hw5 := HFE.out.size
                have HAL2 : Hid (Fr (fun k => k = bl ∨ k = bh ∨ k = g2) wE wr) := ((HFE.out.mono (fun _ _ h => h.elim Or.inl (fun h => Or.inr (Or.inl h)))).trans HFC.out (fun _ _ h => h.elim)).trans HFZ2.out (fun _ _ h => Or.inr (Or.inr h))
                have HW1R : Hid (Fr (fun k => k = g) w1 wr) := HW.out.fr.trans HAL2.out (fun i hi e => by omega)
                have hbk := HCR.out wr HW1R.out
                have hbb := (HFZ2.out.block _ (lt_of_block HBP.out) (by omega)).trans HBP.out
                obtain ⟨k0, k1, k2, k3, k4⟩ := cell_of_fivex hbb
                obtain ⟨z0, z1, z2, z3, z4, zf⟩ := cell_of_fivez hbk
                have y0 := zf 0
                have y1 := zf 1
                have y2 := zf 2
                have y3 := zf 3
                have y4 := zf 4
                have hb5 := five_all (x' := .int .i64 (X0 : Int)) (y' := .int .i64 (y : Int)) (z' := .int .i64 (V : Int)) (u' := .int .i64 (U : Int)) (v' := .slice (some ⟨g2, 0, none⟩) N2 N2) hbk
                have f5 := (((((Fr.refl (fun k => k = s0 + 1) wr).setCell (p := ⟨s0 + 1, 0, none⟩) (fun _ => rfl) (.int .i64 (X0 : Int))).setCell (p := ⟨s0 + 1, 1, none⟩) (fun _ => rfl) (.int .i64 (y : Int))).setCell (p := ⟨s0 + 1, 2, none⟩) (fun _ => rfl) (.int .i64 (V : Int))).setCell (p := ⟨s0 + 1, 3, none⟩) (fun _ => rfl) (.int .i64 (U : Int))).setCell (p := ⟨s0 + 1, 4, none⟩) (fun _ => rfl) (.slice (some ⟨g2, 0, none⟩) N2 N2)
                have HF5' : Hid (Fr (fun k => k = s0 + 1) wr (((((wr.setCell ⟨s0 + 1, 0, none⟩ (.int .i64 (X0 : Int))).setCell ⟨s0 + 1, 1, none⟩ (.int .i64 (y : Int))).setCell ⟨s0 + 1, 2, none⟩ (.int .i64 (V : Int))).setCell ⟨s0 + 1, 3, none⟩ (.int .i64 (U : Int))).setCell ⟨s0 + 1, 4, none⟩ (.slice (some ⟨g2, 0, none⟩) N2 N2))) := f5
                have HNM2 : Hid (s0 + 1 < g2 ∧ g < s0 ∧ w.heap.size = s0 ∧ g ≠ bl ∧ g ≠ bh ∧ g ≠ g2) := by show _ ∧ _; omega
                clear h1 h2 h3 h4 h5 h6 h7 hw5 hbk hbb zf f5
                go_wp2_with fail
                generalize (((((wr.setCell ⟨s0 + 1, 0, none⟩ (.int .i64 (X0 : Int))).setCell ⟨s0 + 1, 1, none⟩ (.int .i64 (y : Int))).setCell ⟨s0 + 1, 2, none⟩ (.int .i64 (V : Int))).setCell ⟨s0 + 1, 3, none⟩ (.int .i64 (U : Int))).setCell ⟨s0 + 1, 4, none⟩ (.slice (some ⟨g2, 0, none⟩) N2 N2)) = w9 at *
                obtain ⟨m0, m1, m2, m3, m4⟩ := cell_of_fivex hb5
                (try simp only [Exit.inBlock, Exit.then])
                refine bodyPost_ret (v := .agg #[.int .i64 (X0 : Int), .int .i64 (y : Int), .int .i64 (V : Int), .int .i64 (U : Int), .slice (some ⟨g2, 0, none⟩) N2 N2]) (by simp [results, Try.results33, go_sem, m0, m1, m2, m3, m4]) rfl ?_
                have hnm := HNM2.out
                have hvu := HVU.out
                have hxx := HNM.out
                refine ⟨X0, V, U, g2, l, by rw [HN2.out], ?_, ⟨fun a e ha he => ?_, fun q hq => ?_, ?_, ?_, ?_, ?_⟩, HSV.out, HALL.out, ?_, ?_, ?_⟩
                · rw [HN2.out]
                  exact HRZ.out.kept HF5'.out (by omega)
                · show dotsP X0 y l l.length a e = true ↔ _
                  unfold dotsP
                  rw [List.take_length, decide_eq_true_eq]
                  exact (HALL.out _).symm
                · obtain ⟨i, hi, e⟩ := List.getElem_of_mem ((HALL.out q).1 hq)
                  have hm := HMM.out.le i q hi (by rw [List.getElem?_eq_getElem hi, e])
                  have h1 := HFI.out.2 q hq
                  unfold ras at h1
                  simp only at h1 ⊢
                  omega
                · obtain ⟨q, hq, e⟩ := HMM.out.a
                  exact ⟨q, (HALL.out q).2 hq, e⟩
                · obtain ⟨q, hq, e⟩ := HMM.out.b
                  exact ⟨q, (HALL.out q).2 hq, by simp only; omega⟩
                · exact ⟨(x, y), (HALL.out _).2 HW.out.fl.mem, rfl⟩
                · obtain ⟨q, hq, e⟩ := HMM.out.c
                  exact ⟨q, (HALL.out q).2 hq, by simp only; omega⟩
                · exact (HW.out.rw.kept HAL2.out (by omega)).kept HF5'.out (by omega)
                · exact ((HA.out.mono (fun _ _ h => h.elim)).trans HW1R.out (fun _ _ h => h)).trans HF5'.out (fun i hi e => by omega)
                · omega
end Go.Proofs.Ytgpciopoionmeaa
