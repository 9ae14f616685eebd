/- The law's maps and the reference's bitmaps, side by side in memory. -/
import Derived.Test.YtflhbmapikdmhaaDoorYb
import Derived.Test.YtflhbmapikdmhaaDoorOver
namespace Go.Proofs.YtflhbmapikdmhaaDoor
set_option maxRecDepth 100000
open Go.RowKit

theorem own_ne {w : World} {base base' e e' s s' n n' g : Nat} {v : Value} {xs ys : List Value} {c m : Nat} (h : w.ownsRow base e s v n xs) (h' : w.ownsRow base' e' s' (.slice (some ⟨g, 0, none⟩) m c) n' ys) (he : e ≠ e') : v.ownBlock ≠ some g := by
  intro hv
  rcases h.2 with ⟨rfl, _⟩ | ⟨g1, c1, cur, rfl, _, hg1, _⟩
  · simp [Value.ownBlock] at hv
  · simp [Value.ownBlock] at hv
    subst hv
    rcases h'.2 with ⟨e1, _⟩ | ⟨g2, c2, cur2, e2, _, hg2, _⟩
    · cases e1
    · simp only [Value.slice.injEq, Option.some.injEq, Addr.mk.injEq] at e2
      obtain ⟨⟨rfl, _⟩, _⟩ := e2
      rw [hg1] at hg2
      simp at hg2
      exact he hg2.2
theorem MapAt.nrow {w : World} {b g cap W H : Nat} {P : Nat → Nat → Bool} (h : MapAt w b g cap W H P) {e s n m c k : Nat} {xs : List Value} (h' : w.ownsRow 0 e s (.slice (some ⟨k, 0, none⟩) m c) n xs) (he : e ≠ 67) : b ≠ k := by
  intro e
  subst e
  rcases h'.2 with ⟨e, _⟩ | ⟨g', cap', cur, e, _, hg, _⟩
  · cases e
  · simp only [Value.slice.injEq, Option.some.injEq, Addr.mk.injEq] at e
    obtain ⟨⟨rfl, _⟩, _⟩ := e
    rw [h.blk] at hg
    simp at hg
    exact he hg.2.symm

structure Mp where
  b : Nat
  g : Nat
  cap : Nat
  W : Nat
  H : Nat
  P : Nat → Nat → Bool
structure Rw where
  g : Nat
  cap : Nat
  W : Nat
  H : Nat
  P : Nat → Nat → Bool
def updF {α : Type} (M : Nat → α) (i : Nat) (m : α) : Nat → α := fun j => if j = i then m else M j
theorem updF_same {α : Type} (M : Nat → α) (i : Nat) (m : α) : updF M i m i = m := if_pos rfl
theorem updF_other {α : Type} (M : Nat → α) {i j : Nat} (m : α) (h : j ≠ i) : updF M i m j = M j := if_neg h
def tabC (f : Nat → Value) (n : Nat) : List Value := (List.range n).map f
theorem length_tabC (f : Nat → Value) (n : Nat) : (tabC f n).length = n := by simp [tabC]
theorem tabC_get {f : Nat → Value} {n i : Nat} (h : i < n) : (tabC f n)[i]? = some (f i) := by
  unfold tabC; rw [List.getElem?_map, List.getElem?_range h]; rfl
theorem tabC_set (f : Nat → Value) (n i : Nat) (x : Value) : (tabC f n).set i x = tabC (fun j => if j = i then x else f j) n := by
  apply List.ext_getElem?
  intro j
  rw [List.getElem?_set]
  by_cases hj : j < n
  · by_cases e : i = j
    · subst e; rw [if_pos rfl, if_pos (by rw [length_tabC]; exact hj), tabC_get hj, if_pos rfl]
    · rw [if_neg e, tabC_get hj, tabC_get hj, if_neg (fun h => e h.symm)]
  · rw [List.getElem?_eq_none (l := tabC _ _) (by rw [length_tabC]; omega), List.getElem?_eq_none (l := tabC _ _) (by rw [length_tabC]; omega)]
    by_cases e : i = j
    · rw [if_pos e, if_neg (by rw [length_tabC]; omega)]
    · rw [if_neg e]
theorem tabC_congr {f g : Nat → Value} {n : Nat} (h : ∀ i, i < n → f i = g i) : tabC f n = tabC g n := by
  apply List.map_congr_left
  intro i hi
  exact h i (by simpa using hi)
theorem tabC_succ (f : Nat → Value) (n : Nat) : tabC f (n + 1) = tabC f n ++ [f n] := by unfold tabC; rw [List.range_succ, List.map_append]; rfl

def ptrV (m : Mp) : Value := .pointer (some ⟨m.b, 0, none⟩)
def ptrC (M : Nat → Mp) (n : Nat) : List Value := tabC (fun j => ptrV (M j)) n
def rowV (r : Rw) : Nat → Value
  | 0 => .int .i64 (r.W : Int)
  | 1 => .int .i64 (r.H : Int)
  | _ => .slice (some ⟨r.g, 0, none⟩) (r.H * stride r.W) r.cap
def rowC (R : Nat → Rw) (n : Nat) : List Value := tabC (fun k => rowV (R (k / 3)) (k % 3)) (n * 3)
theorem ptrC_succ (M : Nat → Mp) (m : Mp) (n : Nat) : ptrC (updF M n m) (n + 1) = ptrC M n ++ [ptrV m] := by
  unfold ptrC
  rw [tabC_succ, updF_same, tabC_congr (f := fun j => ptrV (updF M n m j)) (g := fun j => ptrV (M j))]
  intro i hi
  rw [updF_other M m (by omega)]
theorem ptrC_set (M : Nat → Mp) (m : Mp) (n i : Nat) : (ptrC M n).set i (ptrV m) = ptrC (updF M i m) n := by
  unfold ptrC
  rw [tabC_set]
  apply tabC_congr
  intro j _
  unfold updF
  by_cases e : j = i
  · rw [if_pos e, if_pos e]
  · rw [if_neg e, if_neg e]
theorem rowC_succ (R : Nat → Rw) (r : Rw) (n : Nat) : rowC (updF R n r) (n + 1) = rowC R n ++ [.int .i64 (r.W : Int), .int .i64 (r.H : Int), .slice (some ⟨r.g, 0, none⟩) (r.H * stride r.W) r.cap] := by
  unfold rowC
  rw [Nat.add_mul, Nat.one_mul, tabC_succ, tabC_succ, tabC_succ, tabC_congr (f := fun k => rowV (updF R n r (k / 3)) (k % 3)) (g := fun k => rowV (R (k / 3)) (k % 3)) (n := n * 3)]
  · rw [show (n * 3 + 2) / 3 = n by omega, show (n * 3 + 2) % 3 = 2 by omega, show (n * 3 + 1) / 3 = n by omega, show (n * 3 + 1) % 3 = 1 by omega, show (n * 3) / 3 = n by omega, show (n * 3) % 3 = 0 by omega, updF_same]
    simp [rowV]
  · intro i hi
    show rowV (updF R n r (i / 3)) (i % 3) = rowV (R (i / 3)) (i % 3)
    rw [updF_other R r (by omega)]
theorem rowC_set (R : Nat → Rw) (r : Rw) (n i : Nat) : (((rowC R n).set (i * 3) (.int .i64 (r.W : Int))).set (i * 3 + 1) (.int .i64 (r.H : Int))).set (i * 3 + 2) (.slice (some ⟨r.g, 0, none⟩) (r.H * stride r.W) r.cap) = rowC (updF R i r) n := by
  unfold rowC
  rw [tabC_set, tabC_set, tabC_set]
  apply tabC_congr
  intro j _
  show (if j = i * 3 + 2 then _ else if j = i * 3 + 1 then _ else if j = i * 3 then _ else _) = rowV (updF R i r (j / 3)) (j % 3)
  by_cases e2 : j = i * 3 + 2
  · rw [if_pos e2, show j / 3 = i by omega, show j % 3 = 2 by omega, updF_same]; rfl
  rw [if_neg e2]
  by_cases e1 : j = i * 3 + 1
  · rw [if_pos e1, show j / 3 = i by omega, show j % 3 = 1 by omega, updF_same]; rfl
  rw [if_neg e1]
  by_cases e0 : j = i * 3
  · rw [if_pos e0, show j / 3 = i by omega, show j % 3 = 0 by omega, updF_same]; rfl
  rw [if_neg e0, updF_other R r (by omega)]

/-- The program's maps. -/
structure LL (w : World) (v : Value) (n : Nat) (M : Nat → Mp) : Prop where
  row : w.ownsRow 0 34 1 v n (ptrC M n)
  at_ : ∀ j, j < n → MapAt w (M j).b (M j).g (M j).cap (M j).W (M j).H (M j).P
  ne : ∀ i j, i < n → j < n → i ≠ j → (M i).b ≠ (M j).b ∧ (M i).g ≠ (M j).g
/-- The reference's bitmaps. -/
structure RR (w : World) (v : Value) (n : Nat) (R : Nat → Rw) : Prop where
  row : w.ownsRow 0 39 3 v n (rowC R n)
  at_ : ∀ j, j < n → RowAt w (R j).g (R j).cap (R j).W (R j).H (R j).P
  ne : ∀ i j, i < n → j < n → i ≠ j → (R i).g ≠ (R j).g
theorem LL.kept {S : Nat → Prop} {w w' : World} {v : Value} {n : Nat} {M : Nat → Mp} (h : LL w v n M) (f : Fr S w w') (h1 : ∀ k, v.ownBlock = some k → ¬ S k) (h2 : ∀ j, j < n → ¬ S (M j).b ∧ ¬ S (M j).g) : LL w' v n M :=
  ⟨row_kept h.row f h1, fun j hj => (h.at_ j hj).kept f (h2 j hj).1 (h2 j hj).2, h.ne⟩
theorem RR.kept {S : Nat → Prop} {w w' : World} {v : Value} {n : Nat} {R : Nat → Rw} (h : RR w v n R) (f : Fr S w w') (h1 : ∀ k, v.ownBlock = some k → ¬ S k) (h2 : ∀ j, j < n → ¬ S (R j).g) : RR w' v n R :=
  ⟨row_kept h.row f h1, fun j hj => (h.at_ j hj).kept f (h2 j hj), h.ne⟩

/-- Both. -/
structure Bo (w : World) (v u : Value) (n : Nat) (M : Nat → Mp) (R : Nat → Rw) : Prop where
  l : LL w v n M
  r : RR w u n R
  x : ∀ i j, i < n → j < n → (M i).g ≠ (R j).g
theorem Bo.kept {w w' : World} {v u : Value} {n : Nat} {M : Nat → Mp} {R : Nat → Rw} (h : Bo w v u n M R) (f : Fr (fun _ => False) w w') : Bo w' v u n M R :=
  ⟨h.l.kept f (fun _ _ h => h) (fun _ _ => ⟨fun h => h, fun h => h⟩), h.r.kept f (fun _ _ h => h) (fun _ _ h => h), h.x⟩
theorem Bo.vg {w : World} {v u : Value} {n : Nat} {M : Nat → Mp} {R : Nat → Rw} (h : Bo w v u n M R) {j : Nat} (hj : j < n) : v.ownBlock ≠ some (M j).g ∧ u.ownBlock ≠ some (M j).g ∧ v.ownBlock ≠ some (R j).g ∧ u.ownBlock ≠ some (R j).g :=
  ⟨own_ne h.l.row (h.l.at_ j hj).own (by decide), own_ne h.r.row (h.l.at_ j hj).own (by decide), own_ne h.l.row (h.r.at_ j hj) (by decide), own_ne h.r.row (h.r.at_ j hj) (by decide)⟩
theorem Bo.bg {w : World} {v u : Value} {n : Nat} {M : Nat → Mp} {R : Nat → Rw} (h : Bo w v u n M R) {i j : Nat} (hi : i < n) (hj : j < n) : (M i).b ≠ (M j).g ∧ (M i).b ≠ (R j).g :=
  ⟨(h.l.at_ i hi).nrow (h.l.at_ j hj).own (by decide), (h.l.at_ i hi).nrow (h.r.at_ j hj) (by decide)⟩

/-- A map's pixels are other ones. -/
theorem Bo.map {w w' : World} {v u : Value} {n : Nat} {M : Nat → Mp} {R : Nat → Rw} (h : Bo w v u n M R) {i : Nat} (hi : i < n) (f : Fr (fun k => k = (M i).g) w w') {P : Nat → Nat → Bool} (hm : MapAt w' (M i).b (M i).g (M i).cap (M i).W (M i).H P) :
    Bo w' v u n (updF M i { M i with P := P }) R := by
  have hb : ∀ j, (updF M i { M i with P := P } j).b = (M j).b ∧ (updF M i { M i with P := P } j).g = (M j).g := fun j => by
    by_cases e : j = i
    · subst e; rw [updF_same]; exact ⟨rfl, rfl⟩
    · rw [updF_other M _ e]; exact ⟨rfl, rfl⟩
  refine ⟨⟨?_, fun j hj => ?_, fun a b ha hb' hab => ?_⟩, h.r.kept f (fun k hk e => (h.vg hi).2.1 (by rw [hk, e])) (fun j hj e => h.x i j hi hj e.symm), fun a b ha hb' => by rw [(hb a).2]; exact h.x a b ha hb'⟩
  · have h1 := row_kept h.l.row f (fun k hk e => (h.vg hi).1 (by rw [hk, e]))
    rw [show ptrC (updF M i { M i with P := P }) n = ptrC M n from tabC_congr (fun j _ => by unfold ptrV; rw [(hb j).1])]
    exact h1
  · by_cases e : j = i
    · subst e; rw [updF_same]; exact hm
    · rw [updF_other M _ e]
      exact (h.l.at_ j hj).kept f (h.bg hj hi).1 (h.l.ne j i hj hi e).2
  · rw [(hb a).1, (hb b).1, (hb a).2, (hb b).2]
    exact h.l.ne a b ha hb' hab
/-- A bitmap's pixels are other ones. -/
theorem Bo.row {w w' : World} {v u : Value} {n : Nat} {M : Nat → Mp} {R : Nat → Rw} (h : Bo w v u n M R) {i : Nat} (hi : i < n) (f : Fr (fun k => k = (R i).g) w w') {P : Nat → Nat → Bool} (hm : RowAt w' (R i).g (R i).cap (R i).W (R i).H P) :
    Bo w' v u n M (updF R i { R i with P := P }) := by
  have hb : ∀ j, (updF R i { R i with P := P } j).g = (R j).g ∧ ∀ k, rowV (updF R i { R i with P := P } j) k = rowV (R j) k := fun j => by
    by_cases e : j = i
    · subst e; rw [updF_same]; exact ⟨rfl, fun k => by unfold rowV; rfl⟩
    · rw [updF_other R _ e]; exact ⟨rfl, fun _ => rfl⟩
  refine ⟨h.l.kept f (fun k hk e => (h.vg hi).2.2.1 (by rw [hk, e])) (fun j hj => ⟨(h.bg hj hi).2, h.x j i hj hi⟩), ⟨?_, fun j hj => ?_, fun a b ha hb' hab => ?_⟩, fun a b ha hb' => by rw [(hb b).1]; exact h.x a b ha hb'⟩
  · have h1 := row_kept h.r.row f (fun k hk e => (h.vg hi).2.2.2 (by rw [hk, e]))
    rw [show rowC (updF R i { R i with P := P }) n = rowC R n from tabC_congr (fun j _ => (hb _).2 _)]
    exact h1
  · by_cases e : j = i
    · subst e; rw [updF_same]; exact hm
    · rw [updF_other R _ e]
      exact (h.r.at_ j hj).kept f (h.r.ne j i hj hi e)
  · rw [(hb a).1, (hb b).1]
    exact h.r.ne a b ha hb' hab

theorem Bo.lts {w : World} {v u : Value} {n : Nat} {M : Nat → Mp} {R : Nat → Rw} (h : Bo w v u n M R) {j : Nat} (hj : j < n) : (M j).b < w.heap.size ∧ (M j).g < w.heap.size ∧ (R j).g < w.heap.size :=
  ⟨(h.l.at_ j hj).lt, (h.l.at_ j hj).glt, (h.r.at_ j hj).lt⟩
/-- A new map in a map's place. -/
theorem Bo.newMap {w w' : World} {lb lc n : Nat} {u : Value} {M : Nat → Mp} {R : Nat → Rw} (h : Bo w (.slice (some ⟨lb, 0, none⟩) n lc) u n M R) {i : Nat} (hi : i < n) (m : Mp) (hm : NewMap w w' m.b m.g m.cap m.W m.H m.P) :
    Bo (w'.setCell ⟨lb, i, none⟩ (ptrV m)) (.slice (some ⟨lb, 0, none⟩) n lc) u n (updF M i m) R := by
  have h1 := h.kept hm.fr
  have f : Fr (fun k => k = lb) w' (w'.setCell ⟨lb, i, none⟩ (ptrV m)) := (Fr.refl (fun k => k = lb) _).setCell (p := ⟨lb, i, none⟩) (fun _ => rfl) _
  have hlb : lb < w.heap.size := (h.l.row.lt lb rfl).2
  have q1 : ∀ j, j < n → (M j).b ≠ lb ∧ (M j).g ≠ lb ∧ (R j).g ≠ lb := fun j hj => ⟨(h.l.at_ j hj).nrow h.l.row (by decide), fun e => (h.vg hj).1 (by rw [e]; rfl), fun e => (h.vg hj).2.2.1 (by rw [e]; rfl)⟩
  have q2 : ∀ k, u.ownBlock = some k → k ≠ lb := fun k hk e => own_ne h.r.row h.l.row (by decide) (by rw [hk, e])
  have nb := hm.nb
  have ng := hm.ng
  refine ⟨⟨?_, fun j hj => ?_, fun a b ha hb hab => ?_⟩, h1.r.kept f (fun k hk e => q2 k hk e) (fun j hj e => (q1 j hj).2.2 e), fun a b ha hb => ?_⟩
  · have h2 := (h1.l.row.stored i (ptrV m)).1
    rw [ptrC_set] at h2
    exact h2
  · by_cases e : j = i
    · subst e; rw [updF_same]; exact hm.at_.kept f (by omega) (by omega)
    · rw [updF_other M _ e]; exact (h1.l.at_ j hj).kept f (q1 j hj).1 (q1 j hj).2.1
  · have la := h.lts ha
    have lb' := h.lts hb
    by_cases e : a = i
    · subst e
      rw [updF_same, updF_other M _ (fun e => hab e.symm)]
      exact ⟨by omega, by omega⟩
    · rw [updF_other M _ e]
      by_cases e2 : b = i
      · subst e2; rw [updF_same]; exact ⟨by omega, by omega⟩
      · rw [updF_other M _ e2]; exact h.l.ne a b ha hb hab
  · have lb' := h.lts hb
    by_cases e : a = i
    · subst e; rw [updF_same]; omega
    · rw [updF_other M _ e]; exact h.x a b ha hb
/-- A new bitmap in a bitmap's place. -/
theorem Bo.newRow {w w' : World} {v : Value} {rb rc n : Nat} {M : Nat → Mp} {R : Nat → Rw} (h : Bo w v (.slice (some ⟨rb, 0, none⟩) n rc) n M R) {i : Nat} (hi : i < n) (r : Rw) (hr : RowAt w' r.g r.cap r.W r.H r.P) (hf : Fr (fun _ => False) w w') (hg : w.heap.size ≤ r.g) :
    Bo (((w'.setCell ⟨rb, i * 3, none⟩ (.int .i64 (r.W : Int))).setCell ⟨rb, i * 3 + 1, none⟩ (.int .i64 (r.H : Int))).setCell ⟨rb, i * 3 + 2, none⟩ (.slice (some ⟨r.g, 0, none⟩) (r.H * stride r.W) r.cap)) v (.slice (some ⟨rb, 0, none⟩) n rc) n M (updF R i r) := by
  have h1 := h.kept hf
  have f : Fr (fun k => k = rb) w' (((w'.setCell ⟨rb, i * 3, none⟩ (.int .i64 (r.W : Int))).setCell ⟨rb, i * 3 + 1, none⟩ (.int .i64 (r.H : Int))).setCell ⟨rb, i * 3 + 2, none⟩ (.slice (some ⟨r.g, 0, none⟩) (r.H * stride r.W) r.cap)) := (((Fr.refl (fun k => k = rb) _).setCell (p := ⟨rb, i * 3, none⟩) (fun _ => rfl) _).setCell (p := ⟨rb, i * 3 + 1, none⟩) (fun _ => rfl) _).setCell (p := ⟨rb, i * 3 + 2, none⟩) (fun _ => rfl) _
  have hrb : rb < w.heap.size := (h.r.row.lt rb rfl).2
  have q1 : ∀ j, j < n → (M j).b ≠ rb ∧ (M j).g ≠ rb ∧ (R j).g ≠ rb := fun j hj => ⟨(h.l.at_ j hj).nrow h.r.row (by decide), fun e => (h.vg hj).2.1 (by rw [e]; rfl), fun e => (h.vg hj).2.2.2 (by rw [e]; rfl)⟩
  have q2 : ∀ k, v.ownBlock = some k → k ≠ rb := fun k hk e => own_ne h.l.row h.r.row (by decide) (by rw [hk, e])
  refine ⟨h1.l.kept f (fun k hk e => q2 k hk e) (fun j hj => ⟨(q1 j hj).1, (q1 j hj).2.1⟩), ⟨?_, fun j hj => ?_, fun a b ha hb hab => ?_⟩, fun a b ha hb => ?_⟩
  · have h2 := (((h1.r.row.stored (i * 3) (.int .i64 (r.W : Int))).1.stored (i * 3 + 1) (.int .i64 (r.H : Int))).1.stored (i * 3 + 2) (.slice (some ⟨r.g, 0, none⟩) (r.H * stride r.W) r.cap)).1
    rw [rowC_set] at h2
    exact h2
  · by_cases e : j = i
    · subst e; rw [updF_same]; exact hr.kept f (by omega)
    · rw [updF_other R _ e]; exact (h1.r.at_ j hj).kept f (q1 j hj).2.2
  · have la := h.lts ha
    have lb' := h.lts hb
    by_cases e : a = i
    · subst e
      rw [updF_same, updF_other R _ (fun e => hab e.symm)]
      omega
    · rw [updF_other R _ e]
      by_cases e2 : b = i
      · subst e2; rw [updF_same]; omega
      · rw [updF_other R _ e2]; exact h.r.ne a b ha hb hab
  · have la := h.lts ha
    by_cases e : b = i
    · subst e; rw [updF_same]; omega
    · rw [updF_other R _ e]; exact h.x a b ha hb
end Go.Proofs.YtflhbmapikdmhaaDoor
