/- Plain mathematics: a forest of parents; pixels that are connected; pieces. -/
namespace Go.Proofs.Ytgpciopoionmeaa

/-- The root: up as long as the parent's number is less. -/
def rt (f : Nat → Nat) (i : Nat) : Nat := if _h : f i < i then rt f (f i) else i
termination_by i
decreasing_by assumption

def upd (f : Nat → Nat) (i v : Nat) : Nat → Nat := fun k => if k = i then v else f k

theorem rt_eq (f : Nat → Nat) (i : Nat) : rt f i = if f i < i then rt f (f i) else i := by
  rw [rt]; split <;> rfl
theorem rt_le (f : Nat → Nat) : ∀ i, rt f i ≤ i := by
  intro i
  induction i using Nat.strongRecOn with
  | _ i ih =>
    rw [rt_eq]
    split
    · rename_i h; exact Nat.le_trans (ih _ h) (Nat.le_of_lt h)
    · exact Nat.le_refl _
/-- No parent's number is greater. -/
def Dn (f : Nat → Nat) : Prop := ∀ i, f i ≤ i
theorem rt_fix {f : Nat → Nat} (hf : Dn f) : ∀ i, f (rt f i) = rt f i := by
  intro i
  induction i using Nat.strongRecOn with
  | _ i ih =>
    rw [rt_eq]
    split
    · rename_i h; exact ih _ h
    · rename_i h; have := hf i; omega
theorem rt_self {f : Nat → Nat} {i : Nat} (h : f i = i) : rt f i = i := by
  rw [rt_eq, if_neg (by omega)]
theorem rt_up {f : Nat → Nat} (hf : Dn f) (i : Nat) : rt f (f i) = rt f i := by
  rw [rt_eq f i]
  split
  · rfl
  · rename_i h
    have := hf i
    have e : f i = i := by omega
    rw [e, rt_self e]
theorem rt_rt {f : Nat → Nat} (hf : Dn f) (i : Nat) : rt f (rt f i) = rt f i := rt_self (rt_fix hf i)
theorem upd_self (f : Nat → Nat) (i v : Nat) : upd f i v i = v := by simp [upd]
theorem upd_ne (f : Nat → Nat) {i k : Nat} (v : Nat) (h : k ≠ i) : upd f i v k = f k := by simp [upd, h]

/-- A way that is halved: no root changes. -/
theorem dn_half {f : Nat → Nat} (hf : Dn f) (i : Nat) : Dn (upd f i (f (f i))) := by
  intro k
  unfold upd
  split
  · rename_i h; subst h; exact Nat.le_trans (hf _) (hf _)
  · exact hf k
theorem rt_half {f : Nat → Nat} (hf : Dn f) (i : Nat) : ∀ k, rt (upd f i (f (f i))) k = rt f k := by
  intro k
  induction k using Nat.strongRecOn with
  | _ k ih =>
    by_cases hk : k = i
    · subst hk
      rw [rt_eq, upd_self]
      split
      · rename_i h
        rw [ih _ h, rt_up hf, rt_up hf]
      · rename_i h
        have h1 := hf (f k)
        have h2 := hf k
        have e : f k = k := by omega
        rw [rt_self e]
    · rw [rt_eq, upd_ne _ _ hk, rt_eq f k]
      split
      · rename_i h; exact ih _ h
      · rfl

/-- Two roots are joined: the greater one hangs under the lesser. -/
theorem dn_join {f : Nat → Nat} (hf : Dn f) {lo hi : Nat} (h : lo ≤ hi) : Dn (upd f hi lo) := by
  intro k
  unfold upd
  split
  · rename_i e; omega
  · exact hf k
theorem rt_join {f : Nat → Nat} (hf : Dn f) {lo hi : Nat} (h : lo ≤ hi) (hl : f lo = lo) (hh : f hi = hi) : ∀ k, rt (upd f hi lo) k = if rt f k = hi then lo else rt f k := by
  intro k
  induction k using Nat.strongRecOn with
  | _ k ih =>
    by_cases hk : k = hi
    · subst hk
      rw [rt_self hh, if_pos rfl, rt_eq, upd_self]
      split
      · rename_i h1
        rw [ih _ h1, rt_self hl]
        rw [if_neg (by omega)]
      · omega
    · rw [rt_eq, upd_ne _ _ hk]
      split
      · rename_i h1
        rw [ih _ h1, rt_up hf]
      · rename_i h1
        have := hf k
        have e : f k = k := by omega
        rw [rt_self e, if_neg hk]

/-- Neighbours. -/
def nb (p q : Nat × Nat) : Prop := p.1 ≤ q.1 + 1 ∧ q.1 ≤ p.1 + 1 ∧ p.2 ≤ q.2 + 1 ∧ q.2 ≤ p.2 + 1
theorem nb_symm {p q : Nat × Nat} (h : nb p q) : nb q p := ⟨h.2.1, h.1, h.2.2.2, h.2.2.1⟩
/-- Connected black pixels. -/
inductive PC (B : Nat × Nat → Prop) : Nat × Nat → Nat × Nat → Prop
  | refl {p} : B p → PC B p p
  | step {p q r} : PC B p q → nb q r → B r → PC B p r
theorem PC.left {B : Nat × Nat → Prop} {p q : Nat × Nat} (h : PC B p q) : B p := by
  induction h with
  | refl h => exact h
  | step _ _ _ ih => exact ih
theorem PC.right {B : Nat × Nat → Prop} {p q : Nat × Nat} (h : PC B p q) : B q := by
  cases h with
  | refl h => exact h
  | step _ _ h => exact h
theorem PC.trans {B : Nat × Nat → Prop} {p q r : Nat × Nat} (h : PC B p q) (h' : PC B q r) : PC B p r := by
  induction h' with
  | refl _ => exact h
  | step _ a b ih => exact ih.step a b
theorem PC.one {B : Nat × Nat → Prop} {p q : Nat × Nat} (h : B p) (hn : nb p q) (hq : B q) : PC B p q := (PC.refl h).step hn hq
theorem PC.symm {B : Nat × Nat → Prop} {p q : Nat × Nat} (h : PC B p q) : PC B q p := by
  induction h with
  | refl h => exact .refl h
  | step a b c ih => exact (PC.one c (nb_symm b) a.right).trans ih
/-- What holds of neighbours alike holds of all that is connected. -/
theorem PC.inv {α : Type} {B : Nat × Nat → Prop} {p q : Nat × Nat} (φ : Nat × Nat → α) (hφ : ∀ a b, B a → B b → nb a b → φ a = φ b) (h : PC B p q) : φ p = φ q := by
  induction h with
  | refl _ => rfl
  | step a b c ih => rw [ih]; exact hφ _ _ a.right c b
theorem PC.mono {B B' : Nat × Nat → Prop} (hB : ∀ p, B p → B' p) {p q : Nat × Nat} (h : PC B p q) : PC B' p q := by
  induction h with
  | refl h => exact .refl (hB _ h)
  | step _ b c ih => exact ih.step b (hB _ c)
/-- A way stays within what it is connected with. -/
theorem PC.within {B : Nat × Nat → Prop} {p q : Nat × Nat} (h : PC B p q) : PC (PC B p) p q := by
  induction h with
  | refl h => exact .refl (.refl h)
  | step a b c ih => exact ih.step b (a.step b c)
/-- The way through another map of places, that keeps neighbours. -/
theorem PC.map {B B' : Nat × Nat → Prop} (φ : Nat × Nat → Nat × Nat) (hB : ∀ p, B p → B' (φ p)) (hn : ∀ p q, B p → B q → nb p q → nb (φ p) (φ q)) {p q : Nat × Nat} (h : PC B p q) : PC B' (φ p) (φ q) := by
  induction h with
  | refl h => exact .refl (hB _ h)
  | step a b c ih => exact ih.step (hn _ _ a.right c b) (hB _ c)

/-- Ahead of, in raster order. -/
def ras (p q : Nat × Nat) : Prop := p.2 < q.2 ∨ (p.2 = q.2 ∧ p.1 < q.1)
theorem ras_irrefl (p : Nat × Nat) : ¬ ras p p := by unfold ras; omega
theorem ras_trans {p q r : Nat × Nat} (h : ras p q) (h' : ras q r) : ras p r := by unfold ras at *; omega
theorem ras_total (p q : Nat × Nat) : ras p q ∨ p = q ∨ ras q p := by
  unfold ras
  rcases p with ⟨a, b⟩; rcases q with ⟨c, d⟩
  simp only [Prod.mk.injEq]
  omega
/-- The first pixel of its piece. -/
def First (B : Nat × Nat → Prop) (p : Nat × Nat) : Prop := B p ∧ ∀ q, PC B p q → ¬ ras q p

/-- A piece: its place, its bitmap. -/
structure Pc where
  X : Nat
  Y : Nat
  W : Nat
  H : Nat
  Q : Nat → Nat → Bool
/-- The piece that a pixel is of. -/
structure IsPc (B : Nat × Nat → Prop) (f : Nat × Nat) (p : Pc) : Prop where
  pix : ∀ x y, x < p.W → y < p.H → (p.Q x y = true ↔ PC B f (p.X + x, p.Y + y))
  box : ∀ q, PC B f q → p.X ≤ q.1 ∧ q.1 < p.X + p.W ∧ p.Y ≤ q.2 ∧ q.2 < p.Y + p.H
  l : ∃ q, PC B f q ∧ q.1 = p.X
  r : ∃ q, PC B f q ∧ q.1 + 1 = p.X + p.W
  t : ∃ q, PC B f q ∧ q.2 = p.Y
  b : ∃ q, PC B f q ∧ q.2 + 1 = p.Y + p.H
/-- The same piece, as it can be seen. -/
def same (p q : Pc) : Prop := p.X = q.X ∧ p.Y = q.Y ∧ p.W = q.W ∧ p.H = q.H ∧ ∀ x y, x < p.W → y < p.H → p.Q x y = q.Q x y
theorem IsPc.pos {B : Nat × Nat → Prop} {f : Nat × Nat} {p : Pc} (h : IsPc B f p) : 1 ≤ p.W ∧ 1 ≤ p.H := by
  obtain ⟨q, hq, _⟩ := h.l
  have := h.box q hq
  omega
theorem IsPc.uniq {B : Nat × Nat → Prop} {f : Nat × Nat} {p q : Pc} (h : IsPc B f p) (k : IsPc B f q) : same p q := by
  obtain ⟨a1, b1, c1⟩ := h.l
  obtain ⟨a2, b2, c2⟩ := h.r
  obtain ⟨a3, b3, c3⟩ := h.t
  obtain ⟨a4, b4, c4⟩ := h.b
  obtain ⟨d1, e1, g1⟩ := k.l
  obtain ⟨d2, e2, g2⟩ := k.r
  obtain ⟨d3, e3, g3⟩ := k.t
  obtain ⟨d4, e4, g4⟩ := k.b
  have u1 := k.box _ b1; have u2 := k.box _ b2; have u3 := k.box _ b3; have u4 := k.box _ b4
  have v1 := h.box _ e1; have v2 := h.box _ e2; have v3 := h.box _ e3; have v4 := h.box _ e4
  have hX : p.X = q.X := by omega
  have hY : p.Y = q.Y := by omega
  have hW : p.W = q.W := by omega
  have hH : p.H = q.H := by omega
  refine ⟨hX, hY, hW, hH, fun x y hx hy => ?_⟩
  rw [Bool.eq_iff_iff, h.pix x y hx hy, k.pix x y (by omega) (by omega), hX, hY]

/-- The pieces, by their first pixels. -/
inductive Pcs (B : Nat × Nat → Prop) : List (Nat × Nat) → List Pc → Prop
  | nil : Pcs B [] []
  | cons {f p fs l} : IsPc B f p → Pcs B fs l → Pcs B (f :: fs) (p :: l)
structure Firsts (B : Nat × Nat → Prop) (fs : List (Nat × Nat)) : Prop where
  sorted : fs.Pairwise ras
  mem : ∀ p, p ∈ fs ↔ First B p
theorem sorted_uniq : ∀ {a b : List (Nat × Nat)}, a.Pairwise ras → b.Pairwise ras → (∀ p, p ∈ a ↔ p ∈ b) → a = b
  | [], [], _, _, _ => rfl
  | [], y :: t, _, _, h => absurd ((h y).2 (List.mem_cons_self ..)) (by simp)
  | x :: s, [], _, _, h => absurd ((h x).1 (List.mem_cons_self ..)) (by simp)
  | x :: s, y :: t, ha, hb, h => by
    obtain ⟨a1, a2⟩ := List.pairwise_cons.1 ha
    obtain ⟨b1, b2⟩ := List.pairwise_cons.1 hb
    have e : x = y := by
      rcases ras_total x y with r | r | r
      · rcases List.mem_cons.1 ((h x).1 (List.mem_cons_self ..)) with e | m
        · exact e
        · exact absurd (ras_trans r (b1 x m)) (ras_irrefl _)
      · exact r
      · rcases List.mem_cons.1 ((h y).2 (List.mem_cons_self ..)) with e | m
        · exact e.symm
        · exact absurd (ras_trans r (a1 y m)) (ras_irrefl _)
    subst e
    rw [sorted_uniq a2 b2]
    intro p
    constructor
    · intro hp
      rcases List.mem_cons.1 ((h p).1 (List.mem_cons_of_mem _ hp)) with e | m
      · subst e; exact absurd (a1 p hp) (ras_irrefl _)
      · exact m
    · intro hp
      rcases List.mem_cons.1 ((h p).2 (List.mem_cons_of_mem _ hp)) with e | m
      · subst e; exact absurd (b1 p hp) (ras_irrefl _)
      · exact m
theorem Firsts.uniq {B : Nat × Nat → Prop} {a b : List (Nat × Nat)} (h : Firsts B a) (k : Firsts B b) : a = b :=
  sorted_uniq h.sorted k.sorted (fun p => by rw [h.mem, k.mem])
inductive Same : List Pc → List Pc → Prop
  | nil : Same [] []
  | cons {p q l m} : same p q → Same l m → Same (p :: l) (q :: m)
theorem Pcs.uniq {B : Nat × Nat → Prop} : ∀ {fs : List (Nat × Nat)} {l m : List Pc}, Pcs B fs l → Pcs B fs m → Same l m
  | _, _, _, .nil, .nil => .nil
  | _, _, _, .cons a b, .cons c d => .cons (a.uniq c) (b.uniq d)
theorem Pcs.length {B : Nat × Nat → Prop} {fs : List (Nat × Nat)} {l : List Pc} (h : Pcs B fs l) : l.length = fs.length := by
  induction h with
  | nil => rfl
  | cons _ _ ih => simp [ih]
theorem Pcs.at {B : Nat × Nat → Prop} {fs : List (Nat × Nat)} {l : List Pc} (h : Pcs B fs l) : ∀ {k : Nat} {p : Pc}, l[k]? = some p → ∃ f, fs[k]? = some f ∧ IsPc B f p := by
  induction h with
  | nil => intro k p hp; simp at hp
  | @cons f p fs l a _ ih =>
    intro k q hq
    cases k with
    | zero => simp at hq; subst hq; exact ⟨f, rfl, a⟩
    | succ k => simp at hq; obtain ⟨g, hg, hi⟩ := ih hq; exact ⟨g, by simpa using hg, hi⟩
theorem Pcs.of {B : Nat × Nat → Prop} : ∀ {fs : List (Nat × Nat)} {l : List Pc}, l.length = fs.length → (∀ (k : Nat) (p : Pc) (f : Nat × Nat), l[k]? = some p → fs[k]? = some f → IsPc B f p) → Pcs B fs l
  | [], [], _, _ => .nil
  | [], _ :: _, h, _ => by simp at h
  | _ :: _, [], h, _ => by simp at h
  | f :: fs, p :: l, h, k => .cons (k 0 p f rfl rfl) (Pcs.of (by simpa using h) (fun j q g hq hg => k (j + 1) q g (by simpa using hq) (by simpa using hg)))

end Go.Proofs.Ytgpciopoionmeaa
