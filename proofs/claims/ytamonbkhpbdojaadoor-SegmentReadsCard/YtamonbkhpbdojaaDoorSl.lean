/- Segments' headers: what a header is, byte by byte; it is read as what it was made of, and nothing else is. -/
import Derived.Test.YtamonbkhpbdojaaDoorSh
import Derived.Test.YtamonbkhpbdojaaDoorMath
namespace Go.Proofs.YtamonbkhpbdojaaDoor
set_option maxRecDepth 100000
open Go.RowKit

/-- Bytes. -/
def Byts (l : List Nat) : Prop := ∀ x ∈ l, x < 256
theorem Byts.app {a b : List Nat} (h : Byts a) (k : Byts b) : Byts (a ++ b) := fun x hx => (List.mem_append.1 hx).elim (h x) (k x)
theorem Byts.left {a b : List Nat} (h : Byts (a ++ b)) : Byts a := fun x hx => h x (List.mem_append.2 (Or.inl hx))
theorem Byts.right {a b : List Nat} (h : Byts (a ++ b)) : Byts b := fun x hx => h x (List.mem_append.2 (Or.inr hx))
theorem Byts.take {a : List Nat} (h : Byts a) (n : Nat) : Byts (a.take n) := fun x hx => h x (List.mem_of_mem_take hx)
theorem Byts.drop {a : List Nat} (h : Byts a) (n : Nat) : Byts (a.drop n) := fun x hx => h x (List.mem_of_mem_drop hx)

theorem groups_pos (n : Nat) : 0 < (groups n).length := by
  have := length_varBits_pos n; rw [length_varBits] at this; omega

theorem rvarF_inv (x : List Nat) (hb : Byts x) : ∀ (f place acc p n q : Nat), place + f = 10 → rvarF x f place acc (8 * p) = (n, 0, q) →
    ∃ m p', q = 8 * p' ∧ n = acc + m * 2 ^ (7 * place) ∧ p < p' ∧ p' ≤ x.length ∧ (x.drop p).take (p' - p) = groups m ∧ (0 < place → 0 < m) := by
  intro f
  induction f with
  | zero => intro place acc p n q h e; simp [rvarF] at e
  | succ f ih =>
    intro place acc p n q h e
    by_cases h1 : 8 * x.length < 8 * p + 8
    · rw [rvarF_end x f place acc _ h1] at e; simp at e
    have hp : p < x.length := by omega
    have e1 := num_at x p hb hp
    have hd : x.drop p = x[p] :: x.drop (p + 1) := (List.getElem_cons_drop hp).symm
    have hxp : x[p]?.getD 0 = x[p] := by rw [List.getElem?_eq_getElem hp]; rfl
    rw [hxp] at e1
    have hx : x[p] < 256 := hb _ (List.getElem_mem hp)
    by_cases h2 : place = 9 ∧ 1 < x[p] ∨ 0 < place ∧ x[p] = 0
    · rw [rvarF_form x f place acc _ h1 (by rw [e1]; exact h2)] at e; simp at e
    by_cases h3 : x[p] < 128
    · rw [rvarF_last x f place acc _ h1 (by rw [e1]; exact h2) (by rw [e1]; exact h3), e1] at e
      simp only [Prod.mk.injEq, true_and] at e
      refine ⟨x[p], p + 1, by omega, by rw [← e.1, Nat.mod_eq_of_lt h3], by omega, by omega, ?_, fun h0 => by omega⟩
      rw [hd, show p + 1 - p = 1 by omega, groups_small _ h3]; rfl
    · rw [rvarF_more x f place acc _ h1 (by rw [e1]; exact h2) (by rw [e1]; exact h3), e1, show 8 * p + 8 = 8 * (p + 1) by omega] at e
      obtain ⟨m, p', hq, hn, hp1, hp2, hg, hm⟩ := ih (place + 1) _ (p + 1) n q (by omega) e
      have hm := hm (by omega)
      refine ⟨x[p] % 128 + 128 * m, p', hq, ?_, by omega, hp2, ?_, fun _ => by omega⟩
      · rw [hn, show 7 * (place + 1) = 7 * place + 7 by omega, Nat.pow_add, show (2 : Nat) ^ 7 = 128 by rfl, Nat.add_mul, ← Nat.mul_assoc, Nat.mul_comm m (2 ^ (7 * place)), Nat.mul_assoc, Nat.mul_comm _ (m * 128), Nat.mul_comm m 128, Nat.add_assoc]
      · have hgm : groups (x[p] % 128 + 128 * m) = x[p] :: groups m := by
          generalize x[p] = y at *
          rw [groups_more (y % 128 + 128 * m) (by omega), show (y % 128 + 128 * m) / 128 = m by omega, show (y % 128 + 128 * m) % 128 + 128 = y by omega]
        rw [hd, show p' - p = (p' - (p + 1)) + 1 by omega, List.take_succ_cons, hg, hgm]

theorem rvar_inv (x : List Nat) (hb : Byts x) (p n q : Nat) (e : rvar x (8 * p) = (n, 0, q)) : n < 18446744073709551616 ∧ ∃ p', q = 8 * p' ∧ p < p' ∧ p' ≤ x.length ∧ (x.drop p).take (p' - p) = groups n := by
  have hlt := rvar_lt x (8 * p)
  rw [e] at hlt
  obtain ⟨m, p', h1, h2, h3, h4, h5, _⟩ := rvarF_inv x hb 10 0 0 p n q rfl e
  simp at h2
  subst h2
  exact ⟨hlt, p', h1, h3, h4, h5⟩

theorem take_app (A B : List Nat) (n : Nat) : (A ++ B).take (A.length + n) = A ++ B.take n := by
  rw [List.take_append, List.take_of_length_le (by omega)]; congr 1; congr 1; omega
theorem drop_app (A B : List Nat) : (A ++ B).drop A.length = B := List.drop_left' rfl

theorem pt_app (A B : List Nat) (most : Nat) : pt (A ++ B) A.length most = B.take most := by unfold pt; rw [drop_app]

theorem rvar_here (A x : List Nat) (hA : Byts A) (hx : Byts x) : rvar (A ++ x) (8 * A.length) = ((rvar (x.take 10) 0).1, (rvar (x.take 10) 0).2.1, (rvar (x.take 10) 0).2.2 + 8 * A.length) := by
  have := rvar_part (A ++ x) A.length (hA.app hx)
  rw [pt_app] at this
  exact this

theorem numS_fwd (A B : List Nat) (n lo hi : Nat) (hA : Byts A) (hB : Byts B) (hn : n < 18446744073709551616) (h1 : lo ≤ n) (h2 : n ≤ hi) : numS (A ++ (groups n ++ B)) A.length lo hi = (0, n, (A ++ groups n).length) := by
  have hg := length_groups_u64 n hn
  have h := rvar_here A (groups n ++ B) hA (Byts.app (groups_lt_u64 n hn) hB)
  have ht : (groups n ++ B).take 10 = groups n ++ B.take (10 - (groups n).length) := by
    rw [List.take_append, List.take_of_length_le hg]
  rw [ht, rvar_with n hn] at h
  unfold numS
  rw [h]
  simp only [List.length_append]
  rw [if_neg (by decide), if_pos ⟨trivial, h1, h2⟩]
  rw [show (8 * (groups n).length + 8 * A.length) / 8 = A.length + (groups n).length by omega]

theorem numS_short (A : List Nat) (n k lo hi : Nat) (hA : Byts A) (hn : n < 18446744073709551616) (hk : k < (groups n).length) : (numS (A ++ (groups n).take k) A.length lo hi).1 = 163 := by
  have hg := length_groups_u64 n hn
  have h := rvar_here A ((groups n).take k) hA (Byts.take (groups_lt_u64 n hn) k)
  rw [List.take_of_length_le (l := (groups n).take k) (i := 10) (by rw [List.length_take]; omega)] at h
  have hs := rvar_short n k hn hk
  unfold numS
  rw [h]
  simp only
  rw [if_pos hs]

theorem numS_inv {l : List Nat} {a lo hi n a' : Nat} (hb : Byts l) (h : numS l a lo hi = (0, n, a')) : n < 18446744073709551616 ∧ lo ≤ n ∧ n ≤ hi ∧ a < a' ∧ a' ≤ l.length ∧ (l.drop a).take (a' - a) = groups n := by
  obtain ⟨h1, h2, h3, h4⟩ := numS_ok h
  obtain ⟨hn, p', hq, hp1, hp2, hg⟩ := rvar_inv l hb a n _ h1
  have : p' = a' := by omega
  subst this
  exact ⟨hn, h3, h4, hp1, hp2, hg⟩

/-- The bytes from one place to another. -/
def seg (l : List Nat) (a b : Nat) : List Nat := (l.drop a).take (b - a)
theorem seg_join (l : List Nat) (a b c : Nat) (h1 : a ≤ b) (h2 : b ≤ c) : seg l a b ++ seg l b c = seg l a c := by
  unfold seg
  have : l.drop b = (l.drop a).drop (b - a) := by rw [List.drop_drop]; congr 1; omega
  rw [this, ← List.take_add]; congr 1; omega
theorem seg_one (l : List Nat) (a : Nat) (h : a < l.length) : seg l a (a + 1) = [l[a]?.getD 0] := by
  unfold seg
  rw [← List.getElem_cons_drop h, List.getElem?_eq_getElem h, show a + 1 - a = 1 by omega]; rfl
theorem seg_self (l : List Nat) (a : Nat) : seg l a a = [] := by unfold seg; simp

theorem kindS_fwd (A B : List Nat) (k : Nat) (h1 : 1 ≤ k) (h2 : k ≤ 7) : kindS (A ++ ([k] ++ B)) A.length = (0, k, (A ++ [k]).length) := by
  unfold kindS
  have : (A ++ ([k] ++ B))[A.length]? = some k := by rw [List.getElem?_append_right (Nat.le_refl _)]; simp
  rw [if_neg (by simp), this, Option.getD_some, if_pos ⟨h1, h2⟩]; simp
theorem kindS_inv {l : List Nat} {a k a' : Nat} (h : kindS l a = (0, k, a')) : 1 ≤ k ∧ k ≤ 7 ∧ a < a' ∧ a' ≤ l.length ∧ seg l a a' = [k] := by
  unfold kindS at h
  split at h
  · simp at h
  · split at h
    · rename_i h1 h2
      simp only [Prod.mk.injEq, true_and] at h
      obtain ⟨rfl, rfl⟩ := h
      exact ⟨h2.1, h2.2, by omega, by omega, seg_one l a (by omega)⟩
    · simp at h

/-- References that rise from a least one on, none above the last. -/
def risN (last : Nat) : List Nat → Nat → Bool
  | [], _ => true
  | r :: t, least => decide (least ≤ r) && decide (r ≤ last) && risN last t (r + 1)

def gAll (L : List Nat) : List Nat := L.flatMap groups
theorem gAll_cons (n : Nat) (L : List Nat) : gAll (n :: L) = groups n ++ gAll L := by simp [gAll]
theorem gAll_nil : gAll [] = [] := rfl
theorem risS_fwd (last : Nat) (hl : last < 40000) : ∀ (L A B : List Nat) (least : Nat), Byts A → Byts B → risN last L least = true → risS (A ++ (gAll L ++ B)) last L.length A.length least = (0, L, (A ++ gAll L).length)
  | [], A, B, least, _, _, _ => by simp [risS, gAll]
  | n :: t, A, B, least, hA, hB, h => by
    simp only [risN, Bool.and_eq_true, decide_eq_true_eq] at h
    obtain ⟨⟨h1, h2⟩, h3⟩ := h
    have hn : n < 18446744073709551616 := by omega
    have hgt : Byts (gAll t) := by
      intro x hx
      obtain ⟨r, hr, hx⟩ := List.mem_flatMap.1 hx
      have : ∀ (t : List Nat) (m : Nat), risN last t m = true → ∀ r ∈ t, r ≤ last := by
        intro t
        induction t with
        | nil => intro m _ r hr; simp at hr
        | cons a t ih =>
          intro m h r hr
          simp only [risN, Bool.and_eq_true, decide_eq_true_eq] at h
          rcases List.mem_cons.1 hr with rfl | hr
          · exact h.1.2
          · exact ih _ h.2 r hr
      have := this t _ h3 r hr
      exact groups_lt_u64 r (by omega) x hx
    have e := numS_fwd A (gAll t ++ B) n least last hA (hgt.app hB) hn h1 h2
    have ih := risS_fwd last hl t (A ++ groups n) B (n + 1) (hA.app (groups_lt_u64 n hn)) hB h3
    rw [gAll_cons, List.append_assoc, List.length_cons, risS_more e, ← List.append_assoc A, ih]
    simp [appR]
theorem risS_inv {l : List Nat} {last : Nat} (hb : Byts l) : ∀ (c a least : Nat) (L : List Nat) (a' : Nat), a ≤ l.length → risS l last c a least = (0, L, a') → L.length = c ∧ risN last L least = true ∧ a ≤ a' ∧ a' ≤ l.length ∧ seg l a a' = gAll L := by
  intro c
  induction c with
  | zero =>
    intro a least L a' ha h
    simp only [risS, Prod.mk.injEq, true_and] at h
    obtain ⟨rfl, rfl⟩ := h
    exact ⟨rfl, rfl, Nat.le_refl _, ha, seg_self _ _⟩
  | succ c ih =>
    intro a least L a' ha h
    by_cases hn : (numS l a least last).1 = 0
    · obtain ⟨n, a2, hnum⟩ : ∃ n a2, numS l a least last = (0, n, a2) := ⟨_, _, Prod.ext hn rfl⟩
      obtain ⟨_, h1, h2, h3, h4, h5⟩ := numS_inv hb hnum
      rw [risS_more hnum] at h
      obtain ⟨L', e'⟩ : ∃ L', risS l last c a2 (n + 1) = (0, L', a') ∧ L = n :: L' := by
        simp only [appR, Prod.mk.injEq] at h
        exact ⟨_, Prod.ext h.1 (Prod.ext rfl h.2.2), by rw [← h.2.1]; rfl⟩
      obtain ⟨e', rfl⟩ := e'
      obtain ⟨k1, k2, k3, k4, k5⟩ := ih a2 (n + 1) L' a' h4 e'
      refine ⟨by simp [k1], by simp [risN, h1, h2, k2], by omega, k4, ?_⟩
      rw [gAll_cons, ← k5, ← h5]
      exact (seg_join l a a2 a' (by omega) k3).symm
    · rw [risS_no hn] at h
      simp only [Prod.mk.injEq] at h
      exact absurd h.1 hn
theorem risS_short (last : Nat) (hl : last < 40000) : ∀ (L A : List Nat) (k least : Nat), Byts A → risN last L least = true → k < (gAll L).length → (risS (A ++ (gAll L).take k) last L.length A.length least).1 = 163
  | [], A, k, least, _, _, hk => by simp [gAll] at hk
  | n :: t, A, k, least, hA, h, hk => by
    simp only [risN, Bool.and_eq_true, decide_eq_true_eq] at h
    obtain ⟨⟨h1, h2⟩, h3⟩ := h
    have hn : n < 18446744073709551616 := by omega
    rw [gAll_cons] at hk ⊢
    by_cases hk2 : k < (groups n).length
    · rw [List.take_append_of_le_length (by omega), List.length_cons]
      have := numS_short A n k least last hA hn hk2
      rw [risS_no (by rw [this]; decide), this]
    · obtain ⟨j, rfl⟩ : ∃ j, k = (groups n).length + j := ⟨k - (groups n).length, by omega⟩
      rw [take_app, List.length_cons]
      have hgt : Byts ((gAll t).take j) := by
        refine Byts.take (fun x hx => ?_) j
        obtain ⟨r, hr, hx⟩ := List.mem_flatMap.1 hx
        have : ∀ (t : List Nat) (m : Nat), risN last t m = true → ∀ r ∈ t, r ≤ last := by
          intro t
          induction t with
          | nil => intro m _ r hr; simp at hr
          | cons a t ih =>
            intro m h r hr
            simp only [risN, Bool.and_eq_true, decide_eq_true_eq] at h
            rcases List.mem_cons.1 hr with rfl | hr
            · exact h.1.2
            · exact ih _ h.2 r hr
        have := this t _ h3 r hr
        exact groups_lt_u64 r (by omega) x hx
      have e := numS_fwd A ((gAll t).take j) n least last hA hgt hn h1 h2
      have ih := risS_short last hl t (A ++ groups n) j (n + 1) (hA.app (groups_lt_u64 n hn)) h3 (by rw [List.length_append] at hk; omega)
      rw [risS_more e, ← List.append_assoc A]
      exact ih
end Go.Proofs.YtamonbkhpbdojaaDoor
