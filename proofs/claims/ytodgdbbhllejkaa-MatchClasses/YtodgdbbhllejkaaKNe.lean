/- What classes are: each bitmap is near its class's, and near no earlier one; a tolerance of nought, of infinity. -/
import Derived.Test.YtodgdbbhllejkaaKWl
import Derived.Test.YtodgdbbhllejkaaKLi
namespace Go.Proofs.Ytodgdbbhllejkaa
open Go.RowKit Ieee

theorem find_spec {q : Nat → Bool} {m c : Nat} (h : (List.range m).find? q = some c) : c < m ∧ q c = true ∧ ∀ k, k < c → q k = false := by
  have h1 := List.find?_some h
  have h2 := List.mem_of_find?_eq_some h
  refine ⟨List.mem_range.1 h2, h1, fun k hk => ?_⟩
  obtain ⟨_, l1, l2, e, hno⟩ := List.find?_eq_some_iff_append.1 h
  have hl : l1.length = c := by
    have hc : (List.range m)[l1.length]? = some c := by rw [e, List.getElem?_append_right (Nat.le_refl _), Nat.sub_self]; rfl
    have : l1.length < m := by
      rcases Nat.lt_or_ge l1.length m with h | h
      · exact h
      · rw [List.getElem?_eq_none (by rw [List.length_range]; exact h)] at hc; cases hc
    rw [List.getElem?_range this] at hc
    exact Option.some.inj hc
  have hm : k ∈ l1 := by
    have h3 : (List.range m)[k]? = some k := List.getElem?_range (by have := List.mem_range.1 h2; omega)
    rw [e, List.getElem?_append_left (by omega)] at h3
    exact List.mem_of_getElem? h3
  have := hno k hm
  simpa using this

theorem clR_getD (nr : Nat → Nat → Bool) (n c : Nat) (h : c < (clR nr n).length) : (clR nr (n + 1)).getD c 0 = (clR nr n).getD c 0 := by
  rcases clR_cases nr n with e | e <;> rw [e]
  rw [getD_append_lt _ _ h]
theorem clC_getD (nr : Nat → Nat → Bool) (n i : Nat) (h : i < n) : (clC nr (n + 1)).getD i 0 = (clC nr n).getD i 0 := by
  show (clC nr n ++ [_]).getD i 0 = _
  rw [List.getD_eq_getElem?_getD, List.getD_eq_getElem?_getD, List.getElem?_append_left (by rw [length_clC]; exact h)]
theorem clC_last (nr : Nat → Nat → Bool) (n : Nat) : (clC nr (n + 1)).getD n 0 = (fnd nr (clR nr n) n).getD (clR nr n).length := by
  show (clC nr n ++ [_]).getD n 0 = _
  rw [List.getD_eq_getElem?_getD, List.getElem?_append_right (by rw [length_clC]; exact Nat.le_refl _), length_clC, Nat.sub_self]; rfl
theorem fnd_no {nr : Nat → Nat → Bool} {R : List Nat} {i : Nat} (h : fnd nr R i = none) : ∀ c, c < R.length → nr (R.getD c 0) i = false := fun c hc => by
  have := List.find?_eq_none.1 h c (List.mem_range.2 hc)
  simpa using this

/-- Each bitmap's class: it is near it, and near no earlier one. -/
theorem cl_spec (nr : Nat → Nat → Bool) (N : Nat) (hself : ∀ i, i < N → nr i i = true) : ∀ n i, n ≤ N → i < n → (clC nr n).getD i 0 < (clR nr n).length ∧ nr ((clR nr n).getD ((clC nr n).getD i 0) 0) i = true ∧ ∀ c, c < (clC nr n).getD i 0 → nr ((clR nr n).getD c 0) i = false
  | 0, i, _, h => absurd h (Nat.not_lt_zero _)
  | n + 1, i, hN, h => by
    have hle := clR_mono nr (show n ≤ n + 1 by omega)
    by_cases e : i = n
    · subst e
      rw [clC_last]
      cases hf : fnd nr (clR nr i) i with
      | some c =>
        obtain ⟨h1, h2, h3⟩ := find_spec hf
        show c < _ ∧ nr ((clR nr (i + 1)).getD c 0) i = true ∧ ∀ k, k < c → _
        refine ⟨by omega, by rw [clR_getD nr i c h1]; exact h2, fun k hk => by rw [clR_getD nr i k (by omega)]; exact h3 k hk⟩
      | none =>
        show (clR nr i).length < _ ∧ nr ((clR nr (i + 1)).getD (clR nr i).length 0) i = true ∧ ∀ k, k < (clR nr i).length → _
        rw [clR_succ_none hf]
        refine ⟨by simp, by rw [getD_append_eq]; exact hself i (by omega), fun k hk => by rw [getD_append_lt _ _ hk]; exact fnd_no hf k hk⟩
    · obtain ⟨h1, h2, h3⟩ := cl_spec nr N hself n i (by omega) (by omega)
      rw [clC_getD nr n i (by omega)]
      refine ⟨by omega, by rw [clR_getD nr n _ h1]; exact h2, fun k hk => by rw [clR_getD nr n k (by omega)]; exact h3 k hk⟩

theorem cl_equiv (nr : Nat → Nat → Bool) (n : Nat) (hself : ∀ i, i < n → nr i i = true) (hsym : ∀ i j, i < n → j < n → nr i j = nr j i) (htr : ∀ i j k, i < n → j < n → k < n → nr i j = true → nr j k = true → nr i k = true) (i j : Nat) (hi : i < n) (hj : j < n) :
    ((clC nr n).getD i 0 = (clC nr n).getD j 0) ↔ nr i j = true := by
  obtain ⟨a1, a2, a3⟩ := cl_spec nr n hself n i (Nat.le_refl _) hi
  obtain ⟨b1, b2, b3⟩ := cl_spec nr n hself n j (Nat.le_refl _) hj
  have hR : ∀ c, c < (clR nr n).length → (clR nr n).getD c 0 < n := fun c hc => clR_lt nr n _ (by rw [List.getD_eq_getElem?_getD, List.getElem?_eq_getElem hc]; exact List.getElem_mem hc)
  constructor
  · intro e
    rw [← e] at b2
    rw [hsym _ _ (hR _ a1) hi] at a2
    exact htr i _ j hi (hR _ a1) hj a2 b2
  · intro e
    rcases Nat.lt_trichotomy ((clC nr n).getD i 0) ((clC nr n).getD j 0) with h | h | h
    · have := b3 _ h
      rw [htr _ i j (hR _ a1) hi hj a2 e] at this
      cases this
    · exact h
    · have := a3 _ h
      rw [htr _ j i (hR _ b1) hj hi b2 (by rw [hsym _ _ hj hi]; exact e)] at this
      cases this

/-- Equal bitmaps. -/
def eqBp (a b : Bp) : Bool := decide (a.x = b.x ∧ a.y = b.y ∧ a.l = b.l)
def szEq (a b : Bp) : Bool := decide (a.x = b.x) && decide (a.y = b.y)

theorem unl_zero {W H : Nat} {P Q : Nat → Nat → Bool} (h : unl W H P Q = 0) : ∀ x y, x < W → y < H → P x y = Q x y := fun x y hx hy => by
  have h1 : sumTo (fun x => (P x y != Q x y).toNat) W = 0 := by
    have := sumTo_mono (fun y => sumTo (fun x => (P x y != Q x y).toNat) W) (show y + 1 ≤ H by omega)
    have h2 : sumTo (fun y => sumTo (fun x => (P x y != Q x y).toNat) W) H = 0 := h
    have h3 : sumTo (fun y => sumTo (fun x => (P x y != Q x y).toNat) W) (y + 1) = sumTo (fun y => sumTo (fun x => (P x y != Q x y).toNat) W) y + sumTo (fun x => (P x y != Q x y).toNat) W := rfl
    omega
  have h4 : (P x y != Q x y).toNat = 0 := by
    have := sumTo_mono (fun x => (P x y != Q x y).toNat) (show x + 1 ≤ W by omega)
    have h3 : sumTo (fun x => (P x y != Q x y).toNat) (x + 1) = sumTo (fun x => (P x y != Q x y).toNat) x + (P x y != Q x y).toNat := rfl
    omega
  cases hp : P x y <;> cases hq : Q x y <;> simp_all
theorem unl_self (W H : Nat) (P : Nat → Nat → Bool) : unl W H P P = 0 := by
  unfold unl
  have hz : ∀ m, sumTo (fun x => (P x m != P x m).toNat) W = 0 := fun m => by
    simp only [bne_self_eq_false, Bool.toNat_false]
    induction W with
    | zero => rfl
    | succ k ih => show sumTo (fun _ => 0) k + 0 = 0; rw [ih]
  simp only [hz]
  induction H with
  | zero => rfl
  | succ k ih => show sumTo (fun _ => 0) k + 0 = 0; rw [ih]

theorem nrB_zero {t : Nat} {a b : Bp} (ht : rg t = 0) (ha : Good a) (hb : Good b) : nrB t a b = eqBp a b := by
  rw [← nrB_tol]
  unfold tolW
  rw [if_pos ht]
  obtain ⟨W, H, e1, e2, g1, g2, g3, hl, _⟩ := ha.vb
  obtain ⟨W', H', f1, f2, m1, m2, m3, hl', _⟩ := hb.vb
  unfold nrB eqBp
  rw [e1, e2, f1, f2]
  by_cases hs : W = W' ∧ H = H'
  · obtain ⟨rfl, rfl⟩ := hs
    simp only [Int.toNat_natCast, and_self, decide_true, Bool.true_and, true_and]
    rw [leB_zero (unl_area g3 _ _) (Nat.mul_pos g1 g2) g3, decide_eq_decide]
    constructor
    · intro h
      rw [hl, hl']
      exact render_congr (unl_zero h)
    · intro h
      rw [h]
      exact unl_self _ _ _
  · rw [decide_eq_false (fun h => hs ⟨by omega, by omega⟩), decide_eq_false (fun h => hs ⟨by omega, by omega⟩)]; rfl
theorem nrB_inf {a b : Bp} (ha : Good a) : nrB 9218868437227405312 a b = szEq a b := by
  obtain ⟨W, H, e1, e2, g1, g2, g3, hl, _⟩ := ha.vb
  unfold nrB szEq
  rw [e1, e2]
  simp only [Int.toNat_natCast]
  obtain ⟨s1, s2, s3, _⟩ := sh_sk (unl_area g3 (pixOf W a.l) (pixOf W b.l)) (Nat.mul_pos g1 g2) g3
  have : leB (shW (unl W H (pixOf W a.l) (pixOf W b.l)) (W * H)) 9218868437227405312 = true := by
    unfold leB
    rw [s1, show isN 9218868437227405312 = false by decide +kernel, show sk 9218868437227405312 = (infR : Int) by decide +kernel, decide_eq_true s3]; rfl
  rw [this, Bool.and_true]
  by_cases h1 : (W : Int) = b.x <;> by_cases h2 : (H : Int) = b.y <;> simp [h1, h2]
theorem nrB_self {t : Nat} {a : Bp} (ht : tolB t = true) (ha : Good a) : nrB t a a = true := by
  obtain ⟨W, H, e1, e2, g1, g2, g3, hl, _⟩ := ha.vb
  unfold nrB
  rw [e1, e2]
  simp only [Int.toNat_natCast, unl_self, and_self, decide_true, Bool.true_and]
  obtain ⟨s1, _, _, s4⟩ := sh_sk (show (0 : Nat) ≤ 1048576 by omega) (Nat.mul_pos g1 g2) g3
  have h0 := s4.2 rfl
  rw [tolB_spec, Bool.and_eq_true, decide_eq_true_iff, Bool.not_eq_true'] at ht
  unfold leB
  rw [s1, ht.1, h0, decide_eq_true ht.2]; rfl

theorem eqB_bp {w : World} {a b : Bp} (va vb : Value) (ha : Good a) (hb : Good b) (sa : Seen w va a.l) (sb : Seen w vb b.l) :
    Calls Try.prog 23 #[.agg #[.int .i64 a.x, .int .i64 a.y, va], .agg #[.int .i64 b.x, .int .i64 b.y, vb]] w fun e w' => e = .returned (.bool (eqBp a b)) ∧ Fr (fun _ => False) w w' := by
  obtain ⟨W, H, e1, e2, g1, g2, g3, _, _⟩ := ha.vb
  obtain ⟨W', H', f1, f2, m1, m2, m3, _, _⟩ := hb.vb
  unfold eqBp
  rw [e1, e2, f1, f2]
  refine (eqBitmap_any W H W' H' va vb a.l b.l w sa sb).mono ?_
  rintro e w' ⟨rfl, hf⟩
  refine ⟨?_, hf⟩
  congr 2
  rw [decide_eq_decide]
  constructor
  · rintro ⟨h1, h2, h3⟩; exact ⟨by omega, by omega, h3⟩
  · rintro ⟨h1, h2, h3⟩; exact ⟨by omega, by omega, h3⟩

end Go.Proofs.Ytodgdbbhllejkaa
