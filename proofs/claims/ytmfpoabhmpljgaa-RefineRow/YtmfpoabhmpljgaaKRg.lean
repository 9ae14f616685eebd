/- Bitmaps, one behind the other, in one coder. -/
import Derived.Test.YtmfpoabhmpljgaaKEn
import Derived.Test.YtmfpoabhmpljgaaKPr
namespace Go.Proofs.Ytmfpoabhmpljgaa
open Go.RowKit

/-- An Ask that may be. -/
def akGood (a : Ak) : Prop := validB a.x a.y a.l = true ∧ validB a.rx a.ry a.rl = true ∧ lightB a.x a.y a.l = true ∧ lightB a.rx a.ry a.rl = true ∧ mayS a.dx a.dy = true
theorem akGood.form {a : Ak} (h : akGood a) {w : World} (hw : AkOK w a) : ∃ (W H V U : Nat), a.x = W ∧ a.y = H ∧ a.rx = V ∧ a.ry = U ∧ Bm w a.v W H (pixOf W a.l) ∧ Bm w a.rv V U (pixOf V a.rl) ∧ W * H ≤ 4000 ∧ H * W ≤ 4000 ∧ (-1048576 ≤ a.dx ∧ a.dx ≤ 1048576) ∧ (-1048576 ≤ a.dy ∧ a.dy ≤ 1048576) := by
  obtain ⟨W, H, e1, e2, e3, hb⟩ := valid_bm2 h.1 hw.b.hv hw.b.hc hw.b.hlt
  obtain ⟨V, U, e4, e5, e6, hr⟩ := valid_bm2 h.2.1 hw.r.hv hw.r.hc hw.r.hlt
  have h6 := light_valid h.2.2.1 h.1
  have hm := of_decide_eq_true h.2.2.2.2
  rw [e1, e2, ← Int.natCast_mul] at h6
  have h7 : W * H ≤ 4000 := by omega
  exact ⟨W, H, V, U, e1, e2, e4, e5, hb, hr, h7, by rw [Nat.mul_comm]; exact h7, hm.1, hm.2⟩
/-- Its contexts; its decisions. -/
def akC (a : Ak) : Cxf := cxR a.x.toNat (refP a.rx.toNat a.ry.toNat (pixOf a.rx.toNat a.rl) a.dx a.dy)
def akL (base : Nat) (a : Ak) : List (Int × Nat) := rowsD (akC a) base a.x.toNat (pixOf a.x.toNat a.l) a.y.toNat
def allL (base : Nat) (A : Nat → Ak) : Nat → List (Int × Nat)
  | 0 => []
  | k + 1 => allL base A k ++ akL base (A k)
theorem allL_bits (base : Nat) (A : Nat → Ak) : ∀ k, ∀ p ∈ allL base A k, p.2 < 2
  | 0, p, h => by simp [allL] at h
  | k + 1, p, h => by
    rw [allL, List.mem_append] at h
    rcases h with h | h
    · exact allL_bits base A k p h
    · exact rowsD_bits _ _ _ _ _ p h
theorem akL_length {base : Nat} {a : Ak} {w : World} (h : akGood a) (hw : AkOK w a) : (akL base a).length ≤ 4000 := by
  obtain ⟨W, H, V, U, e1, e2, _, _, _, _, _, h6, _⟩ := h.form hw
  have := rowsD_length (akC a) base a.x.toNat (pixOf a.x.toNat a.l) a.y.toNat
  unfold akL
  rw [e1, e2] at *
  simp only [Int.toNat_natCast] at *
  omega
theorem allL_length {base : Nat} {A : Nat → Ak} {w : World} : ∀ k, (∀ j, j < k → akGood (A j) ∧ AkOK w (A j)) → (allL base A k).length ≤ 4000 * k
  | 0, _ => by simp [allL]
  | k + 1, h => by
    rw [allL, List.length_append]
    have h1 := allL_length (base := base) k (fun j hj => h j (by omega))
    have h2 := akL_length (base := base) (h k (by omega)).1 (h k (by omega)).2
    omega
theorem allL_front (base : Nat) (A : Nat → Ak) (i : Nat) : ∀ k, ∃ post, allL base A (i + k) = allL base A i ++ post
  | 0 => ⟨[], by simp⟩
  | k + 1 => by
    obtain ⟨post, e⟩ := allL_front base A i k
    exact ⟨post ++ akL base (A (i + k)), by rw [← Nat.add_assoc, allL, e, List.append_assoc]⟩
/-- What the decoder says of one of them. -/
theorem row_back {n base m i : Nat} {A : Nat → Ak} {w : World} (h1 : 1 ≤ n) (h2 : n ≤ 131072) (hm : m ≤ 5) (hg : ∀ j, j < m → akGood (A j) ∧ AkOK w (A j)) (hi : i < m) :
    gotW (codedB n (allL base A m)) (akC (A i)) base (A i).x.toNat (A i).y.toNat (decL n (allL base A m) (allL base A i).length) = (decL n (allL base A m) (allL base A (i + 1)).length, cur (A i).x.toNat (pixOf (A i).x.toNat (A i).l) (A i).y.toNat 0) := by
  obtain ⟨post, e⟩ := allL_front base A (i + 1) (m - (i + 1))
  rw [show i + 1 + (m - (i + 1)) = m by omega, allL] at e
  have hl := allL_length (base := base) m hg
  have := thrW_back (n := n) (L := allL base A m) h1 h2 (allL_bits base A m) (by omega) (akC (A i)) base (A i).x.toNat (cxR_ahead _ _) (pixOf (A i).x.toNat (A i).l) (allL base A i) (A i).y.toNat ⟨post, e⟩
  unfold gotW
  rw [this, allL, List.length_append]
  rfl
theorem row_states {n base m : Nat} {A : Nat → Ak} {w : World} (h1 : 1 ≤ n) (h2 : n ≤ 131072) (hm : m ≤ 5) (hg : ∀ j, j < m → akGood (A j) ∧ AkOK w (A j)) : (decL n (allL base A m) (allL base A m).length).x = (runL (newP n) (allL base A m)).x := by
  have hl := allL_length (base := base) m hg
  have := (back_list (n := n) (L := allL base A m) h1 h2 (allL_bits base A m) (by omega) _ (Nat.le_refl _)).1
  rw [List.take_length] at this
  exact this
/-- How many pixels. -/
def sumN (A : Nat → Ak) : Nat → Int
  | 0 => 0
  | k + 1 => sumN A k + (A k).x * (A k).y
theorem akGood.pix {a : Ak} (h : akGood a) {w : World} (hw : AkOK w a) : 0 ≤ a.x * a.y ∧ a.x * a.y ≤ 4000 ∧ 0 ≤ a.x ∧ a.x ≤ 4000 ∧ 0 ≤ a.y ∧ a.y ≤ 4000 := by
  obtain ⟨W, H, V, U, e1, e2, _, _, hb, _, h6, _, _⟩ := h.form hw
  have k1 : W * 1 ≤ W * H := Nat.mul_le_mul_left _ hb.h2
  have k2 : 1 * H ≤ W * H := Nat.mul_le_mul_right _ hb.h1
  rw [e1, e2, ← Int.natCast_mul]
  omega
theorem sumN_le {A : Nat → Ak} {w : World} : ∀ k, (∀ j, j < k → akGood (A j) ∧ AkOK w (A j)) → 0 ≤ sumN A k ∧ sumN A k ≤ 4000 * k
  | 0, _ => by simp [sumN]
  | k + 1, h => by
    obtain ⟨a, b⟩ := sumN_le k (fun j hj => h j (by omega))
    obtain ⟨c, d, _⟩ := (h k (by omega)).1.pix (h k (by omega)).2
    rw [sumN]
    omega

end Go.Proofs.Ytmfpoabhmpljgaa
