/- Text 'Spread': what stands between the pixels makes no difference. -/
import Derived.Test.YtpfajkkjnobdlaaDoorNu
import Derived.Test.YtpfajkkjnobdlaaDoorLk
namespace Go.Proofs.YtpfajkkjnobdlaaDoor
set_option maxRecDepth 100000
open Go.RowKit

def btL (k : Nat) : List UInt8 := match k with
  | 0 => []
  | 1 => [32]
  | 2 => [10]
  | 3 => [9, 13]
  | 4 => [35, 49, 32, 48, 10]
  | 5 => [32, 35, 32, 120, 35, 10, 35, 10]
  | _ => [11, 12]
theorem btL_tr (k : Nat) : Tr ((btL k).map UInt8.toNat) := by
  unfold btL
  split <;> exact fun r => rfl
theorem btL_len (k : Nat) : (btL k).length ≤ 8 := by
  unfold btL
  split <;> simp

def hdS (W H : Nat) : List Nat := [80, 49, 32, 35, 80, 52, 32, 57, 32, 57, 10] ++ decN W ++ [10] ++ decN H
def bitsP (W : Nat) (P : Nat → Nat → Bool) (p : Nat) : List Bool := (List.range p).map fun i => P (i % W) (i / W)

/-- A file so far: its head, what reads as p pixels. -/
structure SPr (W H : Nat) (P : Nat → Nat → Bool) (F : ByteArray) (p : Nat) : Prop where
  ex : ∃ (L : List UInt8) (tl : List Nat), F = str L ∧ L.map UInt8.toNat = hdS W H ++ 32 :: tl ∧ L.length ≤ 3145728 + 16 * p ∧ ∀ k t, finS (k + p) [] (tl ++ t) = finS k (bitsP W P p) t

theorem SPr.gap {W H : Nat} {P : Nat → Nat → Bool} {F : ByteArray} {p : Nat} (h : SPr W H P F p) (hp : p ≤ 3000) (j : Nat) : ∃ F2, (∀ w, (Op.stringOp .add F (str (btL j))).run Tryd.prog w = .ok (.string F2) w) ∧ ∃ (L : List UInt8) (tl : List Nat), F2 = str L ∧ L.map UInt8.toNat = hdS W H ++ 32 :: tl ∧ L.length ≤ 3145728 + 16 * p + 8 ∧ ∀ k t, finS (k + 1 + p) [] (tl ++ t) = finS (k + 1) (bitsP W P p) t := by
  obtain ⟨L, tl, rfl, e, hl, hf⟩ := h.ex
  have hb := btL_len j
  refine ⟨str (L ++ btL j), fun w => str_add w L (btL j) (by omega) (by omega), L ++ btL j, tl ++ (btL j).map UInt8.toNat, rfl, by rw [List.map_append, e, List.append_assoc, List.cons_append], by rw [List.length_append]; omega, fun k t => ?_⟩
  rw [List.append_assoc, hf (k + 1), finS_tr (btL_tr j)]
theorem SPr.same {W H : Nat} {P : Nat → Nat → Bool} {F : ByteArray} {p : Nat} (h : SPr W H P F p) : ∃ (L : List UInt8) (tl : List Nat), F = str L ∧ L.map UInt8.toNat = hdS W H ++ 32 :: tl ∧ L.length ≤ 3145728 + 16 * p + 8 ∧ ∀ k t, finS (k + 1 + p) [] (tl ++ t) = finS (k + 1) (bitsP W P p) t := by
  obtain ⟨L, tl, rfl, e, hl, hf⟩ := h.ex
  exact ⟨L, tl, rfl, e, by omega, fun k t => hf (k + 1) t⟩
theorem SPr.pix {W H : Nat} {P : Nat → Nat → Bool} {F : ByteArray} {p : Nat} (h : ∃ (L : List UInt8) (tl : List Nat), F = str L ∧ L.map UInt8.toNat = hdS W H ++ 32 :: tl ∧ L.length ≤ 3145728 + 16 * p + 8 ∧ ∀ k t, finS (k + 1 + p) [] (tl ++ t) = finS (k + 1) (bitsP W P p) t) (hp : p ≤ 3000) (c : Nat) (hc : c = dgt (P (p % W) (p / W))) : ∃ F2, (∀ w, (Op.stringOp .add F (str [UInt8.ofNat c])).run Tryd.prog w = .ok (.string F2) w) ∧ SPr W H P F2 (p + 1) := by
  obtain ⟨L, tl, rfl, e, hl, hf⟩ := h
  refine ⟨str (L ++ [UInt8.ofNat c]), fun w => str_add w L [UInt8.ofNat c] (by omega) (by show 1 ≤ 8388608; omega), ⟨L ++ [UInt8.ofNat c], tl ++ [c], rfl, ?_, by rw [List.length_append]; show L.length + 1 ≤ _; omega, fun k t => ?_⟩⟩
  · rw [List.map_append, e, List.append_assoc, List.cons_append]
    have : c < 256 := by rw [hc]; unfold dgt; cases P (p % W) (p / W) <;> simp
    simp [UInt8.toNat_ofNat']
    omega
  · rw [List.append_assoc, show k + (p + 1) = k + 1 + p from by omega, hf k, hc, List.singleton_append, finS_dgt]
    unfold bitsP
    rw [List.range_succ, List.map_append]
    rfl
theorem SPr.read {W H : Nat} {P : Nat → Nat → Bool} {F : ByteArray} (hs : sizeS W H = true) (h : SPr W H P F (W * H)) (hp : W * H ≤ 3000) : ∃ F2, (∀ w, (Op.stringOp .add F (str [32, 35, 32, 101, 110, 100])).run Tryd.prog w = .ok (.string F2) w) ∧ F2.size ≤ 8388608 ∧ ∃ Q, readS (F2.data.toList.map UInt8.toNat) = .ok (W, H, Q) ∧ ∀ x y, x < W → y < H → Q x y = P x y := by
  obtain ⟨L, tl, rfl, e, hl, hf⟩ := h.ex
  obtain ⟨f1, f2⟩ := size_le hs
  obtain ⟨z1, z2, z3⟩ := sizeS_iff.1 hs
  refine ⟨str (L ++ [32, 35, 32, 101, 110, 100]), fun w => str_add w L _ (by omega) (by show 6 ≤ 8388608; omega), by rw [str_size, List.length_append]; show L.length + 6 ≤ _; omega, plcT W (bitsP W P (W * H)), ?_, ?_⟩
  · have hm : (str (L ++ [32, 35, 32, 101, 110, 100])).data.toList.map UInt8.toNat = 80 :: 49 :: ([32, 35, 80, 52, 32, 57, 32, 57, 10] ++ decN W ++ 10 :: (decN H ++ 32 :: (tl ++ [32, 35, 32, 101, 110, 100]))) := by
      show (L ++ [32, 35, 32, 101, 110, 100]).map UInt8.toNat = _
      rw [List.map_append, e]
      unfold hdS
      simp
    rw [hm]
    have hfin : finS (W * H) [] (32 :: (tl ++ [32, 35, 32, 101, 110, 100])) = .ok (bitsP W P (W * H), []) := by
      have h1 := finS_tr tr_bl (W * H) [] (tl ++ [32, 35, 32, 101, 110, 100])
      rw [List.singleton_append] at h1
      have := hf 0 [32, 35, 32, 101, 110, 100]
      rw [Nat.zero_add] at this
      rw [h1, this]
      rfl
    simp only [readS]
    unfold bodyS
    rw [numberS_dec [32, 35, 80, 52, 32, 57, 32, 57, 10] W (by omega) 10 _ rfl (fun r => rfl) (by simp)]
    have h2 := numberS_dec [10] H (by omega) 32 (tl ++ [32, 35, 32, 101, 110, 100]) rfl tr_lf (by simp)
    simp only [List.cons_append, List.nil_append] at h2
    simp only [h2, hs, if_true]
    rw [digitsS_fin, hfin]
    rfl
  · intro x y hx hy
    unfold plcT bitsP
    have hlt : y * W + x < W * H := by
      have h3 : (y + 1) * W ≤ H * W := Nat.mul_le_mul_right _ hy
      rw [Nat.add_mul, Nat.mul_comm H] at h3
      omega
    rw [List.getD_eq_getElem?_getD, List.getElem?_map, List.getElem?_range hlt]
    simp only [Option.map_some, Option.getD_some]
    rw [Nat.mul_comm, Nat.mul_add_mod, Nat.mod_eq_of_lt hx, Nat.mul_add_div (by omega), Nat.div_eq_of_lt hx, Nat.add_zero]
end Go.Proofs.YtpfajkkjnobdlaaDoor
