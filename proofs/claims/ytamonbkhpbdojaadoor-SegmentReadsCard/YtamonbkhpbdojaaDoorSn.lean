/- Segments' headers: a header that is cut ends too early. -/
import Derived.Test.YtamonbkhpbdojaaDoorSm
namespace Go.Proofs.YtamonbkhpbdojaaDoor
set_option maxRecDepth 100000
open Go.RowKit

theorem bindE_163 {α β : Type} [Inhabited β] {r : Nat × α} {f : α → Nat × β} (h : r.1 = 163) : (bindE r f).1 = 163 := by
  rw [bindE_no (by rw [h]; decide)]; exact h
theorem kindS_short (A : List Nat) : kindS A A.length = (163, 0, 0) := by unfold kindS; rw [if_pos (Nat.le_refl _)]
theorem flgS_short (A : List Nat) (x : List Nat) (c : Nat) (h : x.length < c / 8 + 1) : (flgS (A ++ x) A.length c).1 = 163 := by
  unfold flgS; rw [if_pos (by rw [List.length_append]; omega)]
theorem take_parts (x y : List Nat) (k : Nat) : (k < x.length ∧ (x ++ y).take k = x.take k) ∨ (∃ j, k = x.length + j ∧ (x ++ y).take k = x ++ y.take j) := by
  by_cases h : k < x.length
  · exact Or.inl ⟨h, List.take_append_of_le_length (by omega)⟩
  · exact Or.inr ⟨k - x.length, by omega, by rw [List.take_append, List.take_of_length_le (by omega)]⟩

theorem segS_cut (A : List Nat) (s : Seg) (d k : Nat) (h : OkS s d) (hA : Byts A) (hk : k < (hdrB s d).length) : (segS (A ++ (hdrB s d).take k) A.length).1 = 163 := by
  have b1 := h.num
  have b2 := Nat.le_trans h.p2 (rHi_le _)
  have b3 := Nat.le_trans h.many (mostN_le _ _)
  have b4 := Nat.le_trans h.data (rData_le _)
  have b5 := h.k2
  have g1 : Byts (groups s.num) := groups_lt_u64 _ (by omega)
  have g2 : Byts [s.kind] := fun x hx => by simp at hx; omega
  have g3 : Byts (groups s.page) := groups_lt_u64 _ (by omega)
  have g4 : Byts (groups s.refs.length) := groups_lt_u64 _ (by omega)
  have g5 : Byts (gAll s.refs) := gAll_lt h.rise (by omega)
  have g6 : Byts (pack (s.keep ++ [s.stay])) := pack_lt _
  have g7 : Byts (groups d) := groups_lt_u64 _ (by omega)
  have a1 := hA.app g1
  have a2 := a1.app g2
  have a3 := a2.app g3
  have a4 := a3.app g4
  have a5 := a4.app g5
  have a6 := a5.app g6
  have r6 := g6.app g7
  have r5 := g5.app r6
  have r4 := g4.app r5
  have r3 := g3.app r4
  have r2 := g2.app r3
  unfold segS
  unfold hdrB at hk ⊢
  rw [List.length_append] at hk
  rcases take_parts (groups s.num) ([s.kind] ++ (groups s.page ++ (groups s.refs.length ++ (gAll s.refs ++ (pack (s.keep ++ [s.stay]) ++ groups d))))) k with ⟨hk1, e⟩ | ⟨k1, rfl, e⟩
  · rw [e]; exact bindE_163 (numS_short A s.num k 0 32767 hA (by omega) hk1)
  rw [e, numS_fwd A _ s.num 0 32767 hA (r2.take _) (by omega) (by omega) h.num, bindE_ok rfl, ← List.append_assoc]
  dsimp only
  clear e
  have hk := Nat.lt_of_add_lt_add_left hk
  rw [List.length_append] at hk
  rcases take_parts [s.kind] (groups s.page ++ (groups s.refs.length ++ (gAll s.refs ++ (pack (s.keep ++ [s.stay]) ++ groups d)))) k1 with ⟨hk1, e⟩ | ⟨k2, rfl, e⟩
  · rw [e, show k1 = 0 by simp at hk1; exact hk1, List.take_zero, List.append_nil, kindS_short]; exact bindE_163 rfl
  rw [e, kindS_fwd _ _ s.kind h.k1 h.k2, bindE_ok rfl, ← List.append_assoc]
  dsimp only
  clear e
  have hk := Nat.lt_of_add_lt_add_left hk
  rw [List.length_append] at hk
  rcases take_parts (groups s.page) (groups s.refs.length ++ (gAll s.refs ++ (pack (s.keep ++ [s.stay]) ++ groups d))) k2 with ⟨hk1, e⟩ | ⟨k3, rfl, e⟩
  · rw [e]; exact bindE_163 (numS_short _ s.page k2 _ _ a2 (by omega) hk1)
  rw [e, numS_fwd _ _ s.page _ _ a2 (r4.take _) (by omega) h.p1 h.p2, bindE_ok rfl, ← List.append_assoc]
  dsimp only
  clear e
  have hk := Nat.lt_of_add_lt_add_left hk
  rw [List.length_append] at hk
  rcases take_parts (groups s.refs.length) (gAll s.refs ++ (pack (s.keep ++ [s.stay]) ++ groups d)) k3 with ⟨hk1, e⟩ | ⟨k4, rfl, e⟩
  · rw [e]; exact bindE_163 (numS_short _ s.refs.length k3 _ _ a3 (by omega) hk1)
  rw [e, numS_fwd _ _ s.refs.length _ _ a3 (r5.take _) (by omega) (by omega) h.many, bindE_ok rfl, ← List.append_assoc]
  dsimp only
  clear e
  have hk := Nat.lt_of_add_lt_add_left hk
  rw [List.length_append] at hk
  rcases take_parts (gAll s.refs) (pack (s.keep ++ [s.stay]) ++ groups d) k4 with ⟨hk1, e⟩ | ⟨k5, rfl, e⟩
  · rw [e]; exact bindE_163 (risS_short (s.num - 1) (by omega) s.refs _ k4 0 a4 h.rise hk1)
  rw [e, risS_fwd (s.num - 1) (by omega) s.refs _ _ 0 a4 (r6.take _) h.rise, bindE_ok rfl, ← List.append_assoc]
  dsimp only
  clear e
  have hk := Nat.lt_of_add_lt_add_left hk
  rw [List.length_append] at hk
  rcases take_parts (pack (s.keep ++ [s.stay])) (groups d) k5 with ⟨hk1, e⟩ | ⟨k6, rfl, e⟩
  · rw [e]
    refine bindE_163 (flgS_short _ _ _ ?_)
    rw [length_pack] at hk1
    rw [List.length_take, ← h.keep]
    simp at hk1
    omega
  have e6 := flgS_fwd (A ++ groups s.num ++ [s.kind] ++ groups s.page ++ groups s.refs.length ++ gAll s.refs) ((groups d).take k6) s.keep s.stay
  rw [h.keep] at e6
  rw [e, e6, bindE_ok rfl, ← List.append_assoc]
  dsimp only
  rw [show stayS (rStay s.kind) s.stay = (0, ()) by unfold stayS; rw [if_pos h.stay], bindE_ok rfl]
  try dsimp only
  exact bindE_163 (numS_short _ d k6 _ _ a6 (by omega) (Nat.lt_of_add_lt_add_left hk))
end Go.Proofs.YtamonbkhpbdojaaDoor
