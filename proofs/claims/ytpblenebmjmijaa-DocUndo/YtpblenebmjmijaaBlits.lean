/- 'Blit' by pixels: from another map, and within one. -/
import Derived.Test.YtpblenebmjmijaaBlit
import Derived.Test.YtpblenebmjmijaaMoveUp
import Derived.Test.YtpblenebmjmijaaMoveDown
import Derived.Test.YtpblenebmjmijaaLay49
import Derived.Test.YtpblenebmjmijaaLay50
import Derived.Test.YtpblenebmjmijaaLay51
import Derived.Test.YtpblenebmjmijaaLay52
import Derived.Test.YtpblenebmjmijaaLay53
namespace Go.Proofs.Ytpblenebmjmijaa
open Go.RowKit

def opB (op : Nat) (d s : Bool) : Bool := if op = 0 then d || s else if op = 1 then d && s else if op = 2 then xor d s else if op = 3 then !(xor d s) else s

theorem layOps (op : Nat) (h : op ≤ 4) : LayOK (opFn op) (opB op) := by
  intro b g cap W H P y fr to n gl L l w h1 h2 h3 h4 h5 h6 h7 h8 h9
  rcases (show op = 0 ∨ op = 1 ∨ op = 2 ∨ op = 3 ∨ op = 4 from by omega) with rfl | rfl | rfl | rfl | rfl
  · exact lay_49 _ _ isOr b g cap W H P y fr to n gl L l w h1 h2 h3 h4 h5 h6 h7 h8 h9
  · exact lay_50 _ _ isAnd b g cap W H P y fr to n gl L l w h1 h2 h3 h4 h5 h6 h7 h8 h9
  · exact lay_51 _ _ isXor b g cap W H P y fr to n gl L l w h1 h2 h3 h4 h5 h6 h7 h8 h9
  · exact lay_52 _ _ isXnor b g cap W H P y fr to n gl L l w h1 h2 h3 h4 h5 h6 h7 h8 h9
  · exact lay_53 _ _ isReplace b g cap W H P y fr to n gl L l w h1 h2 h3 h4 h5 h6 h7 h8 h9

/-- A rectangle's rows, of which those are laid that D says. -/
def rowsLaid (o : Bool → Bool → Bool) (P Ps : Nat → Nat → Bool) (p1 q1 n1 p2 q2 n2 : Nat) (D : Nat → Prop) [DecidablePred D] : Nat → Nat → Bool :=
  fun a y => if (q1 ≤ a ∧ a < q1 + n1) ∧ (q2 ≤ y ∧ y < q2 + n2) ∧ D (y - q2) then o (P a y) (Ps (a - q1 + p1) (y - q2 + p2)) else P a y

/-- The blit, pixel by pixel. -/
def blitPix (o : Bool → Bool → Bool) (P Ps : Nat → Nat → Bool) (Ws Hs : Nat) (sx sy ww hh dx dy : Int) : Nat → Nat → Bool :=
  fun a y => if (0 ≤ (a : Int) - dx ∧ (a : Int) - dx < ww ∧ 0 ≤ sx + ((a : Int) - dx) ∧ sx + ((a : Int) - dx) < Ws) ∧ (0 ≤ (y : Int) - dy ∧ (y : Int) - dy < hh ∧ 0 ≤ sy + ((y : Int) - dy) ∧ sy + ((y : Int) - dy) < Hs)
    then o (P a y) (Ps (sx + ((a : Int) - dx)).toNat (sy + ((y : Int) - dy)).toNat) else P a y

theorem clip_in {fr to n : Int} {fe te a b c : Nat} (h : Clip fr fe to te n a b c) (x : Nat) (hx : x < te) :
    (0 ≤ (x : Int) - to ∧ (x : Int) - to < n ∧ 0 ≤ fr + ((x : Int) - to) ∧ fr + ((x : Int) - to) < fe) ↔ (b ≤ x ∧ x < b + c) := by
  have h1 := h.ha
  have h2 := h.hb
  have h3 := h.off
  have h4 := h.own
  constructor
  · rintro ⟨u1, u2, u3, u4⟩
    have := (h.iff ((x : Int) - to) u1 u2).1 ⟨u3, u4, by omega, by omega⟩
    omega
  · rintro ⟨u1, u2⟩
    omega
theorem clip_src {fr to n : Int} {fe te a b c : Nat} (h : Clip fr fe to te n a b c) (x : Nat) (h1 : b ≤ x) (h2 : x < b + c) : (fr + ((x : Int) - to)).toNat = x - b + a := by
  have h3 := h.off
  omega

theorem blit_pix {o : Bool → Bool → Bool} {P Ps : Nat → Nat → Bool} {W H Ws Hs p1 q1 n1 p2 q2 n2 : Nat} {sx sy ww hh dx dy : Int} (c1 : Clip sx Ws dx W ww p1 q1 n1) (c2 : Clip sy Hs dy H hh p2 q2 n2) (D : Nat → Prop) [DecidablePred D] (hD : ∀ j, j < n2 → D j) :
    ∀ x y, x < W → y < H → rowsLaid o P Ps p1 q1 n1 p2 q2 n2 D x y = blitPix o P Ps Ws Hs sx sy ww hh dx dy x y := by
  intro x y hx hy
  unfold rowsLaid blitPix
  have e1 := clip_in c1 x hx
  have e2 := clip_in c2 y hy
  by_cases h1 : q1 ≤ x ∧ x < q1 + n1
  · by_cases h2 : q2 ≤ y ∧ y < q2 + n2
    · rw [if_pos ⟨h1, h2, hD _ (by omega)⟩, if_pos ⟨e1.2 h1, e2.2 h2⟩, clip_src c1 x h1.1 h1.2, clip_src c2 y h2.1 h2.2]
    · rw [if_neg (fun h => h2 h.2.1), if_neg (fun h => h2 (e2.1 h.2))]
  · rw [if_neg (fun h => h1 h.1), if_neg (fun h => h1 (e1.1 h.1))]

/-- One row more. -/
theorem rows_step (o : Bool → Bool → Bool) (P Ps : Nat → Nat → Bool) (p1 q1 n1 p2 q2 n2 j : Nat) (D D' : Nat → Prop) [DecidablePred D] [DecidablePred D'] (hj : j < n2) (hD : ∀ i, i < n2 → (D' i ↔ D i ∨ i = j)) (hn : ¬ D j) :
    laidAll (rowsLaid o P Ps p1 q1 n1 p2 q2 n2 D) (q2 + j) q1 n1 (fun a => o (rowsLaid o P Ps p1 q1 n1 p2 q2 n2 D a (q2 + j)) (Ps (a - q1 + p1) (p2 + j))) = rowsLaid o P Ps p1 q1 n1 p2 q2 n2 D' := by
  funext a y
  unfold laidAll
  by_cases h1 : y = q2 + j ∧ q1 ≤ a ∧ a < q1 + n1
  · obtain ⟨rfl, h2, h3⟩ := h1
    rw [if_pos ⟨rfl, h2, h3⟩]
    dsimp only
    have e1 : rowsLaid o P Ps p1 q1 n1 p2 q2 n2 D a (q2 + j) = P a (q2 + j) := by
      unfold rowsLaid
      rw [if_neg]
      rintro ⟨_, _, h⟩
      rw [show q2 + j - q2 = j from by omega] at h
      exact hn h
    rw [e1]
    unfold rowsLaid
    rw [if_pos ⟨⟨h2, h3⟩, ⟨by omega, by omega⟩, by rw [show q2 + j - q2 = j from by omega]; exact (hD j hj).2 (Or.inr rfl)⟩]
    rw [show q2 + j - q2 + p2 = p2 + j from by omega]
  · rw [if_neg h1]
    unfold rowsLaid
    by_cases h2 : (q1 ≤ a ∧ a < q1 + n1) ∧ (q2 ≤ y ∧ y < q2 + n2)
    · have hij : y - q2 ≠ j := fun e => h1 ⟨by omega, h2.1.1, h2.1.2⟩
      by_cases h3 : D (y - q2)
      · rw [if_pos ⟨h2.1, h2.2, h3⟩, if_pos ⟨h2.1, h2.2, (hD _ (by omega)).2 (Or.inl h3)⟩]
      · rw [if_neg (fun h => h3 h.2.2), if_neg]
        rintro ⟨_, _, h⟩
        rcases (hD _ (by omega)).1 h with h | h
        · exact h3 h
        · exact hij h
    · rw [if_neg (fun h => h2 ⟨h.1, h.2.1⟩), if_neg (fun h => h2 ⟨h.1, h.2.1⟩)]

theorem rows_none (o : Bool → Bool → Bool) (P Ps : Nat → Nat → Bool) (p1 q1 n1 p2 q2 n2 : Nat) (D : Nat → Prop) [DecidablePred D] (hD : ∀ j, j < n2 → ¬ D j) : rowsLaid o P Ps p1 q1 n1 p2 q2 n2 D = P := by
  funext a y
  unfold rowsLaid
  rw [if_neg]
  rintro ⟨_, h, h2⟩
  exact hD _ (by omega) h2

theorem blit_other (op b g cap W H bs gs caps Ws Hs : Nat) (P Ps : Nat → Nat → Bool) (sx sy ww hh dx dy : Int) (w : World) (h : MapAt w b g cap W H P) (hs : MapAt w bs gs caps Ws Hs Ps) (hop : op ≤ 4) (hne : bs ≠ b) (hbg : bs ≠ g) (hgg : gs ≠ g)
    (b1 : -9223372036854775808 ≤ sx ∧ sx ≤ 9223372036854775807) (b2 : -9223372036854775808 ≤ sy ∧ sy ≤ 9223372036854775807) (b3 : 0 ≤ ww ∧ ww ≤ 9223372036854775807) (b4 : 0 ≤ hh ∧ hh ≤ 9223372036854775807) (b5 : -9223372036854775808 ≤ dx ∧ dx ≤ 9223372036854775807) (b6 : -9223372036854775808 ≤ dy ∧ dy ≤ 9223372036854775807) :
    Calls Try.prog 31 #[.pointer (some ⟨b, 0, none⟩), .pointer (some ⟨bs, 0, none⟩), .int .i64 sx, .int .i64 sy, .int .i64 ww, .int .i64 hh, .int .i64 dx, .int .i64 dy, .int .i64 op] w fun e w' => e = .returned (.int .i64 0) ∧ MapAt w' b g cap W H (blitPix (opB op) P Ps Ws Hs sx sy ww hh dx dy) ∧ Fr (fun k => k = g) w w' := by
  refine blit_core b g cap W H bs gs caps Ws Hs op P Ps sx sy ww hh dx dy (fun w' => MapAt w' b g cap W H (blitPix (opB op) P Ps Ws Hs sx sy ww hh dx dy)) w h hs hop hbg b1 b2 b3 b4 b5 b6 ?_
  intro w' p1 q1 n1 p2 q2 n2 hf c1 c2
  refine (move_other (opFn op) op (opB op) (layOps op hop) b g cap W H bs gs caps Ws Hs (fun k => rowsLaid (opB op) P Ps p1 q1 n1 p2 q2 n2 (fun j => j < k)) Ps p1 q1 n1 p2 q2 n2 w' ?_ (hs.kept hf (fun x => x) (fun x => x)) hne hbg hgg c1.ha c1.hb c2.ha c2.hb (fun _ _ _ _ => rfl) ?_).mono ?_
  · rw [rows_none _ _ _ _ _ _ _ _ _ _ (fun j _ => by omega)]
    exact h.kept hf (fun x => x) (fun x => x)
  · intro k hk
    exact rows_step (opB op) P Ps p1 q1 n1 p2 q2 n2 k (fun j => j < k) (fun j => j < k + 1) hk (fun i _ => by omega) (by omega)
  · rintro e w'' ⟨he, hm, hfr⟩
    exact ⟨he, hm.pix (blit_pix c1 c2 _ (fun j hj => hj)), hfr⟩

theorem blit_self (op b g cap W H : Nat) (P : Nat → Nat → Bool) (sx sy ww hh dx dy : Int) (w : World) (h : MapAt w b g cap W H P) (hop : op ≤ 4)
    (b1 : -9223372036854775808 ≤ sx ∧ sx ≤ 9223372036854775807) (b2 : -9223372036854775808 ≤ sy ∧ sy ≤ 9223372036854775807) (b3 : 0 ≤ ww ∧ ww ≤ 9223372036854775807) (b4 : 0 ≤ hh ∧ hh ≤ 9223372036854775807) (b5 : -9223372036854775808 ≤ dx ∧ dx ≤ 9223372036854775807) (b6 : -9223372036854775808 ≤ dy ∧ dy ≤ 9223372036854775807) :
    Calls Try.prog 31 #[.pointer (some ⟨b, 0, none⟩), .pointer (some ⟨b, 0, none⟩), .int .i64 sx, .int .i64 sy, .int .i64 ww, .int .i64 hh, .int .i64 dx, .int .i64 dy, .int .i64 op] w fun e w' => e = .returned (.int .i64 0) ∧ MapAt w' b g cap W H (blitPix (opB op) P P W H sx sy ww hh dx dy) ∧ Fr (fun k => k = g) w w' := by
  refine blit_core b g cap W H b g cap W H op P P sx sy ww hh dx dy (fun w' => MapAt w' b g cap W H (blitPix (opB op) P P W H sx sy ww hh dx dy)) w h h hop (fun e => h.ne e.symm) b1 b2 b3 b4 b5 b6 ?_
  intro w' p1 q1 n1 p2 q2 n2 hf c1 c2
  rcases Nat.lt_or_ge p2 q2 with hd | hd
  · refine (move_down (opFn op) op (opB op) (layOps op hop) b g cap W H (fun k => rowsLaid (opB op) P P p1 q1 n1 p2 q2 n2 (fun j => n2 - k ≤ j)) P p1 q1 n1 p2 q2 n2 w' ?_ c1.ha c1.hb c2.ha c2.hb hd ?_ ?_).mono ?_
    · rw [rows_none _ _ _ _ _ _ _ _ _ _ (fun j hj => by omega)]
      exact h.kept hf (fun x => x) (fun x => x)
    · intro k x hk _
      unfold rowsLaid
      rw [if_neg]
      rintro ⟨_, h1, h2⟩
      omega
    · intro k hk
      exact rows_step (opB op) P P p1 q1 n1 p2 q2 n2 (n2 - 1 - k) (fun j => n2 - k ≤ j) (fun j => n2 - (k + 1) ≤ j) (by omega) (fun i _ => by omega) (by omega)
    · rintro e w'' ⟨he, hm, hfr⟩
      exact ⟨he, hm.pix (blit_pix c1 c2 _ (fun j _ => by omega)), hfr⟩
  · refine (move_up (opFn op) op (opB op) (layOps op hop) b g cap W H (fun k => rowsLaid (opB op) P P p1 q1 n1 p2 q2 n2 (fun j => j < k)) P p1 q1 n1 p2 q2 n2 w' ?_ c1.ha c1.hb c2.ha c2.hb hd ?_ ?_).mono ?_
    · rw [rows_none _ _ _ _ _ _ _ _ _ _ (fun j _ => by omega)]
      exact h.kept hf (fun x => x) (fun x => x)
    · intro k x hk _
      unfold rowsLaid
      rw [if_neg]
      rintro ⟨_, h1, h2⟩
      omega
    · intro k hk
      exact rows_step (opB op) P P p1 q1 n1 p2 q2 n2 k (fun j => j < k) (fun j => j < k + 1) hk (fun i _ => by omega) (by omega)
    · rintro e w'' ⟨he, hm, hfr⟩
      exact ⟨he, hm.pix (blit_pix c1 c2 _ (fun j hj => hj)), hfr⟩

end Go.Proofs.Ytpblenebmjmijaa
