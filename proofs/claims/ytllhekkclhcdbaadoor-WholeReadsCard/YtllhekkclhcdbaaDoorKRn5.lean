/- The document's own answer of whole: May, next, Bits. -/
import Derived.Test.YtllhekkclhcdbaaDoorKWb
import Derived.Test.YtllhekkclhcdbaaDoorKRefT
namespace Go.Proofs.YtllhekkclhcdbaaDoor
open Go.RowKit

theorem rmay_at (w : World) (v : Int) (nn : Bool) (bb : Bool) (hbb : bb = mayP v nn) :
    Calls Tryd.prog 25 #[.agg #[.int .i64 v, .bool nn]] w fun e w' => e = .returned (.bool bb) ∧ Fr (fun _ => False) w w' := by
  cases nn
  · by_cases h1 : -2147483648 ≤ v
    · by_cases h2 : v ≤ 2147483648
      · have hbt : bb = true := by rw [hbb, mayP]; simp; exact ⟨h1, h2⟩
        subst hbt
        have hd1 : decide (-2147483648 ≤ v) = true := decide_eq_true h1
        have hd2 : decide (v ≤ 2147483648) = true := decide_eq_true h2
        clear hbb h1 h2
        go_enter Tryd.func25, Tryd.ntmps25
        go_wp2_with fail
        go_ret
        exact ⟨rfl, (Fr.refl _ _).alloc _⟩
      · have hbt : bb = false := by rw [hbb, mayP]; simp; omega
        subst hbt
        have hd1 : decide (-2147483648 ≤ v) = true := decide_eq_true h1
        have hd2 : decide (v ≤ 2147483648) = false := decide_eq_false h2
        clear hbb h1 h2
        go_enter Tryd.func25, Tryd.ntmps25
        go_wp2_with fail
        go_ret
        exact ⟨rfl, (Fr.refl _ _).alloc _⟩
    · have hbt : bb = false := by rw [hbb, mayP]; simp; omega
      subst hbt
      have hd1 : decide (-2147483648 ≤ v) = false := decide_eq_false h1
      clear hbb h1
      go_enter Tryd.func25, Tryd.ntmps25
      go_wp2_with fail
      go_ret
      exact ⟨rfl, (Fr.refl _ _).alloc _⟩
  · have hbt : bb = true := by rw [hbb, mayP]; simp
    subst hbt
    clear hbb
    go_enter Tryd.func25, Tryd.ntmps25
    go_wp2_with fail
    go_ret
    exact ⟨rfl, (Fr.refl _ _).alloc _⟩

theorem next5_at (w : World) (v bit : Nat) (hv : v < 512) (hb : bit < 2) :
    Calls Tryd.prog 49 #[.int .i64 (v : Int), .int .i64 (bit : Int)] w fun e w' => e = .returned (.int .i64 (passP 512 v bit : Nat)) ∧ w' = w := by
  obtain ⟨u, hu⟩ : ∃ u, u = 2 * v + bit := ⟨_, rfl⟩
  have k1 : IntKind.i64.wrap (2 * (v : Int)) = 2 * (v : Int) := by rw [IntKind.wrap_i64]; omega
  have k2 : IntKind.i64.wrap (2 * (v : Int) + (bit : Int)) = (u : Int) := by rw [IntKind.wrap_i64]; omega
  by_cases h : v < 256
  · have hd : decide ((v : Int) < 256) = true := decide_eq_true (by omega)
    have e : passP 512 v bit = u := by unfold passP; rw [if_neg (by omega), hu]
    rw [e]
    clear h hb hv e hu
    go_enter Tryd.func49, Tryd.ntmps49
    go_wp2_with fail
    go_ret
    exact ⟨rfl, rfl⟩
  · have hd : decide ((v : Int) < 256) = false := decide_eq_false (by omega)
    obtain ⟨r, hr⟩ : ∃ r, r = u % 256 := ⟨_, rfl⟩
    have e : passP 512 v bit = r + 256 := by unfold passP; rw [if_pos (by omega), hr, hu]
    have q3 : (u : Int).tmod 256 = (r : Int) := by rw [Int.tmod_eq_emod_of_nonneg (by omega), hr]; rfl
    have q4 : IntKind.i64.wrap (r : Int) = (r : Int) := by rw [IntKind.wrap_i64]; omega
    have q5 : IntKind.i64.wrap ((r : Int) + 256) = ((r + 256 : Nat) : Int) := by rw [IntKind.wrap_i64]; omega
    rw [e]
    clear h hb hv e hu hr
    generalize r + 256 = r2 at *
    go_enter Tryd.func49, Tryd.ntmps49
    go_wp2_with fail
    go_ret
    exact ⟨rfl, rfl⟩

/-- The head of a number: so many ones, and a zero. -/
def hdB (k : Nat) : List Nat := List.replicate k 1 ++ (if k < 5 then [0] else [])
theorem hdB_hi : ∀ k, k < 6 → hiBits (rowH k) (rowX k) = hdB k := by decide
theorem numBits_parts (v : Int) (nn : Bool) (h : mayP v nn = true) : numBits v nn = signOf v nn :: (hdB (rowIx (amountOf v nn)) ++ hiBits (amountOf v nn - rowL (rowIx (amountOf v nn))) (rowW (rowIx (amountOf v nn)))) := by
  have hm := amountOf_le h
  obtain ⟨r1, r2⟩ := row_above hm
  obtain ⟨_, _, _, _, _, x5⟩ := row_small (amountOf v nn)
  have hs := signOf_lt v nn
  unfold numBits numWord numLen
  rw [hiBits_cat _ _ _ r2, ← hdB_hi _ (rowIx_lt _), hiBits_cat _ _ _ x5]
  show (signOf v nn / 2 ^ 0 % 2 :: []) ++ _ ++ _ = _
  rw [show signOf v nn / 2 ^ 0 % 2 = signOf v nn by simp; omega]
  simp

theorem Fr.own {w w2 : World} {v : Value} {x : Obj} (hgrow : (w.alloc x).grownBy w2 v.ownBlock) : Fr (fun j => v.ownBlock = some j) w w2 := ((Fr.refl _ _).alloc _).grown hgrow (fun _ hj _ => hj)

end Go.Proofs.YtllhekkclhcdbaaDoor
