/- The law's 'alike'; who owns a pixel. -/
import Derived.Deep.QuietTactic
import Derived.BigQuiet
import Derived.Test.YtgpciopoionmeaaGr
import Derived.Test.YtgpciopoionmeaaRa
namespace Go.Proofs.Ytgpciopoionmeaa
open Go.RowKit

def idx (W : Nat) (p : Nat × Nat) : Nat := p.2 * W + p.1
theorem idx_lt {W H : Nat} {p : Nat × Nat} (h1 : p.1 < W) (h2 : p.2 < H) : idx W p < W * H := by
  unfold idx
  have := Nat.mul_le_mul_right W (show p.2 + 1 ≤ H from h2)
  rw [Nat.add_mul, Nat.one_mul, Nat.mul_comm H W] at this
  omega
theorem idx_inj {W : Nat} {p q : Nat × Nat} (h1 : p.1 < W) (h2 : q.1 < W) (e : idx W p = idx W q) : p = q := by
  unfold idx at e
  have a := congrArg (· / W) e
  have b := congrArg (· % W) e
  rw [Nat.mul_comm p.2, Nat.mul_comm q.2, Nat.mul_add_div (by omega), Nat.mul_add_div (by omega), Nat.div_eq_of_lt h1, Nat.div_eq_of_lt h2] at a
  rw [Nat.mul_comm p.2, Nat.mul_comm q.2, Nat.mul_add_mod, Nat.mul_add_mod, Nat.mod_eq_of_lt h1, Nat.mod_eq_of_lt h2] at b
  exact Prod.ext b (by omega)
theorem idx_ras {W : Nat} {p q : Nat × Nat} (h1 : p.1 < W) (h : ras p q) : idx W p < idx W q := by
  unfold idx
  rcases h with h | ⟨e, h⟩
  · have := Nat.mul_le_mul_right W (show p.2 + 1 ≤ q.2 by omega)
    rw [Nat.add_mul, Nat.one_mul] at this
    omega
  · rw [e]; omega

/-- What is written of the first I pieces, and of the next one's pixels ahead of a place. -/
structure OwnB (W H : Nat) (B : Nat × Nat → Prop) (fs : List (Nat × Nat)) (I : Nat) (at_ : Nat × Nat) (f : Nat → Nat) : Prop where
  old : ∀ p, p.1 < W → p.2 < H → ∀ j fj, j < I → fs[j]? = some fj → PC B fj p → f (idx W p) = j + 1
  new : ∀ p, p.1 < W → p.2 < H → ∀ fI, fs[I]? = some fI → PC B fI p → ras p at_ → f (idx W p) = I + 1
  none : ∀ p, p.1 < W → p.2 < H → (∀ j fj, j < I → fs[j]? = some fj → ¬ PC B fj p) → (∀ fI, fs[I]? = some fI → PC B fI p → ¬ ras p at_) → f (idx W p) = 0
section
variable {W H : Nat} {B : Nat × Nat → Prop} {fs : List (Nat × Nat)} {I : Nat} {f : Nat → Nat}
theorem ownB_zero (a : Nat × Nat) (ha : ∀ p, ¬ ras p a) : OwnB W H B fs 0 a (selfF 0) :=
  ⟨fun _ _ _ _ _ h => absurd h (Nat.not_lt_zero _), fun _ _ _ _ _ _ h => absurd h (ha _), fun _ _ _ _ _ => by unfold selfF; simp⟩
/-- Another place, with the same pixels ahead of it. -/
theorem OwnB.place {a b : Nat × Nat} (h : OwnB W H B fs I a f) (he : ∀ fI, fs[I]? = some fI → ∀ p, PC B fI p → (ras p a ↔ ras p b)) : OwnB W H B fs I b f :=
  ⟨h.old, fun p h1 h2 fI hI hp hr => h.new p h1 h2 fI hI hp ((he fI hI p hp).2 hr), fun p h1 h2 ho hn => h.none p h1 h2 ho (fun fI hI hp hr => hn fI hI hp ((he fI hI p hp).1 hr))⟩
/-- The piece is whole. -/
theorem OwnB.next {a b : Nat × Nat} (h : OwnB W H B fs I a f) (he : ∀ fI, fs[I]? = some fI → ∀ p, PC B fI p → ras p a) (hb : ∀ fI, fs[I + 1]? = some fI → ∀ p, PC B fI p → ¬ ras p b) : OwnB W H B fs (I + 1) b f := by
  refine ⟨fun p h1 h2 j fj hj hf hp => ?_, fun p h1 h2 fI hI hp hr => absurd hr (hb fI hI p hp), fun p h1 h2 ho hn => ?_⟩
  · by_cases e : j = I
    · subst e; exact h.new p h1 h2 fj hf hp (he fj hf p hp)
    · exact h.old p h1 h2 j fj (by omega) hf hp
  · refine h.none p h1 h2 (fun j fj hj hf => ho j fj (by omega) hf) (fun fI hI hp => absurd hp (ho I fI (by omega) hI))
/-- A pixel is written. -/
theorem OwnB.put {a b q : Nat × Nat} {fI : Nat × Nat} (h : OwnB W H B fs I a f) (hI : fs[I]? = some fI) (hq : PC B fI q) (hW : q.1 < W) (hdis : ∀ j fj, j < I → fs[j]? = some fj → ∀ p, PC B fj p → ¬ PC B fI p) (hab : ∀ p, ras p b ↔ ras p a ∨ p = q) : OwnB W H B fs I b (upd f (idx W q) (I + 1)) := by
  have hne : ∀ p, p.1 < W → p ≠ q → idx W p ≠ idx W q := fun p hp hn e => hn (idx_inj hp hW e)
  refine ⟨fun p h1 h2 j fj hj hf hp => ?_, fun p h1 h2 fI' hI' hp hr => ?_, fun p h1 h2 ho hn => ?_⟩
  · have hpq : p ≠ q := fun e => by subst e; exact hdis j fj hj hf p hp hq
    rw [upd_ne _ _ (hne p h1 hpq)]
    exact h.old p h1 h2 j fj hj hf hp
  · rw [hI] at hI'
    cases hI'
    by_cases e : p = q
    · subst e; rw [upd_self]
    · rw [upd_ne _ _ (hne p h1 e)]
      exact h.new p h1 h2 fI hI hp (((hab p).1 hr).resolve_right e)
  · have hpq : p ≠ q := fun e => by subst e; exact hn fI hI hq ((hab p).2 (Or.inr rfl))
    rw [upd_ne _ _ (hne p h1 hpq)]
    exact h.none p h1 h2 ho (fun fI' hI' hp hr => hn fI' hI' hp ((hab p).2 (Or.inl hr)))
end

set_option maxRecDepth 100000 in
set_option maxHeartbeats 4000000 in
theorem alike_any (g n W x y k : Nat) (f : Nat → Nat) (w : World) (ho : FoAt w g n f) (hx : x < W) (hn : (y + 1) * W ≤ n) (hnb : n ≤ 1048576) (hk : ∀ i, i < W → i ≤ x + 1 → x ≤ i + 1 → f (y * W + i) = 0 ∨ f (y * W + i) = k) (hfb : ∀ i, f i ≤ 1048577) :
    Calls Try.prog 25 #[.slice (some ⟨g, 0, none⟩) n n, .int .i64 W, .int .i64 x, .int .i64 y, .int .i64 k] w fun e w' => e = .returned (.bool true) ∧ Fr (fun _ => False) w w' := by
  have hWn : W ≤ n := by rw [Nat.add_mul, Nat.one_mul] at hn; omega
  have HC : Hid (∀ w', Fr (fun _ => False) w w' → ∀ i, i < W → w'.cell? ⟨g, y * W + i, none⟩ = some (.int .i64 (f (y * W + i) : Nat))) := fun w' hf i hi => (ho.kept hf (fun h => h)).cell (by rw [Nat.add_mul, Nat.one_mul] at hn; omega)
  have HK : Hid (∀ i, i < W → i ≤ x + 1 → x ≤ i + 1 → f (y * W + i) = 0 ∨ f (y * W + i) = k) := hk
  have HFB : Hid (∀ i, f i ≤ 1048577) := hfb
  rw [Nat.add_mul, Nat.one_mul] at hn
  have hy1 : y ≤ 1048576 := by
    rcases Nat.eq_zero_or_pos W with e | e
    · omega
    · have := Nat.le_mul_of_pos_right y e; omega
  clear ho hk hfb
  obtain ⟨Y, hY⟩ : ∃ Y, Y = y * W := ⟨_, rfl⟩
  have gY : IntKind.i64.wrap ((y : Int) * (W : Int)) = (Y : Int) := by rw [IntKind.wrap_i64, ← Int.natCast_mul, ← hY]; omega
  have gY2 : (y : Int) * (W : Int) = (Y : Int) := by rw [← Int.natCast_mul, ← hY]
  rw [← hY] at hn HC HK
  clear hY
  go_enter Try.func25, Try.ntmps25
  go_wp2_with fail
  go_loopg [11] 3 (fun q iv wr => ∃ j : Nat, j + q = 3 ∧ iv = .int .i64 ((x : Int) - 1 + j) ∧ Fr (fun _ => False) w wr)
  case atStart => exact ⟨0, by omega, congrArg (Value.int .i64) (by omega), Fr.refl _ _⟩
  case round =>
    obtain ⟨j, hq, rfl, hfr⟩ := hrel
    have HF : Hid (Fr (fun _ => False) w wr) := hfr
    clear hfr
    obtain ⟨i, hi⟩ : ∃ i : Int, i = (x : Int) - 1 + j := ⟨_, rfl⟩
    rw [← hi]
    have HI : Hid (i = (x : Int) - 1 + j) := hi
    have gx : IntKind.i64.wrap ((x : Int) + 1) = (x : Int) + 1 := by rw [IntKind.wrap_i64]; omega
    have gi : IntKind.i64.wrap (i + 1) = i + 1 := by have := HI.out; rw [IntKind.wrap_i64]; omega
    clear hi
    by_cases hj : j < 3
    · have d1 : decide (i ≤ (x : Int) + 1) = true := decide_eq_true (by have := HI.out; omega)
      by_cases h0 : 0 ≤ i
      · have d2 : decide (0 ≤ i) = true := decide_eq_true h0
        by_cases hW : i < W
        · have d3 : decide (i < (W : Int)) = true := decide_eq_true hW
          obtain ⟨J, rfl⟩ : ∃ J : Nat, i = J := ⟨i.toNat, by omega⟩
          have c0 := HC.out wr HF.out J (by omega)
          have hv := HK.out J (by omega) (by have := HI.out; omega) (by have := HI.out; omega)
          have hfb := HFB.out (Y + J)
          generalize f (Y + J) = v at *
          have g1 : IntKind.i64.wrap ((Y : Int) + (J : Int)) = ((Y + J : Nat) : Int) := by rw [IntKind.wrap_i64]; omega
          have g2 : (0 : Int) ≤ ((Y + J : Nat) : Int) := by omega
          have g3 : ((Y + J : Nat) : Int) < (n : Int) := by omega
          have d5 : decide (J < W) = true := decide_eq_true (by omega)
          rcases hv with rfl | rfl
          · go_wp2_with fail
            go_roundg (3 - (j + 1))
            case measure => omega
            case rel => exact ⟨j + 1, by omega, congrArg (Value.int .i64) (by have := HI.out; omega), HF.out⟩
          · by_cases hz : v = 0
            · subst hz
              go_wp2_with fail
              go_roundg (3 - (j + 1))
              case measure => omega
              case rel => exact ⟨j + 1, by omega, congrArg (Value.int .i64) (by have := HI.out; omega), HF.out⟩
            · have d4 : decide (0 < v) = true := decide_eq_true (by omega)
              go_wp2_with fail
              go_roundg (3 - (j + 1))
              case measure => omega
              case rel => exact ⟨j + 1, by omega, congrArg (Value.int .i64) (by have := HI.out; omega), HF.out⟩
        · have d3 : decide (i < (W : Int)) = false := decide_eq_false hW
          go_wp2_with fail
          go_roundg (3 - (j + 1))
          case measure => omega
          case rel => exact ⟨j + 1, by omega, congrArg (Value.int .i64) (by have := HI.out; omega), HF.out⟩
      · have d2 : decide (0 ≤ i) = false := decide_eq_false h0
        go_wp2_with fail
        go_roundg (3 - (j + 1))
        case measure => omega
        case rel => exact ⟨j + 1, by omega, congrArg (Value.int .i64) (by have := HI.out; omega), HF.out⟩
    · have d1 : decide (i ≤ (x : Int) + 1) = false := decide_eq_false (by have := HI.out; omega)
      go_wp2_with fail
      go_ret
      exact ⟨rfl, HF.out⟩

end Go.Proofs.Ytgpciopoionmeaa
