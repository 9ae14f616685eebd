/- Two writers, side by side; sums of widths. -/
import Derived.Test.YtamonbkhpbdojaaDoorRoom
import Derived.Test.YtamonbkhpbdojaaDoorVars
namespace Go.Proofs.YtamonbkhpbdojaaDoor
set_option maxRecDepth 100000
open Go.RowKit

structure TwoW (B : Nat) (w0 w : World) (a : Nat) (va : Value) (b : Nat) (vb : Value) (most : Nat) (bs cs : List Bool) : Prop where
  ha : OwnW B w0 w a va most bs
  hb : OwnW B w0 w b vb most cs
  ne : a ≠ b
  r1 : va.ownBlock ≠ some b
  r2 : vb.ownBlock ≠ some a
  r3 : ∀ k, va.ownBlock = some k → vb.ownBlock ≠ some k

theorem TwoW.symm {B : Nat} {w0 w : World} {a b : Nat} {va vb : Value} {most : Nat} {bs cs : List Bool} (h : TwoW B w0 w a va b vb most bs cs) : TwoW B w0 w b vb a va most cs bs :=
  ⟨h.hb, h.ha, h.ne.symm, h.r2, h.r1, fun k hk e => h.r3 k e hk⟩

theorem TwoW.step {B : Nat} {w0 w w' : World} {a b : Nat} {va vb va' : Value} {most : Nat} {bs cs bs' : List Bool} (h : TwoW B w0 w a va b vb most bs cs) (hat : WAt w' a va' most bs') (s : WStep a va va' w w') : TwoW B w0 w' a va' b vb most bs' cs := by
  have hblt := h.hb.at_.lt
  have hbrl := h.hb.at_.rowlt
  refine ⟨h.ha.step hat s, h.hb.later s.fr ?_ ?_ ?_, h.ne, ?_, h.r2, ?_⟩
  · rintro (e | e)
    · exact h.ne e.symm
    · exact h.r1 e
  · rintro k hk (e | e)
    · subst e; exact h.r2 hk
    · exact h.r3 k e hk
  · rintro k (e | e)
    · subst e; exact h.ha.blk
    · exact h.ha.row k e
  · intro e
    rcases s.row with r | r
    · exact h.r1 (r ▸ e)
    · have := r _ e; omega
  · intro k hk e
    rcases s.row with r | r
    · exact h.r3 k (r ▸ hk) e
    · have := r _ hk; have := hbrl _ e; omega

theorem TwoW.later {B : Nat} {w0 w w' : World} {a b : Nat} {va vb : Value} {most : Nat} {bs cs : List Bool} (h : TwoW B w0 w a va b vb most bs cs) (f : Fr (fun _ => False) w w') : TwoW B w0 w' a va b vb most bs cs :=
  ⟨h.ha.later f (fun hh => hh) (fun _ _ hh => hh) (fun _ hh => hh.elim), h.hb.later f (fun hh => hh) (fun _ _ hh => hh) (fun _ hh => hh.elim), h.ne, h.r1, h.r2, h.r3⟩

def widthOf (d : Int) : Nat := (d % 65).toNat
theorem widthOf_le (d : Int) : widthOf d ≤ 64 := by unfold widthOf; omega
theorem widthOf_eq (d : Int) : d % ((65 : Nat) : Int) = (widthOf d : Int) := by unfold widthOf; omega
def sumW (D : Nat → Int) : Nat → Nat
  | 0 => 0
  | k + 1 => sumW D k + widthOf (D k)
theorem sumW_le (D : Nat → Int) : ∀ k, sumW D k ≤ 64 * k := by
  intro k
  induction k with
  | zero => simp [sumW]
  | succ k ih => have := widthOf_le (D k); simp only [sumW]; omega
theorem sumW_mono (D : Nat → Int) : ∀ a b, a ≤ b → sumW D a ≤ sumW D b := by
  intro a b h
  induction b with
  | zero => rw [show a = 0 from by omega]; exact Nat.le_refl _
  | succ b ih =>
    by_cases e : a = b + 1
    · rw [e]; exact Nat.le_refl _
    · have := ih (by omega); simp only [sumW]; omega
theorem sumW_next (D : Nat → Int) (k K : Nat) (h : k < K) : sumW D k + widthOf (D k) ≤ sumW D K := sumW_mono D (k + 1) K h

theorem bitsOf_mod (n w : Nat) : bitsOf (n % 2 ^ w) w = bitsOf n w := by
  apply ext_bit (by rw [length_bitsOf, length_bitsOf])
  intro k hk
  rw [length_bitsOf] at hk
  rw [bit_bitsOf, bit_bitsOf, Nat.testBit_mod_two_pow]
  have : w - 1 - k < w := by omega
  simp [this]

theorem bitsOf_parts (n wd low : Nat) (h : low ≤ wd) : bitsOf n wd = bitsOf (n / 2 ^ low) (wd - low) ++ bitsOf (n % 2 ^ low) low := by
  rw [bitsOf_mod, ← bitsOf_add, show wd - low + low = wd from by omega]

theorem div_lt_parts (n wd low : Nat) (h : low ≤ wd) (hn : n < 2 ^ wd) : n / 2 ^ low < 2 ^ (wd - low) := by
  rw [Nat.div_lt_iff_lt_mul (Nat.pow_pos (by omega)), ← Nat.pow_add, show wd - low + low = wd from by omega]
  exact hn

/-- The numbers that are read in two parts. -/
theorem num_parts (l : List Nat) (p wd low : Nat) (h : low ≤ wd) (hp : p + wd ≤ 8 * l.length) : num (nextBits l p wd) = num (nextBits l p (wd - low)) * 2 ^ low + num (nextBits l (p + (wd - low)) low) := by
  have e : nextBits l p wd = nextBits l p (wd - low) ++ nextBits l (p + (wd - low)) low := by
    rw [← nextBits_add, show wd - low + low = wd from by omega]
  rw [e, num_append, length_nextBits _ _ _ (by omega)]

theorem put_fits2 (bw : Nat) (v : Value) (most : Nat) (bs : List Bool) (x y : Int) (n wd : Nat) (w : World) (hx : x = n) (hy : y = wd) (h : WAt w bw v most bs) (hw : wd ≤ 64) (hv : n < 2 ^ wd) (hf : bs.length + wd ≤ 8 * most) :
    Calls Tryd.prog 40 #[.pointer (some ⟨bw, 0, none⟩), .int .u64 x, .int .i64 y] w fun e w' => e = .returned (.int .i64 0) ∧ ∃ v', WAt w' bw v' most (bs ++ bitsOf n wd) ∧ WStep bw v v' w w' :=
  put_fits' bw v most bs x y n wd w hx hy h hw hv hf

theorem take_any' (br : Nat) (v : Value) (l : List Nat) (pos wd : Nat) (y : Int) (w : World) (hy : y = wd) (h : RAt w br v l pos) (hw : wd ≤ 64) (hf : pos + wd ≤ 8 * l.length) :
    Calls Tryd.prog 69 #[.pointer (some ⟨br, 0, none⟩), .int .i64 y] w fun e w' => e = .returned (.tuple #[.int .u64 (num (nextBits l pos wd)), .int .i64 0]) ∧ RAt w' br v l (pos + wd) ∧ Fr (fun k => k = br) w w' := by
  subst hy; exact take_any br v l pos wd w h hw hf

/-- A reader of the bytes that a row holds, nil or not. -/
theorem newR_row (v : Value) (base : Nat) (l : List Nat) (w : World) (h : BytesAt w base v l) (hn : l.length ≤ 140737488355328) (hb : ∀ x ∈ l, x < 256) :
    Calls Tryd.prog 72 #[v] w fun e w' => ∃ br v', e = .returned (.pointer (some ⟨br, 0, none⟩)) ∧ RAt w' br v' l 0 ∧ Below w.heap.size w w' ∧ w.heap.size ≤ br ∧ (∀ k, v'.ownBlock = some k → w.heap.size ≤ k) := by
  have h' := h
  rcases h.2 with ⟨rfl, e⟩ | ⟨g, cap, cur, rfl, _⟩
  · have hl : l = [] := List.eq_nil_of_length_eq_zero e
    subst hl
    exact newR_nil w
  · exact newR_some ⟨g, 0, none⟩ l.length cap l w rfl hn (fun j u hu => h'.cells rfl j u hu) hb

theorem pow_lt_u64 (a : Nat) (h : a < 64) : 2 ^ a < 18446744073709551616 := Nat.lt_of_lt_of_le (Nat.pow_lt_pow_right (by omega) h) (by decide)
theorem wrap_pow (a : Nat) (h : a < 64) : IntKind.u64.wrap ((2 : Int) ^ a) = ((2 ^ a : Nat) : Int) := by
  have e : ((2 : Int) ^ a) = ((2 ^ a : Nat) : Int) := by simp
  rw [e, wrapu64_nat _ (pow_lt_u64 a h)]

end Go.Proofs.YtamonbkhpbdojaaDoor
