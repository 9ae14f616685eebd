/- The numbers of 'ContextOne'. -/
import Derived.Test.YtdgbojlcnkpepaaCx
namespace Go.Proofs.Ytdgbojlcnkpepaa

def oneP : Nat → Nat → Bool := fun a e => if a = 10 ∧ e = 4 then true else false
def cv (t y x : Nat) : Nat := ctx (pixI 20 9 oneP) t x y

/-- What a place must keep: `s` the sum so far, `c` the count. -/
def okStep (s c n y x : Nat) : Bool := decide (s < 65536) && decide (c ≤ 100) && decide (n < 65536) && ((n == 0) || (n &&& (n - 1) == 0 && s &&& n == 0 && decide (4 ≤ y) && decide (y ≤ 6) && !(y == 4 && decide (x ≤ 10))))
def okAll (t : Nat) : Nat → Nat → Nat → Nat → Bool
  | 0, s, c, _ => s + 1 == sizeT t && 2 ^ c == sizeT t && decide (c ≤ 16)
  | f + 1, s, c, k => okStep s c (cv t (k / 20) (k % 20)) (k / 20) (k % 20) && okAll t f (s ||| cv t (k / 20) (k % 20)) (c + if cv t (k / 20) (k % 20) = 0 then 0 else 1) (k + 1)
theorem okAll0 : okAll 0 180 0 0 0 = true := by decide +kernel
theorem okAll1 : okAll 1 180 0 0 0 = true := by decide +kernel
theorem okAll2 : okAll 2 180 0 0 0 = true := by decide +kernel
theorem okAll3 : okAll 3 180 0 0 0 = true := by decide +kernel
theorem okAll_any (t : Nat) (ht : t < 4) : okAll t 180 0 0 0 = true := by
  match t, ht with
  | 0, _ => exact okAll0
  | 1, _ => exact okAll1
  | 2, _ => exact okAll2
  | 3, _ => exact okAll3

end Go.Proofs.Ytdgbojlcnkpepaa
