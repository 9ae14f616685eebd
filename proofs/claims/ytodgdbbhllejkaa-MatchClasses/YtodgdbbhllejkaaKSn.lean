/- The small functions over floats: of bits, NaN, Minus, Abs, Signbit, side; the operations that give a NaN. -/
import Derived.Test.YtodgdbbhllejkaaK1
import Derived.Test.YtodgdbbhllejkaaKFl
import Derived.Test.YtodgdbbhllejkaaProg
import Derived.Laws.FloatArith
import Derived.Laws.Externs
namespace Go.Proofs.Ytodgdbbhllejkaa
open Go.RowKit

/-- The bits of a NaN that an operation gives. -/
def nanOf (w : World) (a b : Nat) : Nat := (Question.nanBits .f64 a b).cut (w.tape w.drawn (.nanBits .f64 a b))
theorem nanOf_nan (w : World) (a b : Nat) : infR < rg (nanOf w a b) ∧ nanOf w a b < 18446744073709551616 := by
  unfold nanOf rg infR
  generalize w.tape w.drawn (.nanBits .f64 a b) = t
  show 9218868437227405312 < ((t % 2) * 2 ^ 63 + 0x7ff0000000000000 + 1 + (t / 2) % (2 ^ 52 - 1)) % 9223372036854775808 ∧ ((t % 2) * 2 ^ 63 + 0x7ff0000000000000 + 1 + (t / 2) % (2 ^ 52 - 1)) < 18446744073709551616
  have h1 : t / 2 % (2 ^ 52 - 1) < 2 ^ 52 - 1 := Nat.mod_lt _ (by decide)
  have h2 : t % 2 < 2 := Nat.mod_lt _ (by decide)
  generalize t / 2 % (2 ^ 52 - 1) = u at *
  generalize t % 2 = v at *
  obtain rfl | rfl : v = 0 ∨ v = 1 := by omega
  · omega
  · omega

theorem run_float_nan {P : Program} (w : World) (op : BinOp) (hop : op = .add ∨ op = .sub ∨ op = .mul ∨ op = .quo) (t : TypeId) (x y : Nat) (h : floatBits op .f64 x y = none) :
    (binOp op t (.float .f64 x) (.float .f64 y)).run P w = .ok (.float .f64 (nanOf w x y)) w.drew := by
  unfold floatBits at h
  rcases hop with rfl | rfl | rfl | rfl <;> simp only at h <;> simp [binOp, Op.floatArith, h, nanOf, Question.forced]

set_option maxRecDepth 100000 in
theorem frombits_run (n : Int) (w : World) : (callFunc 11 #[.int .u64 n]).run Try.prog w = .ok (.value (.float .f64 n.toNat)) w := by
  rw [run_callFunc_extern (fn := Try.f11) (e := Extern.MathFloatBits.float64frombits) Try.func11 (by kernel_rfl) (by kernel_rfl) (by kernel_rfl) (by kernel_rfl)]
  rfl

end Go.Proofs.Ytodgdbbhllejkaa
