/- The reference's Density, Unlike, Center. -/
import Derived.Test.YtodgdbbhllejkaaMc
namespace Go.Proofs.Ytodgdbbhllejkaa
open Go.RowKit Ieee

theorem divide_nat (n d : Nat) (hn : n ≤ 9007199254740992) (w : World) :
    Calls Try.prog 45 #[.int .i64 (n : Int), .int .i64 (d : Int)] w fun e w' => ∃ x, e = .returned (.float .f64 x) ∧ ShP (n : Int) (d : Int) x ∧ Fr (fun _ => False) w w' :=
  divide_ok (n : Int) (d : Int) (exB_nat hn) w

end Go.Proofs.Ytodgdbbhllejkaa
