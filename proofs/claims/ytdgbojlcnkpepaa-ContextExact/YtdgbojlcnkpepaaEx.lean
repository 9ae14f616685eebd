/- The law 'ContextExact'. -/
import Derived.Test.YtdgbojlcnkpepaaExAv
import Derived.Test.YtdgbojlcnkpepaaExAi
import Derived.Test.YtdgbojlcnkpepaaExB
import Derived.Test.YtdgbojlcnkpepaaExC
namespace Go.Proofs.Ytdgbojlcnkpepaa
open Go.RowKit

theorem exact_any (x y : Int) (v : Value) (l : List Nat) (T : Int) (ao : Option Addr) (n ca : Nat) (X : Nat → Int) (bo : Option Addr) (m cb : Nat) (Y : Nat → Int) (w : World) (hx : -9223372036854775808 ≤ x ∧ x ≤ 9223372036854775807) (hy : -9223372036854775808 ≤ y ∧ y ≤ 9223372036854775807) (hv : Seen w v l) (hcap : CapOK v) (hlt : ∀ j : Nat, l[j]?.getD 0 < 18446744073709551616) (hX : IntsAt w ao n X) (hY : IntsAt w bo m Y) (hnil : NilOK v) :
    Calls Try.prog 3 #[.agg #[.int .i64 x, .int .i64 y, v, .int .i64 T, .slice ao n ca, .slice bo m cb]] w fun e w' => e = .returned (.bool true) ∧ Fr (fun _ => False) w w' := by
  by_cases hTT : T < 0 ∨ 4 ≤ T
  · by_cases hval : validB x y l = true
    · exact exact_Av x y v l T ao n ca X bo m cb Y w hx hy hv hcap hlt hX hY hnil hTT hval
    · exact exact_Ai x y v l T ao n ca X bo m cb Y w hx hy hv hcap hlt hX hY hnil hTT (by simpa using hval)
  · by_cases hval : validB x y l = true
    · exact exact_C x y v l T ao n ca X bo m cb Y w hx hy hv hcap hlt hX hY hnil hTT hval
    · exact exact_B x y v l T ao n ca X bo m cb Y w hx hy hv hcap hlt hX hY hnil hTT (by simpa using hval)

end Go.Proofs.Ytdgbojlcnkpepaa
