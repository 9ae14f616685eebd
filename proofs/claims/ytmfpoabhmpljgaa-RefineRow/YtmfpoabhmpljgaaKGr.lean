/- The law 'RefineRow'. -/
import Derived.Test.YtmfpoabhmpljgaaKGra
import Derived.Test.YtmfpoabhmpljgaaKGrb
namespace Go.Proofs.Ytmfpoabhmpljgaa
open Go.RowKit

theorem row8_any (ao : Option Addr) (n cp : Nat) (bi : Int) (A : Nat → Ak) (w : World) (hA : AsksAt w ao n A) (hbi : -9223372036854775808 ≤ bi ∧ bi ≤ 9223372036854775807) :
    Calls Try.prog 7 #[.agg #[.slice ao n cp, .int .i64 bi]] w fun e w' => e = .returned (.bool true) ∧ Fr (fun _ => False) w w' := by
  by_cases h : n ≤ 5
  · exact row8_small ao n cp n bi A w hA hbi ⟨rfl, h⟩
  · exact row8_big ao n cp 5 bi A w hA hbi ⟨rfl, by omega⟩

end Go.Proofs.Ytmfpoabhmpljgaa
