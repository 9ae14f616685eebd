/- The document's own 'Get' of a bitmap that may be. -/
import Derived.Test.YtgpciopoionmeabCheck
namespace Go.Proofs.Ytgpciopoionmeab
open Go.RowKit

end Go.Proofs.Ytgpciopoionmeab
