/- The document's own 'Get' of a bitmap that may be. -/
import Derived.Test.YtcopbjinnegfoabCheck
namespace Go.Proofs.Ytcopbjinnegfoab
open Go.RowKit

end Go.Proofs.Ytcopbjinnegfoab
