/- The document's own 'Get' of a bitmap that may be. -/
import Derived.Test.YtodgdbbhllejkabCheck
namespace Go.Proofs.Ytodgdbbhllejkab
open Go.RowKit

end Go.Proofs.Ytodgdbbhllejkab
