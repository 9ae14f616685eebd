/- Package bitmap: what the other texts lack (XRefPut, XSmallish). -/
import Derived.Test.YtodgdbbhllejkabRefPut
namespace Go.Proofs.Ytodgdbbhllejkab
open Go.RowKit


end Go.Proofs.Ytodgdbbhllejkab
