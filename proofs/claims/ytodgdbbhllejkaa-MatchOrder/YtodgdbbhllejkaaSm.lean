/- Package bitmap: what the other texts lack (XRefPut, XSmallish). -/
import Derived.Test.YtodgdbbhllejkaaRefPut
namespace Go.Proofs.Ytodgdbbhllejkaa
open Go.RowKit


end Go.Proofs.Ytodgdbbhllejkaa
