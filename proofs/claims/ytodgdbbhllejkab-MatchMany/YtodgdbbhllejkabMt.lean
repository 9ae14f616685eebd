/- The reference's Unlike: of bitmaps of one size the share of the pixels that are unlike, of others the infinity above. -/
import Derived.Test.YtodgdbbhllejkabMx
namespace Go.Proofs.Ytodgdbbhllejkab
open Go.RowKit Ieee