/- 'Crop' by pixels; pixels at any place. -/
import Derived.Test.YtodgdbbhllejkabRefGet
import Derived.Test.YtodgdbbhllejkabRefGet
import Derived.Test.YtodgdbbhllejkabCnt
namespace Go.Proofs.Ytodgdbbhllejkab
open Go.RowKit

end Go.Proofs.Ytodgdbbhllejkab
