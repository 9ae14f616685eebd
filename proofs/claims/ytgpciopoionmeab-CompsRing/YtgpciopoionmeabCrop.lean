/- 'Crop' by pixels; pixels at any place. -/
import Derived.Test.YtgpciopoionmeabRefGet
import Derived.Test.YtgpciopoionmeabRefGet
import Derived.Test.YtgpciopoionmeabCnt
namespace Go.Proofs.Ytgpciopoionmeab
open Go.RowKit

end Go.Proofs.Ytgpciopoionmeab
