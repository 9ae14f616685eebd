/- The reference's Density, Unlike, Center. -/
import Derived.Test.YtodgdbbhllejkabMc
namespace Go.Proofs.Ytodgdbbhllejkab
open Go.RowKit Ieee

end Go.Proofs.Ytodgdbbhllejkab
