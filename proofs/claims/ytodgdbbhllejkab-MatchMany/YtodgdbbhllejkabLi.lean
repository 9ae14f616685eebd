/- The laws' 'light' and 'may'. -/
import Derived.Test.YtodgdbbhllejkabKc
namespace Go.Proofs.Ytodgdbbhllejkab
open Go.RowKit