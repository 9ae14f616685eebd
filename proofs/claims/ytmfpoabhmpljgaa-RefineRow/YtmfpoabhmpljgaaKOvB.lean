/- 'Over': bytes of a row of the call's own are written over, and beyond their end. -/
import Derived.Test.YtmfpoabhmpljgaaKReF
namespace Go.Proofs.Ytmfpoabhmpljgaa
open Go.RowKit

theorem Try.info5b : (Try.prog.info? 5).map (fun i => (i.zero, i.size, i.bytes)) = some (some (.int .u8 0), 1, 1) := by kernel_rfl