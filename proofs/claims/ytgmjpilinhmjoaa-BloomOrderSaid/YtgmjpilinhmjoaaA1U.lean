/-
  How wide an unsigned number of 64 bits is.
-/
import Derived.Test.YtgmjpilinhmjoaaA1
namespace Go.Proofs.Ytgmjpilinhmjoaa
open Go.RowKit

theorem Try.infoU64 : (Try.prog.info? 38).map (fun i => (i.zero, i.size, i.bytes)) = some (some (.int .u64 0), 1, 8) := by kernel_rfl

end Go.Proofs.Ytgmjpilinhmjoaa
