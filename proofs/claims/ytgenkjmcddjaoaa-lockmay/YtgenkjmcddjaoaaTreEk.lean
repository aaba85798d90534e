/- Keys of a tree of values struct{}, rising. Printed by tools/gen/tre.py. -/
import Derived.Test.YtgenkjmcddjaoaaTreEm
import Derived.Test.YtgenkjmcddjaoaaTreWalk
import Derived.Sort.LoopGhostIn
import Derived.Shelf.Abstract
import Derived.Sort.QuietIn
import Derived.OwnWalkIn
namespace Go.Proofs.Ytgenkjmcddjaoaa
open Go.RowKit

attribute [local go_sem] Oper.semAt_some

theorem infoNE : (Try.prog.info? 158).map (fun i => (i.zero, i.size, i.bytes)) = some (some (.pointer none), 1, 8) := by kernel_rfl

theorem infoIE : (Try.prog.info? 3).map (fun i => (i.zero, i.size, i.bytes)) = some (some (.int .i64 0), 1, 8) := by kernel_rfl

end Go.Proofs.Ytgenkjmcddjaoaa
