/- Keys of a tree of values struct{}, rising. Printed by tools/gen/tre.py. -/
import Derived.Test.YtafamfjgehnddaaTreEm
import Derived.Test.YtafamfjgehnddaaTreWalk
import Derived.Sort.LoopGhostIn
import Derived.Shelf.Abstract
import Derived.Sort.QuietIn
import Derived.OwnWalkIn
namespace Go.Proofs.Ytafamfjgehnddaa
open Go.RowKit

attribute [local go_sem] Oper.semAt_some

theorem infoNE : (Try.prog.info? 155).map (fun i => (i.zero, i.size, i.bytes)) = some (some (.pointer none), 1, 8) := by kernel_rfl

theorem infoIE : (Try.prog.info? 3).map (fun i => (i.zero, i.size, i.bytes)) = some (some (.int .i64 0), 1, 8) := by kernel_rfl

end Go.Proofs.Ytafamfjgehnddaa
