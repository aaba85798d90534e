/- Shape of a tree of values struct{}. Printed by tools/gen/tre.py. -/
import Derived.Test.YtafamfjgehnddaaTreEm
import Derived.Test.YtafamfjgehnddaaTreWalk2
import Derived.Sort.LoopGhostIn
import Derived.Shelf.Abstract
import Derived.Sort.QuietIn
import Derived.OwnWalkIn
namespace Go.Proofs.Ytafamfjgehnddaa
open Go.RowKit

attribute [local go_sem] Oper.semAt_some

end Go.Proofs.Ytafamfjgehnddaa
