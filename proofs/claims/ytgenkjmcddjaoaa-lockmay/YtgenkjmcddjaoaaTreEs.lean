/- Shape of a tree of values struct{}. Printed by tools/gen/tre.py. -/
import Derived.Test.YtgenkjmcddjaoaaTreEm
import Derived.Test.YtgenkjmcddjaoaaTreWalk2
import Derived.Sort.LoopGhostIn
import Derived.Shelf.Abstract
import Derived.Sort.QuietIn
import Derived.OwnWalkIn
namespace Go.Proofs.Ytgenkjmcddjaoaa
open Go.RowKit

attribute [local go_sem] Oper.semAt_some

end Go.Proofs.Ytgenkjmcddjaoaa
