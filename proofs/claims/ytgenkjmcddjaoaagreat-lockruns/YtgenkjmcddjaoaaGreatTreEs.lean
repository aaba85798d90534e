/- Shape of a tree of values struct{}. Printed by tools/gen/tre.py. -/
import Derived.Test.YtgenkjmcddjaoaaGreatTreEm
import Derived.Test.YtgenkjmcddjaoaaGreatTreWalk2
import Derived.Sort.LoopGhostIn
import Derived.Shelf.Abstract
import Derived.Sort.QuietIn
import Derived.OwnWalkIn
namespace Go.Proofs.YtgenkjmcddjaoaaGreat
open Go.RowKit

attribute [local go_sem] Oper.semAt_some

end Go.Proofs.YtgenkjmcddjaoaaGreat
