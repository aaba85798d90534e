/- Package runs: the iterator all, told so that both sides may grow. -/
import Derived.Test.YtgenkjmcddjaoaaRunAll
import Derived.Test.YtgenkjmcddjaoaaPhaseR
namespace Go.Proofs.Ytgenkjmcddjaoaa
open Go.RowKit

attribute [local go_sem] Oper.semAt_some

end Go.Proofs.Ytgenkjmcddjaoaa
