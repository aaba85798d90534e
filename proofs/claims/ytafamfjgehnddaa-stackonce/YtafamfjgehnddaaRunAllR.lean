/- Package runs: the iterator all, told so that both sides may grow. -/
import Derived.Test.YtafamfjgehnddaaRunAll
import Derived.Test.YtafamfjgehnddaaPhaseR
namespace Go.Proofs.Ytafamfjgehnddaa
open Go.RowKit

attribute [local go_sem] Oper.semAt_some

end Go.Proofs.Ytafamfjgehnddaa
