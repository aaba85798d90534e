/- Package runs: Take. -/
import Derived.Test.YtafamfjgehnddaaRunLay
namespace Go.Proofs.Ytafamfjgehnddaa
open Go.RowKit

end Go.Proofs.Ytafamfjgehnddaa
