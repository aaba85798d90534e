/- Package runs: Take. -/
import Derived.Test.YtafamfjgehnddaaGreatRunLay
namespace Go.Proofs.YtafamfjgehnddaaGreat
open Go.RowKit

end Go.Proofs.YtafamfjgehnddaaGreat
