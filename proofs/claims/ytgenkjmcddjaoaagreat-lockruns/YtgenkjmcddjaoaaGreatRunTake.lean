/- Package runs: Take. -/
import Derived.Test.YtgenkjmcddjaoaaGreatRunLay
namespace Go.Proofs.YtgenkjmcddjaoaaGreat
open Go.RowKit

end Go.Proofs.YtgenkjmcddjaoaaGreat
