/- Package runs: Take. -/
import Derived.Test.YtgenkjmcddjaoaaRunLay
namespace Go.Proofs.Ytgenkjmcddjaoaa
open Go.RowKit

end Go.Proofs.Ytgenkjmcddjaoaa
