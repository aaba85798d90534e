/- The document's calls on layouts, each at every argument. -/
import Derived.Test.YtgenkjmcddjaoaaLayName
import Derived.Test.YtgenkjmcddjaoaaLayRefW
namespace Go.Proofs.Ytgenkjmcddjaoaa
open Go.RowKit

end Go.Proofs.Ytgenkjmcddjaoaa
