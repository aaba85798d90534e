/- The document's class of a size: what the reference function Of answers; the document's examples of chapter 4. -/
import Derived.Test.YtnmglfaokihhgaaDoorClsRef
namespace Go.Proofs.YtnmglfaokihhgaaDoor
open Go.RowKit

end Go.Proofs.YtnmglfaokihhgaaDoor
