/- The class of a size, in package class. -/
import Derived.Test.YtgdliebllmgibaaDoorClsRows
import Derived.OwnWalk
namespace Go.Proofs.YtgdliebllmgibaaDoor
open Go.RowKit

/-- The class, the pages, and whether there is one. -/
def ofAns (size : Int) : Value := if size < 0 then .tuple #[.int .i64 0, .int .i64 0, .bool false] else .tuple #[.int .i64 (Cls.cls size : Int), .int .i64 (Cls.pgs size), .bool true]

end Go.Proofs.YtgdliebllmgibaaDoor
