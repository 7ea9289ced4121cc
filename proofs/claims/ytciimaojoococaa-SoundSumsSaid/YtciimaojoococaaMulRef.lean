import Derived.Test.YtciimaojoococaaQuo
import Derived.Test.YtciimaojoococaaNumDiv
import Derived.Test.YtciimaojoococaaShelf
import Derived.Laws.Bits64b
namespace Go.Proofs.Ytciimaojoococaa
open Go.ChangeShapes Go.WideShapes Go.RowKit
end Go.Proofs.Ytciimaojoococaa
