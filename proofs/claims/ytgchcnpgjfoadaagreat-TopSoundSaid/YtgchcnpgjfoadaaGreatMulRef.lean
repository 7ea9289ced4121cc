import Derived.Test.YtgchcnpgjfoadaaGreatQuo
import Derived.Test.YtgchcnpgjfoadaaGreatNumDiv
import Derived.Test.YtgchcnpgjfoadaaGreatShelf
import Derived.Laws.Bits64b
namespace Go.Proofs.YtgchcnpgjfoadaaGreat
open Go.ChangeShapes Go.WideShapes Go.RowKit
end Go.Proofs.YtgchcnpgjfoadaaGreat
