import Derived.Test.YtciimaojoococaaFiM
import Derived.Test.YtciimaojoococaaMoM
namespace Go.Proofs.Ytciimaojoococaa
open Go.ChangeShapes Go.WideShapes Go.RowKit
open Sh
end Go.Proofs.Ytciimaojoococaa
