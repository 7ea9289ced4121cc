import Derived.Test.YtgchcnpgjfoadaaGreatFiM
import Derived.Test.YtgchcnpgjfoadaaGreatMoM
namespace Go.Proofs.YtgchcnpgjfoadaaGreat
open Go.ChangeShapes Go.WideShapes Go.RowKit
open Sh
end Go.Proofs.YtgchcnpgjfoadaaGreat
