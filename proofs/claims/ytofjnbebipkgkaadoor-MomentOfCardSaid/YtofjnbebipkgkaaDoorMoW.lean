/-
  The contract of the document's Validate for moments.
-/
import Derived.Test.YtofjnbebipkgkaaDoorMoV
namespace Go.Proofs.YtofjnbebipkgkaaDoor
open Go.ChangeShapes Go.WideShapes Go.RowKit
open Sh
end Go.Proofs.YtofjnbebipkgkaaDoor
