/-
  The contract of the document's Validate for moments.
-/
import Derived.Test.YtlegalibjkeccaaMoV
namespace Go.Proofs.Ytlegalibjkeccaa
open Go.ChangeShapes Go.WideShapes Go.RowKit
open Sh
end Go.Proofs.Ytlegalibjkeccaa
