/-
  The contract of the document's Residual; of Minor, Long, many, known.
-/
import Derived.Test.YtllonfaogbdbnaaCr20
namespace Go.Proofs.Ytllonfaogbdbnaa
open Go.ChangeShapes Go.WideShapes Go.RowKit
open Cr
end Go.Proofs.Ytllonfaogbdbnaa
