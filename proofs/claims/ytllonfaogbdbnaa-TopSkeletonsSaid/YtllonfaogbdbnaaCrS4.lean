/-
  The contract of Sets, the document's answer.
-/
import Derived.Test.YtllonfaogbdbnaaCrS3
namespace Go.Proofs.Ytllonfaogbdbnaa
open Go.ChangeShapes Go.WideShapes Go.RowKit
open Cr
end Go.Proofs.Ytllonfaogbdbnaa
