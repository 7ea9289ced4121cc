/-
  The contract of Add for moments that are valid.
-/
import Derived.Test.YtofjnbebipkgkaaDoorMoAd
namespace Go.Proofs.YtofjnbebipkgkaaDoor
open Go.ChangeShapes Go.WideShapes Go.RowKit
open Sh
end Go.Proofs.YtofjnbebipkgkaaDoor
