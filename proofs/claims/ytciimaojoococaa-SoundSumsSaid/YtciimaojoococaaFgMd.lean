import Derived.Test.YtciimaojoococaaFgMc
import Derived.OwnWalk
namespace Go.Proofs.Ytciimaojoococaa
open Go.ChangeShapes Go.WideShapes Go.RowKit
open Sh
attribute [local go_sem 1000000] run_min_mn run_max_mx
attribute [local go_sem high] run_max3' run_min3'
end Go.Proofs.Ytciimaojoococaa
namespace Go.Proofs.Ytciimaojoococaa
open Go.ChangeShapes Go.WideShapes Go.RowKit
open Sh
attribute [local go_sem 1000000] run_min_mn run_max_mx
attribute [local go_sem high] run_max3' run_min3'
end Go.Proofs.Ytciimaojoococaa
namespace Go.Proofs.Ytciimaojoococaa
open Go.ChangeShapes Go.WideShapes Go.RowKit
open Sh
open Go.Shelf
end Go.Proofs.Ytciimaojoococaa
namespace Go.Proofs.Ytciimaojoococaa
open Go.ChangeShapes Go.WideShapes Go.RowKit
open Sh
end Go.Proofs.Ytciimaojoococaa
namespace Go.Proofs.Ytciimaojoococaa
open Go.ChangeShapes Go.WideShapes Go.RowKit
open Sh
def cI (P:Nat→P3) (q:P3):Nat→Int→Int
  | 0,a=>a
  | k + 1,a=>Sp.mx (cI P q k a) (sq (sub (P k) q))
end Go.Proofs.Ytciimaojoococaa
