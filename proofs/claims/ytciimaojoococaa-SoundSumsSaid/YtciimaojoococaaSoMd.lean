import Derived.Test.YtciimaojoococaaSoMa
import Derived.Test.YtciimaojoococaaSoMb
import Derived.Laws.OwnMore
namespace Go.Proofs.Ytciimaojoococaa
open Go.ChangeShapes Go.WideShapes Go.RowKit
open Sh
def pucl (p:Pu):List Value:=[.int .i64 p.1.1.1,.int .i64 p.1.1.2.1,.int .i64 p.1.1.2.2,.int .i64 p.1.2.1.1,.int .i64 p.1.2.1.2.1,.int .i64 p.1.2.1.2.2,.int .i64 p.1.2.2.1,.int .i64 p.1.2.2.2.1,.int .i64 p.1.2.2.2.2,.int .i64 p.2.1,.int .i64 p.2.2]
end Go.Proofs.Ytciimaojoococaa
namespace Go.Proofs.Ytciimaojoococaa
open Go.ChangeShapes Go.WideShapes Go.RowKit
open Sh
end Go.Proofs.Ytciimaojoococaa
namespace Go.Proofs.Ytciimaojoococaa
open Go.ChangeShapes Go.WideShapes Go.RowKit
open Sh
end Go.Proofs.Ytciimaojoococaa
