import Derived.Test.YtciimaojoococaaGreatSoMa
import Derived.Test.YtciimaojoococaaGreatSoMb
import Derived.Laws.OwnMore
namespace Go.Proofs.YtciimaojoococaaGreat
open Go.ChangeShapes Go.WideShapes Go.RowKit
open Sh
def pucl (p:Pu):List Value:=[.int .i64 p.1.1.1,.int .i64 p.1.1.2.1,.int .i64 p.1.1.2.2,.int .i64 p.1.2.1.1,.int .i64 p.1.2.1.2.1,.int .i64 p.1.2.1.2.2,.int .i64 p.1.2.2.1,.int .i64 p.1.2.2.2.1,.int .i64 p.1.2.2.2.2,.int .i64 p.2.1,.int .i64 p.2.2]
end Go.Proofs.YtciimaojoococaaGreat
namespace Go.Proofs.YtciimaojoococaaGreat
open Go.ChangeShapes Go.WideShapes Go.RowKit
open Sh
end Go.Proofs.YtciimaojoococaaGreat
namespace Go.Proofs.YtciimaojoococaaGreat
open Go.ChangeShapes Go.WideShapes Go.RowKit
open Sh
end Go.Proofs.YtciimaojoococaaGreat
