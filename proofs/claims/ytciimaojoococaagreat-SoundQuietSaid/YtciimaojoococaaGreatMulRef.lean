import Derived.Test.YtciimaojoococaaGreatQuo
import Derived.Test.YtciimaojoococaaGreatNumDiv
import Derived.Test.YtciimaojoococaaGreatShelf
import Derived.Laws.Bits64b
namespace Go.Proofs.YtciimaojoococaaGreat
open Go.ChangeShapes Go.WideShapes Go.RowKit
theorem size1_any (a:Int) (x:Nat) (w:World) (e:a.natAbs=x) (h:x≤1099511627776) :
    Calls Tryz.prog 99 #[.int .i64 a] w fun e w'=>e=.returned (.int .u64 (x:Int))∧w=w':=by
  rcases Int.lt_or_le a 0 with h0 | h0
  · have E:Hid (-a=(x:Int)):=(by omega:-a=(x:Int))
    have h1:-1099511627776≤a:=by omega
    clear e h
    go_enter Tryz.func99,Tryz.ntmps99
    go_wp2
    go_ret
    exact ⟨by rw [← E.out];rfl,rfl⟩
  · have E:Hid (a=(x:Int)):=(by omega:a=(x:Int))
    have h1:a≤1099511627776:=by omega
    clear e h
    go_enter Tryz.func99,Tryz.ntmps99
    go_wp2
    go_ret
    exact ⟨by rw [← E.out];rfl,rfl⟩
theorem prod0 (x y:Nat):0≤(x:Int) * (y:Int):=by rw [← Int.natCast_mul];omega
end Go.Proofs.YtciimaojoococaaGreat
