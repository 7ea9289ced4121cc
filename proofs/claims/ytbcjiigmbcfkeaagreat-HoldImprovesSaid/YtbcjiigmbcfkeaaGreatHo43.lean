import Derived.Defers
import Derived.Recover
import Derived.Laws.Pointers
import Derived.Test.YtbcjiigmbcfkeaaGreatHoMh
namespace Go.Proofs.YtbcjiigmbcfkeaaGreat
open Go.Lib (hid)
open Go.ChangeShapes Go.WideShapes Go.RowKit
open Sh
set_option maxRecDepth 100000 in
set_option maxHeartbeats 1000000 in
theorem him_catch (a b q n cap:Nat) (x y:Value) (w:World) (ca:w.cell? ⟨a,0,none⟩=some x) (cb:w.cell? ⟨b,0,none⟩=some y) (fa:w.frozen? ⟨a,0,none⟩=false) (fb:w.frozen? ⟨b,0,none⟩=false) (la:a<w.heap.size) (lb:b<w.heap.size) (ab:a ≠ b) :
    CallsD Tryz.prog 81 #[.pointer (some ⟨a,0,none⟩),.pointer (some ⟨b,0,none⟩)] (.panicking (pan7 (.slice (some ⟨q,0,none⟩) n cap))) w fun e u' w' =>
      e=.returned (.tuple #[])/\u'=.panicking [{ v:=.iface 98 (.agg #[.slice (some ⟨q,0,none⟩) n cap]),recovered:=true }]/\w'=((w.alloc (.cells #[.slice (some ⟨q,0,none⟩) n cap] 98)).setCell ⟨a,0,none⟩ (.slice (some ⟨q,0,none⟩) n cap)).setCell ⟨b,0,none⟩ (.int .i64 0):=by
  refine callsD_of_wpS Tryz.func81 rfl fun c₀ cs hu=>?_
  unfold pan7 at hu
  have ta:∀ w,(Instr.typeAssert (.iface 98 (.agg #[.slice (some ⟨q,0,none⟩) n cap])) 20 98 true).run Tryz.prog w=.ok (.tuple #[.agg #[.slice (some ⟨q,0,none⟩) n cap],.bool true]) w:=fun _=>by kernel_rfl
  apply wpS_seq
  apply wpS_region
  simp [wpOpsS,go_sem,recoverD,hu,ta,Tryz.ntmps81,Exit.thenS]
  clear ta hu
  apply wpS_seq
  apply wpS_region
  simp [wpOpsS,go_sem,Exit.thenS]
  refine wpS_cond (t:=true) (by simp [Act.eval,Array.replicate]) ?_
  simp only [if_true]
  apply wpS_region
  have ba:b ≠ a:=fun h=>ab h.symm
  simp [wpOpsS,go_sem,ca,cb,fa,fb,la,lb,bodyPostS,results,Tryz.results81]
end Go.Proofs.YtbcjiigmbcfkeaaGreat
