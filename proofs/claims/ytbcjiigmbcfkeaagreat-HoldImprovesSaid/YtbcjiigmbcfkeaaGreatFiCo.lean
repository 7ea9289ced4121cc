import Derived.RangeFuncBox
import Derived.Maps.AppendAt
import Derived.Test.YtbcjiigmbcfkeaaGreatFiM
import Derived.Test.YtbcjiigmbcfkeaaGreatMoM
namespace Go.Proofs.YtbcjiigmbcfkeaaGreat
open Go.ChangeShapes Go.WideShapes Go.RowKit
open Sh
open Go.Shelf
attribute [local go_sem] Oper.semAt_some
theorem room_none9 (k:Nat):Fence.wide.room k:=fun d h=>by cases h
theorem roundIn_any9 {m m':Nat} {P:Program} {l:Nat} {f:FuncId} {tmps:Array Value} {assign body:Code} {w:World} {R:Ending→World→Prop}
    (h:RoundIn Fence.wide m P l f tmps assign body w R):RoundIn Fence.wide m' P l f tmps assign body w R:=⟨h.1,fun c cs _=>h.2 c cs (room_none9 _)⟩
theorem yieldAt_any9 {m:Nat} (m':Nat) {P:Program} {l:Nat} {args:Array Value} {W:World} {R:Ending→World→Prop} (h:YieldAt Fence.wide m P l args W R):YieldAt Fence.wide m' P l args W R:=by
  obtain ⟨fn,tmps,assign,body,hy,hR⟩:=h
  exact ⟨fn,tmps,assign,body,hy,roundIn_any9 hR⟩
theorem own_base9 {w:World} {B base:Nat} {e:TypeId} {n:Nat} {v:Value} {k:Nat} {xs:List Value} (h:w.ownsRow base e n v k xs) (hB:B≤base):w.ownsRow B e n v k xs:=by
  refine ⟨h.1,?_⟩
  rcases h.2 with hn|⟨g,cap,cur,rfl,hg,rest⟩
  · exact .inl hn
  · exact .inr ⟨g,cap,cur,rfl,by omega,rest⟩
theorem below_grown9 {W W':World} (h:Below W.heap.size W W'):W.grownBy W' none:=⟨h.os,h.tape,h.output,h.size,fun k hk _=>h.block k hk⟩
def pcs9 (t:P9):List Value:=[.int .i64 t.1.1,.int .i64 t.1.2.1,.int .i64 t.1.2.2,.int .i64 t.2.1.1,.int .i64 t.2.1.2.1,.int .i64 t.2.1.2.2,.int .i64 t.2.2.1,.int .i64 t.2.2.2.1,.int .i64 t.2.2.2.2]
def pcs (l:List P9):List Value:=l.flatMap pcs9
theorem infoPn9:(Tryz.prog.info? 77).map (fun i=>(i.zero,i.size,i.bytes))=some (some (.agg #[.int .i64 0,.int .i64 0,.int .i64 0,.int .i64 0,.int .i64 0,.int .i64 0,.int .i64 0,.int .i64 0,.int .i64 0]),9,72):=by kernel_rfl
def BxP (W:World) (B:Nat) (x:P9):Prop:=W.heap[B]?=some (.cells #[.int .i64 x.1.1,.int .i64 x.1.2.1,.int .i64 x.1.2.2,.int .i64 x.2.1.1,.int .i64 x.2.1.2.1,.int .i64 x.2.1.2.2,.int .i64 x.2.2.1,.int .i64 x.2.2.2.1,.int .i64 x.2.2.2.2] 77 (0,0))
theorem bxp_own (B:Nat) (x:P9):Go.Own (fun (_:Unit) W=>BxP W B x):=fun s X Y row hs hg hrow=>by
  have hl:B<X.heap.size:=(Array.getElem?_eq_some_iff.1 (show X.heap[B]?=_ from hs)).1
  exact (hg.block B hl (fun e'=>by obtain ⟨o,ho,hc⟩:=hrow B e'.symm;rw [show X.heap[B]?=_ from hs] at ho;cases ho;cases hc)).trans hs
theorem parts_any (t:P9) (D:Int) (w:World) :
    Calls Tryz.prog 116 #[p9v t,.int .i64 D] w fun e w'=>e=.returned (.func (.func 171) #[] #[.pointer (some ⟨w.heap.size,0,none⟩),.pointer (some ⟨w.heap.size+1,0,none⟩)])∧(w.alloc (pnc t.1 t.2.1 t.2.2 77)).alloc (.cells #[.int .i64 D] 3)=w':=by
  obtain ⟨a,b,c⟩:=t
  go_enter Tryz.func116,Tryz.ntmps116
  go_wp2
  go_ret
  exact ⟨rfl,rfl⟩
end Go.Proofs.YtbcjiigmbcfkeaaGreat
