import Derived.RangeFuncBox
import Derived.Maps.AppendAt
import Derived.Test.YtgchcnpgjfoadaaGreatFiM
import Derived.Test.YtgchcnpgjfoadaaGreatMoM
namespace Go.Proofs.YtgchcnpgjfoadaaGreat
open Go.ChangeShapes Go.WideShapes Go.RowKit
open Sh
open Go.Shelf
attribute [local go_sem] Oper.semAt_some
theorem room_none9 (k:Nat):Fence.wide.room k:=fun d h=>by cases h
theorem roundIn_any9 {m m':Nat} {P:Program} {l:Nat} {f:FuncId} {tmps:Array Value} {assign body:Code} {w:World} {R:Ending→World→Prop}
    (h:RoundIn Fence.wide m P l f tmps assign body w R):RoundIn Fence.wide m' P l f tmps assign body w R:=⟨h.1,fun c cs _=>h.2 c cs (room_none9 _)⟩
theorem yieldAt_any9 {m:Nat} (m':Nat) {P:Program} {l:Nat} {args:Array Value} {W:World} {R:Ending→World→Prop} (h:YieldAt Fence.wide m P l args W R):YieldAt Fence.wide m' P l args W R:=by
  obtain ⟨fn,tmps,assign,body,hy,hR⟩:=h
  exact ⟨fn,tmps,assign,body,hy,roundIn_any9 hR⟩
theorem own_base9 {w:World} {B base:Nat} {e:TypeId} {n:Nat} {v:Value} {k:Nat} {xs:List Value} (h:w.ownsRow base e n v k xs) (hB:B≤base):w.ownsRow B e n v k xs:=by
  refine ⟨h.1,?_⟩
  rcases h.2 with hn | ⟨g,cap,cur,rfl,hg,rest⟩
  · exact .inl hn
  · exact .inr ⟨g,cap,cur,rfl,by omega,rest⟩
theorem below_grown9 {W W':World} (h:Below W.heap.size W W'):W.grownBy W' none:=⟨h.os,h.tape,h.output,h.size,fun k hk _=>h.block k hk⟩
set_option maxRecDepth 100000 in
set_option maxHeartbeats 1000000 in
theorem parts1_in (n:Nat) (d:Nat) (D B:Int) (t:P9) (n₀ Bp Bd l:Nat) (J Jx:List P9→World→Prop) (hD:D=(d:Int)) (hd:d≤3) (hB:BdT B t) (hb:2 ^ d * B≤2305843009213693952)
    (HJ:∀ s X Y,J s X→Below X.heap.size X Y→J s Y)
    (HY:∀ m pre x X,J pre X→pre.length < 4 ^ d→YieldAt Fence.wide m Tryz.prog l #[p9v x] X fun e W'=>(e=.returned (.bool true)∧J (pre ++ [x]) W'∧Below n₀ X W')∨(e=.returned (.bool false)∧Jx (pre ++ [x]) W'))
    (W:World) (hn:n₀≤W.heap.size) (hp:Pan W Bp t.1 t.2.1 t.2.2) (hc:W.cell? ⟨Bd,0,none⟩=some (.int .i64 D)) (h0:J [] W) :
    CallsIn Fence.wide n Tryz.prog 134 #[.func (.yield l) #[] #[],.pointer (some ⟨Bp,0,none⟩),.pointer (some ⟨Bd,0,none⟩)] W fun e W'=>(∃ v,e=.returned v) ∧
      ((∃ ys,ys=cutP d t∧J ys W')∨(∃ pre,pre <+: cutP d t∧Jx pre W')):=by
  have V:=Lib.hid (visit_in l n₀ (4 ^ d) J Jx HJ HY d (n - 1) D B t [] W hD hd hB hb hn h0 (by simp))
  clear HJ HY h0 hb hB hd hD hn
  obtain ⟨a,b,c⟩:=t
  obtain ⟨c0,c1,c2,c3,c4,c5,c6,c7,c8,cl⟩:=hp
  generalize cutP d (a,b,c)=L at *
  refine callsIn_of_wp Tryz.func134 rfl trivial ?_ rfl
  simp only [Tryz.ntmps134,List.size_toArray,List.length_cons,List.length_nil,Nat.reduceAdd,Nat.reduceSub,Array.replicate_succ,Array.replicate_zero,List.push_toArray,List.append_toArray,List.nil_append,List.cons_append]
  gi_wp2_with ((first | refine ⟨trivial,fun h=>(by cases (show false=true from h)),?_⟩ | skip);gi_at_call 135;refine V.out.mono ?_;clear V;rintro e W2 (⟨rfl,h1,h2⟩ | ⟨rfl,q,hq,h1⟩))
  · go_end0
    exact ⟨⟨_,rfl⟩,.inl ⟨_,rfl,h1⟩⟩
  · go_end0
    exact ⟨⟨_,rfl⟩,.inr ⟨q,hq,h1⟩⟩
theorem parts_stops (n:Nat) (d:Nat) (D B:Int) (t:P9) (n₀ Bp Bd:Nat) (w:World) (hD:D=(d:Int)) (hd:d≤3) (hB:BdT B t) (hb:2 ^ d * B≤2305843009213693952) (hn:n₀≤w.heap.size)
    (hp:Pan w Bp t.1 t.2.1 t.2.2) (hc:w.cell? ⟨Bd,0,none⟩=some (.int .i64 D)) (hl:Bd < w.heap.size) :
    SeqStopsK Fence.wide n Tryz.prog 134 #[.pointer (some ⟨Bp,0,none⟩),.pointer (some ⟨Bd,0,none⟩)] (fun x:P9=>#[p9v x]) (Below n₀) (fun ys=>ys=cutP d t) (fun pre=>pre <+: cutP d t) (4 ^ d) w:=fun l J Jx W hW hJ _ hY h0 =>
  parts1_in n d D B t n₀ Bp Bd l J Jx hD hd hB hb (fun s X Y h b=>hJ s X Y none h (below_grown9 b) (fun r e=>by cases e)) (fun m pre x X hj hlt=>yieldAt_any9 m (hY pre x X hj hlt)) W (Nat.le_trans hn hW.size) (pan_below hp hW) ((hW.cell (p:=⟨Bd,0,none⟩) hl).trans hc) h0
def pcs9 (t:P9):List Value:=[.int .i64 t.1.1,.int .i64 t.1.2.1,.int .i64 t.1.2.2,.int .i64 t.2.1.1,.int .i64 t.2.1.2.1,.int .i64 t.2.1.2.2,.int .i64 t.2.2.1,.int .i64 t.2.2.2.1,.int .i64 t.2.2.2.2]
def pcs (l:List P9):List Value:=l.flatMap pcs9
theorem pcs_snoc (l:List P9) (t:P9):pcs l ++ pcs9 t=pcs (l ++ [t]):=by simp [pcs]
theorem infoPn9:(Tryz.prog.info? 59).map (fun i=>(i.zero,i.size,i.bytes))=some (some (.agg #[.int .i64 0,.int .i64 0,.int .i64 0,.int .i64 0,.int .i64 0,.int .i64 0,.int .i64 0,.int .i64 0,.int .i64 0]),9,72):=by kernel_rfl
theorem pcs9_new (w:World) (t:P9) (ty:TypeId):∀ j u,(pcs9 t)[j]?=some u→(w.alloc (pnc t.1 t.2.1 t.2.2 ty)).cell? ((⟨w.heap.size,0,none⟩:Addr).add j)=some u:=by
  intro j u hu
  have hlt:j < 9:=by
    have:=(List.getElem?_eq_some_iff.1 hu).1
    simpa [pcs9] using this
  have:j=0∨j=1∨j=2∨j=3∨j=4∨j=5∨j=6∨j=7∨j=8:=by omega
  rcases this with rfl | rfl | rfl | rfl | rfl | rfl | rfl | rfl | rfl
  · have:u=.int .i64 t.1.1:=by simp [pcs9] at hu;exact hu.symm
    subst this
    show (w.alloc (pnc t.1 t.2.1 t.2.2 ty)).cell? ⟨w.heap.size,0,none⟩=_
    go_simp
  · have:u=.int .i64 t.1.2.1:=by simp [pcs9] at hu;exact hu.symm
    subst this
    show (w.alloc (pnc t.1 t.2.1 t.2.2 ty)).cell? ⟨w.heap.size,1,none⟩=_
    go_simp
  · have:u=.int .i64 t.1.2.2:=by simp [pcs9] at hu;exact hu.symm
    subst this
    show (w.alloc (pnc t.1 t.2.1 t.2.2 ty)).cell? ⟨w.heap.size,2,none⟩=_
    go_simp
  · have:u=.int .i64 t.2.1.1:=by simp [pcs9] at hu;exact hu.symm
    subst this
    show (w.alloc (pnc t.1 t.2.1 t.2.2 ty)).cell? ⟨w.heap.size,3,none⟩=_
    go_simp
  · have:u=.int .i64 t.2.1.2.1:=by simp [pcs9] at hu;exact hu.symm
    subst this
    show (w.alloc (pnc t.1 t.2.1 t.2.2 ty)).cell? ⟨w.heap.size,4,none⟩=_
    go_simp
  · have:u=.int .i64 t.2.1.2.2:=by simp [pcs9] at hu;exact hu.symm
    subst this
    show (w.alloc (pnc t.1 t.2.1 t.2.2 ty)).cell? ⟨w.heap.size,5,none⟩=_
    go_simp
  · have:u=.int .i64 t.2.2.1:=by simp [pcs9] at hu;exact hu.symm
    subst this
    show (w.alloc (pnc t.1 t.2.1 t.2.2 ty)).cell? ⟨w.heap.size,6,none⟩=_
    go_simp
  · have:u=.int .i64 t.2.2.2.1:=by simp [pcs9] at hu;exact hu.symm
    subst this
    show (w.alloc (pnc t.1 t.2.1 t.2.2 ty)).cell? ⟨w.heap.size,7,none⟩=_
    go_simp
  · have:u=.int .i64 t.2.2.2.2:=by simp [pcs9] at hu;exact hu.symm
    subst this
    show (w.alloc (pnc t.1 t.2.1 t.2.2 ty)).cell? ⟨w.heap.size,8,none⟩=_
    go_simp
def BxP (W:World) (B:Nat) (x:P9):Prop:=W.heap[B]?=some (.cells #[.int .i64 x.1.1,.int .i64 x.1.2.1,.int .i64 x.1.2.2,.int .i64 x.2.1.1,.int .i64 x.2.1.2.1,.int .i64 x.2.1.2.2,.int .i64 x.2.2.1,.int .i64 x.2.2.2.1,.int .i64 x.2.2.2.2] 59 (0,0))
theorem bxp_own (B:Nat) (x:P9):Go.Own (fun (_:Unit) W=>BxP W B x):=fun s X Y row hs hg hrow=>by
  have hl:B < X.heap.size:=(Array.getElem?_eq_some_iff.1 (show X.heap[B]?=_ from hs)).1
  exact (hg.block B hl (fun e'=>by obtain ⟨o,ho,hc⟩:=hrow B e'.symm;rw [show X.heap[B]?=_ from hs] at ho;cases ho;cases hc)).trans hs
set_option maxRecDepth 100000 in
set_option maxHeartbeats 4000000 in
theorem appseq_in (n:Nat) (hn:3≤n) (gf:Nat) (lb:Array Value) (eg:∀ args w,(callFunc gf args).run Tryz.prog w=.ok (.enter gf args) w) (xs:List P9) (hlen:xs.length≤1000) (w:World)
    (hseq:SeqStopsK Fence.wide (n - 1) Tryz.prog gf lb (fun x:P9=>#[p9v x]) (Below w.heap.size) (fun ys=>ys=xs) (fun pre=>pre <+: xs) xs.length w) :
    CallsIn Fence.wide n Tryz.prog 133 #[.slice none 0 0,.func (.func gf) #[] lb] w fun e W'=>∃ v,e=.returned v∧W'.ownsRow w.heap.size 59 9 v xs.length (pcs xs)∧Below w.heap.size w W':=by
  have h1:1≤n:=by omega
  obtain ⟨i0,hi,hz0,hz1,hz2⟩:=info_parts infoPn9
  refine callsIn_of_wp_marks Tryz.func133 rfl trivial ?_ rfl
  simp only [Tryz.ntmps133,List.size_toArray,List.length_cons,List.length_nil,Nat.reduceAdd,Nat.reduceSub,Array.replicate_succ,Array.replicate_zero,List.push_toArray,List.append_toArray,List.nil_append,List.cons_append]
  gi_wp2
  have bO:=Boxed.new w 113 (.slice none 0 0)
  have hB0:Below w.heap.size w (w.alloc (.cells #[.slice none 0 0] 113)):=(Below.refl _ w).alloc (Nat.le_refl _) _
  refine wpIn_rangeFunc_ownH rfl h1 (gf:=gf) (lb:=lb) rfl trivial eg hseq belowK_t (belowK_b (by simp)) hB0 (fun _=>rfl)
    (fun pre W=>(∃ v,Boxed W w.heap.size 113 v∧W.ownsRow w.heap.size 59 9 v pre.length (pcs pre)∧True)∧Below w.heap.size w W)
    (fun _ _ _=>False)
    (OwnFrom.and (Own.from (holdsRow_own w.heap.size w.heap.size 113 59 9 (fun pre=>pre.length) (fun pre=>pcs pre) (fun _ _=>True)) _) (ownFrom_below (Nat.le_refl _) (by simp)))
    (fun _ _ _ _ _ hs _ _=>hs)
    ⟨⟨_,bO,World.ownsRow_nil _ _ _ _,trivial⟩,hB0⟩
    (fun x a' W=>∃ Bx,w.heap.size < Bx∧BxP W Bx x∧a'={ tmps:=#[.slice none 0 0,.func (.func gf) #[] lb,.pointer (some ⟨w.heap.size,0,none⟩),undef,.slice none 0 0,.pointer (some ⟨Bx,0,none⟩),.func (.func gf) #[] lb,p9v x,undef,undef,undef,undef,undef],defers:=[] })
    (fun x a'=>by
      rintro _ X Y row ⟨Bx,hx,hb,rfl⟩ hg hr
      exact ⟨Bx,hx,bxp_own Bx x () X Y row hb hg (fun r e=>(hr r e).2),rfl⟩) ?assign ?body ?done ?stop
  case assign =>
    rintro l pre x W K ⟨⟨v,hv,hrow,_⟩,hB⟩ hK
    gi_wp2
    exact hK _ _ ((KeepsOthers.alloc _ _).from _) ((Below.refl _ W).alloc hB.size _) ⟨⟨v,hv.alloc _,hrow.alloc _,trivial⟩,hB.alloc hB.size _⟩ ⟨W.heap.size,hv.lt,World.alloc_heap_new W _,rfl⟩
  case body =>
    rintro l pre x a' W hl ⟨r,hr⟩ ⟨⟨v,hv,hrow,_⟩,hB⟩ ⟨Bx,hBx,hX,rfl⟩ hlt
    have hc:=hv.cell
    have x0:Pan W Bx x.1 x.2.1 x.2.2:=by
      have hX':W.heap[Bx]?=_:=hX
      refine ⟨?_,?_,?_,?_,?_,?_,?_,?_,?_,(Array.getElem?_eq_some_iff.1 hX').1⟩ <;> simp [World.cell?,hX']
    obtain ⟨c0,c1,c2,c3,c4,c5,c6,c7,c8,cl⟩:=x0
    gi_wp2_with (gi_at_builtin;refine wpListIn_append_own _ rfl _ _ 113 rfl w.heap.size 59 i0 (.agg #[.int .i64 0,.int .i64 0,.int .i64 0,.int .i64 0,.int .i64 0,.int .i64 0,.int .i64 0,.int .i64 0,.int .i64 0]) 9 72 Tryz.underlying113 hi hz0 hz1 hz2 rfl (by decide) _ _ _ rfl (hrow.alloc _) ⟨W.heap.size,0,none⟩ 1 1 (pcs9 x) rfl rfl (pcs9_new _ _ _) (by intro u hu;simp [pcs9] at hu;rcases hu with rfl | rfl | rfl | rfl | rfl | rfl | rfl | rfl | rfl <;> rfl) (by unfold maxLen;omega) (by omega) (by have:=hB.size;simp;omega) ?_;intro v' w1 hown' hgrow _;obtain ⟨g',cap',rfl⟩:=ownsRow_succ hown';obtain ⟨hv1,hv2,hr2,hk2,hb2⟩:=hv.appended (by decide) hrow hB.size (Nat.le_refl _) hown' hgrow;have hc1:=hv1.cell;have hf1:=hv1.frozen)
    exact ⟨hk2.from _,hb2,⟨_,hv2,by rw [← pcs_snoc,List.length_append];exact hr2,trivial⟩,hB.trans hb2⟩
  case done =>
    rintro D ys W hD rfl ⟨⟨v,hv,hrow,_⟩,hB⟩ hK
    have hc:=hv.cell
    gi_wp2
    refine ⟨by simp,.inl ⟨_,_,rfl,run_takeDeferred hK,?_⟩⟩
    exact ⟨_,results_tmp rfl _ _ _,v,rfl,ownsRow_putObj hrow _ hK rfl,hB.trans (belowK_b (w:=w) (Nat.le_refl _) W D _ _ (by simp at hD;omega) hK rfl rfl)⟩
  case stop =>
    rintro D c pre W _ _ h _
    exact h.elim
theorem collect_in (n:Nat) (hn:4≤n) (gf:Nat) (lb:Array Value) (eg:∀ args w,(callFunc gf args).run Tryz.prog w=.ok (.enter gf args) w) (xs:List P9) (hlen:xs.length≤1000) (w:World)
    (hseq:SeqStopsK Fence.wide (n - 1 - 1) Tryz.prog gf lb (fun x:P9=>#[p9v x]) (Below w.heap.size) (fun ys=>ys=xs) (fun pre=>pre <+: xs) xs.length w) :
    CallsIn Fence.wide n Tryz.prog 112 #[.func (.func gf) #[] lb] w fun e W'=>∃ v,e=.returned v∧W'.ownsRow w.heap.size 59 9 v xs.length (pcs xs)∧Below w.heap.size w W':=by
  have A:=Lib.hid (appseq_in (n - 1) (by omega) gf lb eg xs hlen w hseq)
  clear hseq
  refine callsIn_of_wp Tryz.func112 rfl trivial ?_ rfl
  simp only [Tryz.ntmps112,List.size_toArray,List.length_cons,List.length_nil,Nat.reduceAdd,Nat.reduceSub,Array.replicate_succ,Array.replicate_zero,List.push_toArray,List.append_toArray,List.nil_append,List.cons_append]
  gi_wp2_with ((first | refine ⟨trivial,fun h=>(by cases (show false=true from h)),?_⟩ | refine ⟨fun h=>(by cases (show false=true from h)),?_⟩ | skip);gi_at_call 133;refine A.out.mono ?_;rintro e W2 ⟨v,rfl,h1,h2⟩)
  go_ret
  exact ⟨v,rfl,h1,h2⟩
theorem parts_any (t:P9) (D:Int) (w:World) :
    Calls Tryz.prog 113 #[p9v t,.int .i64 D] w fun e w'=>e=.returned (.func (.func 134) #[] #[.pointer (some ⟨w.heap.size,0,none⟩),.pointer (some ⟨w.heap.size + 1,0,none⟩)])∧(w.alloc (pnc t.1 t.2.1 t.2.2 59)).alloc (.cells #[.int .i64 D] 3)=w':=by
  obtain ⟨a,b,c⟩:=t
  go_enter Tryz.func113,Tryz.ntmps113
  go_wp2
  go_ret
  exact ⟨rfl,rfl⟩
def ctcode (t:P9) (D:Int):Int:=if pcode t.1 t.2.1 t.2.2=0 then (if rngB D 0 3 then 0 else 1) else pcode t.1 t.2.1 t.2.2
theorem cut_no (t:P9) (D:Int) (pc:Int) (w:World) (V:Hid (∀ W,Calls Tryz.prog 72 #[p9v t] W fun e w'=>e=.returned (.int .i64 pc)∧Below W.heap.size W w')) (z:(pc != 0)=true) :
    Calls Tryz.prog 111 #[p9v t,.int .i64 D] w fun e w'=>e=.returned (.int .i64 pc)∧Below w.heap.size w w':=by
  obtain ⟨a,b,c⟩:=t
  go_enter Tryz.func111,Tryz.ntmps111
  go_wp2_with fail
  refine (V.out _).mono ?_
  rintro e w1 ⟨rfl,hb1⟩
  go_wp2
  go_ret
  exact ⟨rfl,by (repeat' (first | exact Below.refl _ _ | refine bstep ?_ hb1 | refine Below.setCell ?_ (by simp <;> omega) _ | refine balloc ?_ _ | refine Below.drew ?_ | refine bdrewN ?_ _))⟩
theorem cut_true (t:P9) (D:Int) (w:World) (V:Hid (∀ W,Calls Tryz.prog 72 #[p9v t] W fun e w'=>e=.returned (.int .i64 0)∧Below W.heap.size W w')) (I:Hid (∀ W,Calls Tryz.prog 73 #[.int .i64 D,.int .i64 0,.int .i64 3] W fun e w'=>e=.returned (.bool true)∧W=w')) :
    Calls Tryz.prog 111 #[p9v t,.int .i64 D] w fun e w'=>e=.returned (.int .i64 0)∧Below w.heap.size w w':=by
  obtain ⟨a,b,c⟩:=t
  go_enter Tryz.func111,Tryz.ntmps111
  go_wp2_with fail
  refine (V.out _).mono ?_
  rintro e w1 ⟨rfl,hb1⟩
  go_wp2_with fail
  refine (I.out _).mono ?_
  rintro e w2 ⟨rfl,rfl⟩
  go_wp2
  go_ret
  exact ⟨rfl,by (repeat' (first | exact Below.refl _ _ | refine bstep ?_ hb1 | refine Below.setCell ?_ (by simp <;> omega) _ | refine balloc ?_ _ | refine Below.drew ?_ | refine bdrewN ?_ _))⟩
theorem cut_false (t:P9) (D:Int) (w:World) (V:Hid (∀ W,Calls Tryz.prog 72 #[p9v t] W fun e w'=>e=.returned (.int .i64 0)∧Below W.heap.size W w')) (I:Hid (∀ W,Calls Tryz.prog 73 #[.int .i64 D,.int .i64 0,.int .i64 3] W fun e w'=>e=.returned (.bool false)∧W=w')) :
    Calls Tryz.prog 111 #[p9v t,.int .i64 D] w fun e w'=>e=.returned (.int .i64 1)∧Below w.heap.size w w':=by
  obtain ⟨a,b,c⟩:=t
  go_enter Tryz.func111,Tryz.ntmps111
  go_wp2_with fail
  refine (V.out _).mono ?_
  rintro e w1 ⟨rfl,hb1⟩
  go_wp2_with fail
  refine (I.out _).mono ?_
  rintro e w2 ⟨rfl,rfl⟩
  go_wp2
  go_ret
  exact ⟨rfl,by (repeat' (first | exact Below.refl _ _ | refine bstep ?_ hb1 | refine Below.setCell ?_ (by simp <;> omega) _ | refine balloc ?_ _ | refine Below.drew ?_ | refine bdrewN ?_ _))⟩
theorem cut_any (t:P9) (D:Int) (w:World):Calls Tryz.prog 111 #[p9v t,.int .i64 D] w fun e w'=>e=.returned (.int .i64 (ctcode t D))∧Below w.heap.size w w':=by
  have V:=fun W=>vp_any t.1 t.2.1 t.2.2 W
  have I:=fun W=>finr_any D 0 3 W
  unfold ctcode
  by_cases z:pcode t.1 t.2.1 t.2.2=0
  · rw [if_pos z]
    rw [z] at V
    cases h:rngB D 0 3 with
    | true=>rw [h] at I;exact cut_true t D w (Lib.hid V) (Lib.hid I)
    | false=>rw [h] at I;exact cut_false t D w (Lib.hid V) (Lib.hid I)
  · rw [if_neg z]
    exact cut_no t D _ w (Lib.hid V) (bne_iff_ne.2 z)
theorem ctcode_ok {t:P9} {D:Int} (h:ctcode t D=0):BdT 64 t∧0≤D∧D≤3:=by
  unfold ctcode at h
  by_cases z:pcode t.1 t.2.1 t.2.2=0
  · rw [if_pos z] at h
    have hr:rngB D 0 3=true:=by
      cases e:rngB D 0 3 with
      | true=>rfl
      | false=>rw [e] at h;exact absurd h (by decide)
    refine ⟨?_,(rngB_iff.1 hr).1,(rngB_iff.1 hr).2⟩
    unfold pcode at z
    split at z
    · rename_i hh
      simp only [Bool.and_eq_true] at hh
      exact ⟨inP_iff.1 hh.1.1,inP_iff.1 hh.1.2,inP_iff.1 hh.2⟩
    · exact absurd z (by decide)
  · rw [if_neg z] at h
    exact absurd h z
theorem prt_no (t:P9) (D:Int) (pc:Int) (w:World) (V:Hid (∀ W,Calls Tryz.prog 111 #[p9v t,.int .i64 D] W fun e w'=>e=.returned (.int .i64 pc)∧Below W.heap.size W w')) (z:(pc != 0)=true) :
    Calls Tryz.prog 77 #[p9v t,.int .i64 D] w fun e w'=>e=.returned (.tuple #[.slice none 0 0,.int .i64 pc])∧Below w.heap.size w w':=by
  obtain ⟨a,b,c⟩:=t
  go_enter Tryz.func77,Tryz.ntmps77
  go_wp2_with fail
  refine (V.out _).mono ?_
  rintro e w1 ⟨rfl,hb1⟩
  go_wp2
  go_ret2
  exact ⟨rfl,by (repeat' (first | exact Below.refl _ _ | refine bstep ?_ hb1 | refine Below.setCell ?_ (by simp <;> omega) _ | refine balloc ?_ _ | refine Below.drew ?_ | refine bdrewN ?_ _))⟩
set_option maxHeartbeats 1000000 in
theorem prt_ok (t:P9) (D:Int) (w:World) (V:Hid (∀ W,Calls Tryz.prog 111 #[p9v t,.int .i64 D] W fun e w'=>e=.returned (.int .i64 0)∧Below W.heap.size W w')) (hB:BdT 64 t) (h0:0≤D) (h3:D≤3) :
    Calls Tryz.prog 77 #[p9v t,.int .i64 D] w fun e w'=>∃ v,e=.returned (.tuple #[v,.int .i64 0])∧w'.ownsRow w.heap.size 59 9 v (cutP D.toNat t).length (pcs (cutP D.toNat t))∧Below w.heap.size w w':=by
  have C:Hid (∀ w1:World,Calls Tryz.prog 112 #[.func (.func 134) #[] #[.pointer (some ⟨w1.heap.size,0,none⟩),.pointer (some ⟨w1.heap.size + 1,0,none⟩)]] ((w1.alloc (pnc t.1 t.2.1 t.2.2 59)).alloc (.cells #[.int .i64 D] 3)) fun e W'=>∃ v,e=.returned v∧W'.ownsRow ((w1.alloc (pnc t.1 t.2.1 t.2.2 59)).alloc (.cells #[.int .i64 D] 3)).heap.size 59 9 v (cutP D.toNat t).length (pcs (cutP D.toNat t))∧Below ((w1.alloc (pnc t.1 t.2.1 t.2.2 59)).alloc (.cells #[.int .i64 D] 3)).heap.size ((w1.alloc (pnc t.1 t.2.1 t.2.2 59)).alloc (.cells #[.int .i64 D] 3)) W'):=Lib.hid (fun w1=>by
    have hd:D.toNat=0∨D.toNat=1∨D.toNat=2∨D.toNat=3:=by omega
    refine (callsIn_wide (n:=6)).1 (collect_in 6 (by decide) 134 _ (enters_of Tryz.func134 (by kernel_rfl) rfl) (cutP D.toNat t) ?_ _ ?_)
    · rw [cutP_len]
      rcases hd with e | e | e | e <;> rw [e] <;> decide
    · rw [cutP_len]
      refine parts_stops (6 - 1 - 1) D.toNat D 64 t _ _ _ _ (by omega) (by omega) hB ?_ (Nat.le_refl _) (pan_alloc (pan_new w1 _ _ _ _) _) ?_ (by simp)
      · rcases hd with e | e | e | e <;> rw [e] <;> decide
      · go_simp)
  have PT:=Lib.hid (fun W=>parts_any t D W)
  obtain ⟨a,b,c⟩:=t
  generalize cutP D.toNat (a,b,c)=L at *
  clear hB h0 h3
  go_enter Tryz.func77,Tryz.ntmps77
  go_wp2_with fail
  refine (V.out _).mono ?_
  rintro e w1 ⟨rfl,hb1⟩
  obtain ⟨c0,c1,c2,c3,c4,c5,c6,c7,c8,cl⟩:=pan_below (pan_new w a b c 59) hb1
  go_wp2_with fail
  refine (PT.out _).mono ?_
  rintro e w2 ⟨rfl,rfl⟩
  go_wp2_with fail
  refine (C.out _).mono ?_
  rintro e w2 ⟨v,rfl,ho,hb2⟩
  go_wp2
  go_ret2
  have z:=hb1.size
  simp only [World.size_alloc] at z
  refine ⟨v,rfl,own_base9 ho (by simp;omega),?_⟩
  (repeat' (first | exact Below.refl _ _ | refine bstep ?_ hb2 | refine bstep ?_ hb1 | refine Below.setCell ?_ (by simp <;> omega) _ | refine balloc ?_ _ | refine Below.drew ?_ | refine bdrewN ?_ _))
theorem prt_any (t:P9) (D:Int) (w:World) :
    Calls Tryz.prog 77 #[p9v t,.int .i64 D] w fun e w'=>∃ v,e=.returned (.tuple #[v,.int .i64 (ctcode t D)])∧(if ctcode t D=0 then w'.ownsRow w.heap.size 59 9 v (cutP D.toNat t).length (pcs (cutP D.toNat t)) else v=.slice none 0 0)∧Below w.heap.size w w':=by
  have V:=fun W=>cut_any t D W
  by_cases z:ctcode t D=0
  · rw [z] at V
    obtain ⟨h1,h2,h3⟩:=ctcode_ok z
    exact (prt_ok t D w (Lib.hid V) h1 h2 h3).mono fun _ _ ⟨v,k1,k2,k3⟩=>⟨v,by rw [z];exact k1,by rw [if_pos z];exact k2,k3⟩
  · exact (prt_no t D _ w (Lib.hid V) (bne_iff_ne.2 z)).mono fun _ _ ⟨h1,h2⟩=>⟨_,h1,by rw [if_neg z],h2⟩
end Go.Proofs.YtgchcnpgjfoadaaGreat
