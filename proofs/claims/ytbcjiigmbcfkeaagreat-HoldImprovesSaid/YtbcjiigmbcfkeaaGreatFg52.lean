import Derived.RangeFuncBox
import Derived.RangeFuncCalls
import Derived.Maps.AppendAt
import Derived.Stop.RegionWithIn
import Derived.Test.YtbcjiigmbcfkeaaGreatFgMi
namespace Go.Proofs.YtbcjiigmbcfkeaaGreat
open Go.Lib (hid)
open Go.ChangeShapes Go.WideShapes Go.RowKit
open Sh
open Go.Shelf
attribute [local go_sem] Oper.semAt_some
theorem gis_take (g:P9->Sp.R) (u:P9) (D:Int):∀ k,k<=(cutP D.toNat u).length->gis g (ptk u D) k=((cutP D.toNat u).take k).map (fun q=>(g q).1)
 |0,_=>rfl
 |k+1,h=>by
    have e:(cutP D.toNat u)[k]?=some (ptk u D k):=by
      unfold ptk
      rw [List.getD_eq_getElem?_getD,List.getElem?_eq_getElem (by omega)]
      rfl
    show gis g (ptk u D) k ++ [(g (ptk u D k)).1]=_
    rw [gis_take g u D k (by omega),List.take_add_one,e]
    simp
theorem mutL_all (t u:P9) (D:Int):mutL t u D=(cutP D.toNat u).map (fun q=>(mutG t D q).1):=by
  unfold mutL
  rw [gis_take _ _ _ _ (by rw [cutP_len];exact Nat.le_refl _),List.take_of_length_le (by rw [cutP_len];exact Nat.le_refl _)]
theorem appS_run (w:World) (base:Nat) (v:Value) (k:Nat) (xs:List Value) (hown:w.ownsRow base 39 2 v k xs) (hbase:base<=w.heap.size) (hk:k<=1000) (lo hi:Int) :
    ∃ v' w',(Builtin.append_ #[34,34] 34 #[v,.slice (some ⟨w.heap.size,0,none⟩) 1 1]).run Tryz.prog (w.alloc (.cells #[.int .i64 lo,.int .i64 hi] 39))=.ok v' w'/\w'.ownsRow base 39 2 v' (k+1) (xs ++ [.int .i64 lo,.int .i64 hi])/\(w.alloc (.cells #[.int .i64 lo,.int .i64 hi] 39)).grownBy w' v.ownBlock:=by
  obtain ⟨i0,hi0,z1,z2,z3⟩:=info_parts infoSp8
  have hu:Tryz.prog.underlying 34=some (.slice 39):=Tryz.underlying34
  obtain ⟨v',w',h1,h2,h3,_⟩:=run_append_own (P:=Tryz.prog) (w.alloc (.cells #[.int .i64 lo,.int .i64 hi] 39)) base 34 34 39 i0 (.agg #[.int .i64 0,.int .i64 0]) 2 16 hu hi0 z1 z2 z3 rfl (by decide) v k xs (hown.alloc _) ⟨w.heap.size,0,none⟩ 1 1 [.int .i64 lo,.int .i64 hi] rfl (sp2_new w lo hi 39) (by intro u hu;simp at hu;rcases hu with rfl|rfl<;>rfl) (by unfold maxLen;omega) (by omega) (by simp;omega)
  exact ⟨v',w',h1,h2,h3⟩
theorem mu_step (N:Nat) (W w2:World) (v:Value) (k:Nat) (xs:List Value) (hv:Boxed W N 34 v) (hrow:W.ownsRow N 39 2 v k xs) (hN:N<=W.heap.size) (hk:k<=1000) (hb:Below W.heap.size W w2) (lo hi:Int) :
    ∃ g' cap' w3,(Builtin.append_ #[34,34] 34 #[v,.slice (some ⟨w2.heap.size,0,none⟩) 1 1]).run Tryz.prog (w2.alloc (.cells #[.int .i64 lo,.int .i64 hi] 39))=.ok (.slice (some ⟨g',0,none⟩) (k+1) cap') w3 /\
      w3.cell? ⟨N,0,none⟩=some v/\w3.frozen? ⟨N,0,none⟩=false/\Boxed (w3.setCell ⟨N,0,none⟩ (.slice (some ⟨g',0,none⟩) (k+1) cap')) N 34 (.slice (some ⟨g',0,none⟩) (k+1) cap') /\
      (w3.setCell ⟨N,0,none⟩ (.slice (some ⟨g',0,none⟩) (k+1) cap')).ownsRow N 39 2 (.slice (some ⟨g',0,none⟩) (k+1) cap') (k+1) (xs ++ [.int .i64 lo,.int .i64 hi]) /\
      KeepsOthers w2 (w3.setCell ⟨N,0,none⟩ (.slice (some ⟨g',0,none⟩) (k+1) cap'))/\Below N w2 (w3.setCell ⟨N,0,none⟩ (.slice (some ⟨g',0,none⟩) (k+1) cap')):=by
  have hv2:Boxed w2 N 34 v:=(hb.block _ hv.lt).trans hv
  have hr2:w2.ownsRow N 39 2 v k xs:=hrow.kept (below_grown9 hb) (by cases v.ownBlock<;>simp)
  have hs:=hb.size
  obtain ⟨v',w3,hrun,hown',hgrow⟩:=appS_run w2 N v k xs hr2 (by omega) hk lo hi
  obtain ⟨g',cap',rfl⟩:=ownsRow_succ hown'
  obtain ⟨hv3,hv4,hr4,hk4,hb4⟩:=hv2.appended (by decide) hr2 (by omega) (Nat.le_refl _) hown' hgrow
  exact ⟨g',cap',w3,hrun,hv3.cell,hv3.frozen,hv4,hr4,hk4,hb4⟩
def MuI (base L:Nat) (G:P9->Sp.R) (pre:List T5) (W:World):Prop:=∃ v,Boxed W L 34 v/\W.ownsRow base 39 2 v pre.length (svs (pre.map fun q=>(G q.1).1))/\True
theorem mui_own (base L B:Nat) (G:P9->Sp.R):OwnFrom B (MuI base L G):=by
  rintro pre W W' row h2 hg hr
  exact holdsRow_own (β:=Unit) base L 34 39 2 (fun _=>pre.length) (fun _=>svs (pre.map fun q:T5=>(G q.1).1)) (fun _ _=>True) () W W' row h2 hg (fun r e=>(hr r e).2)
theorem mu_facts {Ws W X:World} {N b:Nat} {v v0:Value} {sc rm:Int} (hv:Boxed W N 34 v) (S:SrB Ws b v0 sc rm) (hB:Below Ws.heap.size Ws W) (hb:Below W.heap.size W X):(X.cell? ⟨N,0,none⟩=some v/\N<X.heap.size)/\X.cell? ⟨b,0,none⟩=some v0/\X.cell? ⟨b,1,none⟩=some (.int .i64 sc)/\X.cell? ⟨b,2,none⟩=some (.int .i64 rm):=by
  have hv2:Boxed X N 34 v:=(hb.block _ hv.lt).trans hv
  have z:=srB_below (srB_below S hB) hb
  exact ⟨⟨hv2.cell,hv2.lt⟩,z.1.1,z.1.2.1,z.1.2.2⟩
theorem mu_end {N B:Nat} {w W w2 W4:World} {v':Value} {G:P9->Sp.R} {pre:List T5} {t:P9} {ht:BdT 512 t} {lo hi:Int} {a:Act}
    (hbW:Below W.heap.size W w2) (hB:Below N w W) (hN:N<=W.heap.size) (hlo:(G t).1=(lo,hi))
    (hv4:Boxed W4 N 34 v') (hr4:W4.ownsRow N 39 2 v' (pre.length+1) (svs (pre.map fun q=>(G q.1).1) ++ [.int .i64 lo,.int .i64 hi])) (hk4:KeepsOthers w2 W4) (hb4:Below N w2 W4) :
    ownPostG B (Below N) (fun pre W=>MuI N N G pre W/\Below N w W) (fun _ _ _=>False) (pre ++ [⟨t,ht⟩]) W .normal a W4 :=
  ⟨((KeepsOthers.of_grownBy (below_grown9 hbW) (fun j o e=>by cases e)).trans hk4).from _,(hbW.mono hN).trans hb4,⟨_,hv4,by
    rw [List.length_append,List.map_append]
    have e:svs (pre.map (fun q=>(G q.1).1) ++ [(G t).1])=svs (pre.map fun q=>(G q.1).1) ++ [.int .i64 lo,.int .i64 hi]:=by rw [← svs_snoc,hlo]
    show W4.ownsRow N 39 2 v' (pre.length+1) (svs (pre.map (fun q=>(G q.1).1) ++ [(G t).1]))
    rw [e];exact hr4,trivial⟩,(hB.trans (hbW.mono hN)).trans hb4⟩
set_option maxRecDepth 100000 in
set_option maxHeartbeats 8000000 in
theorem mut_in (n:Nat) (hn:3<=n) (t u:P9) (D sc rm:Int) (G:P9->Sp.R) (res:Sp.R) (w:World) (d0:0<=D) (d3:D<=3) (hU:BdT 64 u) (C1:Hid (∀ W,Calls Tryz.prog 104 #[p9v t,p9v u,.int .i64 D] W fun e w'=>e=.returned (.int .i64 0)/\Below W.heap.size W w')) (C2:Hid (∀ W,Calls Tryz.prog 105 #[p9v t,.int .i64 D] W fun e w'=>∃ q cp gs,e=.returned (.tuple #[.agg #[.slice (some ⟨q,0,none⟩) gs.length cp,.int .i64 sc,.int .i64 rm],.int .i64 0])/\gs.map Prod.snd=cutP D.toNat t/\RowGs w' q gs.length gs/\Below W.heap.size W w'))
    (SEE:Hid (∀ W (q cp g:Nat) (gs:List (Nat × P9)) (x:P9),BdT 512 x->gs.map Prod.snd=cutP D.toNat t->RowGs W q gs.length gs->PtB W g x->Calls Tryz.prog 106 #[.agg #[.slice (some ⟨q,0,none⟩) gs.length cp,.int .i64 sc,.int .i64 rm],grv g 3 3 (loN (P3F x) 3) (hiN (P3F x) 3)] W fun e w'=>e=.returned (.agg #[.int .i64 (G x).1.1,.int .i64 (G x).1.2])/\Below W.heap.size W w'))
    (M1:Hid (∀ W base v,W.ownsRow base 39 2 v (cutP D.toNat u).length (svs ((cutP D.toNat u).map fun q=>(G q).1))->Calls Tryz.prog 117 #[v] W fun e w'=>e=.returned (spr res)/\Below W.heap.size W w')) :
    CallsIn Fence.wide n Tryz.prog 62 #[p9v t,p9v u,.int .i64 D] w fun e W'=>e=.returned (spr res)/\Below w.heap.size w W':=by
  have h1:1<=n:=by omega
  have hd:D.toNat=0∨D.toNat=1∨D.toNat=2∨D.toNat=3:=by omega
  obtain ⟨a,b,c⟩:=t
  obtain ⟨x,y,z⟩:=u
  have C1':=hid (fun (m:Nat) (W:World)=>(callsIn_wide (n:=m)).2 (C1.out W))
  have C2':=hid (fun (m:Nat) (W:World)=>(callsIn_wide (n:=m)).2 (C2.out W))
  have PTC:=hid (fun (m:Nat) (W:World)=>(callsIn_wide (n:=m)).2 (parts_any (x,y,z) D W))
  have T0:=hid (twp_new w a b c x y z)
  obtain ⟨k0,k1,k2,k3,k4,k5,k6,k7,k8,u0,u1,u2,u3,u4,u5,u6,u7,u8⟩:=twp_cells T0.out
  refine callsIn_of_wp_marks Tryz.func62 rfl trivial ?_ rfl
  simp only [Tryz.ntmps62,List.size_toArray,List.length_cons,List.length_nil,Nat.reduceAdd,Nat.reduceSub,Array.replicate_succ,Array.replicate_zero,List.push_toArray,List.append_toArray,List.nil_append,List.cons_append]
  gi_wp2_with fail
  refine ⟨trivial,?_⟩
  gi_at_call 104
  refine (C1'.out _ _).mono ?_
  rintro e w1 ⟨rfl,hb1⟩
  clear k0 k1 k2 k3 k4 k5 k6 k7 k8 u0 u1 u2 u3 u4 u5 u6 u7 u8
  have T1:=hid (twp_below T0.out hb1)
  obtain ⟨k0,k1,k2,k3,k4,k5,k6,k7,k8,u0,u1,u2,u3,u4,u5,u6,u7,u8⟩:=twp_cells T1.out
  gi_wp2_with fail
  refine ⟨trivial,?_⟩
  gi_at_call 105
  refine (C2'.out _ _).mono ?_
  rintro e w2' ⟨q,cp,gs,rfl,hgs,hr2,hb2⟩
  clear k0 k1 k2 k3 k4 k5 k6 k7 k8 u0 u1 u2 u3 u4 u5 u6 u7 u8 T0 hb1
  have T2:=hid (twp_below T1.out hb2)
  have T3:=hid (twp_below T2.out ((Below.refl _ _).alloc (Nat.le_refl _) (.cells #[.slice (some ⟨q,0,none⟩) gs.length cp,.int .i64 sc,.int .i64 rm] 133)))
  have T4:=hid (twp_below T3.out ((Below.refl _ _).alloc (Nat.le_refl _) (.cells #[.slice none 0 0] 34)))
  have S3:=hid (srB_new w2' (.slice (some ⟨q,0,none⟩) gs.length cp) sc rm 133)
  have G3:=hid (rowgs_in hr2 ((Below.refl _ _).alloc (Nat.le_refl _) (.cells #[.slice (some ⟨q,0,none⟩) gs.length cp,.int .i64 sc,.int .i64 rm] 133)))
  obtain ⟨k0,k1,k2,k3,k4,k5,k6,k7,k8,u0,u1,u2,u3,u4,u5,u6,u7,u8⟩:=twp_cells T4.out
  gi_wp2_with fail
  refine ⟨trivial,?_⟩
  gi_at_call 116
  refine (PTC.out _ _).mono ?_
  rintro e W2 ⟨rfl,rfl⟩
  clear k0 k1 k2 k3 k4 k5 k6 k7 k8 u0 u1 u2 u3 u4 u5 u6 u7 u8
  gi_wp2_with fail
  obtain ⟨Ws,hWs⟩:∃ Ws,w2'.alloc (.cells #[.slice (some ⟨q,0,none⟩) gs.length cp,.int .i64 sc,.int .i64 rm] 133)=Ws:=⟨_,rfl⟩
  have sS:Ws.heap.size=w2'.heap.size+1:=by rw [← hWs];simp
  rw [hWs] at T3 S3 G3
  obtain ⟨W0,hW0⟩:∃ W0,Ws.alloc (.cells #[.slice none 0 0] 34)=W0:=⟨_,rfl⟩
  have s0:W0.heap.size=w2'.heap.size+1+1:=by rw [← hW0];simp [sS]
  have B0:Below (w2'.heap.size+1) Ws W0:=by rw [← hW0];exact (Below.refl _ Ws).alloc (by omega) _
  have bO:Boxed W0 (w2'.heap.size+1) 34 (.slice none 0 0):=by
    rw [← hW0]
    have:=Boxed.new Ws 34 (.slice none 0 0)
    rwa [sS] at this
  have P1:=pan_alloc (pan_new W0 x y z 77) (.cells #[.int .i64 D] 3)
  have c1:((W0.alloc (pnc x y z 77)).alloc (.cells #[.int .i64 D] 3)).cell? ⟨w2'.heap.size+1+1+1,0,none⟩=some (.int .i64 D):=by rw [← s0];go_simp
  have bO1:=(bO.alloc (pnc x y z 77)).alloc (.cells #[.int .i64 D] 3)
  have B1:Below (w2'.heap.size+1) Ws ((W0.alloc (pnc x y z 77)).alloc (.cells #[.int .i64 D] 3)):=(B0.alloc (by omega) _).alloc (by simp;omega) _
  have s1:((W0.alloc (pnc x y z 77)).alloc (.cells #[.int .i64 D] 3)).heap.size=w2'.heap.size+1+1+1+1:=by simp [s0]
  rw [hWs,hW0]
  rw [s0] at P1
  generalize (W0.alloc (pnc x y z 77)).alloc (.cells #[.int .i64 D] 3)=W1 at *
  clear hW0 bO B0 T1 T2 T4 hWs
  have hseq:=parts_stopsM (n - 1) D.toNat D 64 (x,y,z) (w2'.heap.size+1) (w2'.heap.size+1+1) (w2'.heap.size+1+1+1) W1 (by omega) (by omega) hU (by rcases hd with e|e|e|e<;>rw [e]<;>decide) (by omega) P1 c1 (by omega)
  refine wpIn_rangeFunc_ownH rfl h1 (gf:=171) (lb:=#[.pointer (some ⟨w2'.heap.size+1+1,0,none⟩),.pointer (some ⟨w2'.heap.size+1+1+1,0,none⟩)]) rfl trivial (enters_of Tryz.func171 (by kernel_rfl) rfl) hseq belowK_t (belowK_b (by omega)) (Below.refl _ W1) (fun _=>rfl)
    (fun pre W=>MuI (w2'.heap.size+1) (w2'.heap.size+1) G pre W/\Below (w2'.heap.size+1) Ws W)
    (fun _ _ _=>False)
    (OwnFrom.and (mui_own _ _ _ _) (ownFrom_below (by omega) (by omega)))
    (fun _ _ _ _ _ hs _ _=>hs)
    ⟨⟨_,bO1,World.ownsRow_nil _ _ _ _,trivial⟩,B1⟩
    (fun xx a' W=>∃ Bx,w2'.heap.size+1<Bx/\BxP W Bx xx.1/\a'={ tmps:=#[pnv a b c,pnv x y z,.int .i64 D,.pointer (some ⟨w.heap.size,0,none⟩),.pointer (some ⟨w.heap.size+1,0,none⟩),undef,.pointer (some ⟨w.heap.size+1+1,0,none⟩),.int .i64 0,.int .i64 0,.pointer (some ⟨w2'.heap.size,0,none⟩),.int .i64 0,.pointer (some ⟨w2'.heap.size+1,0,none⟩),.pointer (some ⟨Bx,0,none⟩),pnv a b c,pnv x y z,.int .i64 D,.int .i64 0,.int .i64 0,.bool false,undef,undef,.tuple #[.agg #[.slice (some ⟨q,0,none⟩) gs.length cp,.int .i64 sc,.int .i64 rm],.int .i64 0],pnv a b c,.int .i64 D,.tuple #[.agg #[.slice (some ⟨q,0,none⟩) gs.length cp,.int .i64 sc,.int .i64 rm],.int .i64 0],.agg #[.slice (some ⟨q,0,none⟩) gs.length cp,.int .i64 sc,.int .i64 rm],.int .i64 0,.int .i64 0,.bool false,undef,undef,pnv x y z,.int .i64 D,.func (.func 171) #[] #[.pointer (some ⟨w2'.heap.size+1+1,0,none⟩),.pointer (some ⟨w2'.heap.size+1+1+1,0,none⟩)],p9v xx.1,undef,undef,undef,undef,undef,undef,undef,undef,undef,undef,undef],defers:=[] })
    (fun xx a'=>by
      rintro _ X Y row ⟨Bx,hx,hb,rfl⟩ hg hr
      exact ⟨Bx,hx,bxp_own Bx xx.1 () X Y row hb hg (fun r e=>(hr r e).2),rfl⟩) ?assign ?body ?done ?stop
  case assign =>
    rintro l pre xx W K ⟨hG,hB⟩ hK
    have hL:w2'.heap.size+1<W.heap.size:=by obtain ⟨_,h,_⟩:=hG;exact h.lt
    gi_wp2
    exact hK _ _ ((KeepsOthers.alloc _ _).from _) ((Below.refl _ W).alloc (by omega) _) ⟨(mui_own _ _ 0 _).alloc _ hG,hB.alloc (by omega) _⟩ ⟨W.heap.size,hL,World.alloc_heap_new W _,rfl⟩
  case body =>
    rintro l pre xx a' W hl ⟨r,hr⟩ ⟨⟨v,hv,hrow,_⟩,hB⟩ ⟨Bx,hBx,hX,rfl⟩ hlt
    obtain ⟨⟨xa,xb,xc⟩,hx5⟩:=xx
    have x0:Pan W Bx xa xb xc:=by
      have hX':W.heap[Bx]?=_:=hX
      refine ⟨?_,?_,?_,?_,?_,?_,?_,?_,?_,(Array.getElem?_eq_some_iff.1 hX').1⟩<;>simp [World.cell?,hX']
    obtain ⟨c0,c1,c2,c3,c4,c5,c6,c7,c8,cl⟩:=x0
    have CC:=hid (fun (m:Nat) (W:World)=>(callsIn_wide (n:=m)).2 (corners_any xa xb xc 1 W (by rw [tim_one];exact hx5.1.mono (by decide)) (by rw [tim_one];exact hx5.2.1.mono (by decide)) (by rw [tim_one];exact hx5.2.2.mono (by decide))))
    simp only [tim_one] at CC
    have hNW:w2'.heap.size+1<=W.heap.size:=by have:=hB.size;omega
    have hBs:Below Ws.heap.size Ws W:=by rw [sS];exact hB
    have AF:=hid (fun (X:World) (hb:Below W.heap.size W X)=>mu_facts hv S3.out hBs hb)
    have SC:=hid (fun (m:Nat) (X:World) (g:Nat) (hb:Below W.heap.size W X) (hp:PtB X g (xa,xb,xc))=>(callsIn_wide (n:=m)).2 (SEE.out X q cp g gs (xa,xb,xc) hx5 hgs (rowgs_in G3.out (hBs.trans (hb.mono (by omega)))) hp))
    obtain ⟨⟨⟨vl,vh⟩,vc⟩,hG'⟩:∃ gr,G (xa,xb,xc)=gr:=⟨_,rfl⟩
    have hG:(G (xa,xb,xc)).1=(vl,vh):=by rw [hG']
    rw [hG'] at SC
    have hk9:pre.length<=1000:=by
      have e2:pre.length<4 ^ 3:=Nat.lt_of_lt_of_le hlt (Nat.pow_le_pow_right (by decide) (by omega))
      have e3:(4:Nat) ^ 3=64:=rfl
      omega
    have ST:=hid (fun (X:World) (hb:Below W.heap.size W X)=>mu_step (w2'.heap.size+1) W X v pre.length _ hv hrow hNW hk9 hb vl vh)
    obtain ⟨⟨e0,e1⟩,e2,e3,e4⟩:=AF.out W.drew (Below.drew (Below.refl _ _))
    clear SEE M1 hG' C1 C2 C1' C2' PTC hseq
    generalize hlo:loN (P3F (xa,xb,xc)) 3=lo at *
    generalize hhi:hiN (P3F (xa,xb,xc)) 3=hi' at *
    gi_wp2_with fail
    refine wpIn_region_any (by kernel_rfl) ?_
    change wpAnyIn _ _ _ _ _ _ _ _ _ (World.drew _)
    refine wpAnyIn_ready (rs:=[0,1,2]) (by kernel_rfl) (by simp) ?_
    refine AllReadyIn.cons rfl (fun K hK=>?_) ?_
    · go_simp
      refine hK _ _ ?_;clear hK K
      refine wpAnyIn_ready (rs:=[1,2]) (by kernel_rfl) (by simp) ?_
      refine AllReadyIn.cons rfl (fun K hK=>?_) ?_
      · go_simp
        refine hK _ _ ?_;clear hK K
        refine wpAnyIn_ready (rs:=[2]) (by kernel_rfl) (by simp) ?_
        refine AllReadyIn.cons rfl (fun K hK=>?_) AllReadyIn.nil
        go_simp
        refine hK _ _ ?_;clear hK K
        refine wpAnyIn_ready (rs:=[3]) (by kernel_rfl) (by simp) ?_
        refine AllReadyIn.cons rfl (fun K hK=>?_) AllReadyIn.nil
        go_simp
        refine ⟨trivial,fun h=>(by cases (show false=true from h)),?_⟩;gi_at_call 107;refine ((CC.out _ _).inRound l).mono ?_;rintro e w2 ⟨g,rfl,hg,hpb,hb2⟩;have hbA:=Below.trans (Below.drew (Below.refl W.heap.size W)) hb2;obtain ⟨⟨a0,a1⟩,a2,a3,a4⟩:=AF.out w2 hbA;dsimp only
        refine hK _ _ ?_;clear hK K
        refine wpAnyIn_ready (rs:=[4]) (by kernel_rfl) (by simp) ?_
        refine AllReadyIn.cons rfl (fun K hK=>?_) AllReadyIn.nil
        go_simp
        refine ⟨trivial,fun h=>(by cases (show false=true from h)),?_⟩;gi_at_call 106;refine ((SC.out _ w2 g hbA hpb).inRound l).mono ?_;rintro e w3 ⟨rfl,hb3⟩;have hbC:=bstep hbA hb3;obtain ⟨⟨d0,d1⟩,d2,d3',d4⟩:=AF.out w3 hbC;obtain ⟨g',cap',w4,hrun,hc4,hf4,hv4,hr4,hk4,hb4⟩:=ST.out w3 hbC;have ne3:¬ (w3.heap.size=w2'.heap.size+1):=(by omega);dsimp only
        refine hK _ _ ?_;clear hK K
        refine wpAnyIn_ready (rs:=[5]) (by kernel_rfl) (by simp) ?_
        refine AllReadyIn.cons rfl (fun K hK=>?_) AllReadyIn.nil
        go_simp
        refine hK _ _ ?_;clear hK K
        refine wpAnyIn_ready (rs:=[6]) (by kernel_rfl) (by simp) ?_
        refine AllReadyIn.cons rfl (fun K hK=>?_) AllReadyIn.nil
        refine stepG rfl (.tmp 35) (.tmp 40) 34 rfl v (.slice (some ⟨w3.heap.size,0,none⟩) 1 1) (.slice (some ⟨g',0,none⟩) (pre.length+1) cap') w4 rfl rfl hrun ?_
        refine hK _ _ ?_;clear hK K
        refine wpAnyIn_ready (rs:=[7]) (by kernel_rfl) (by simp) ?_
        refine AllReadyIn.cons rfl (fun K hK=>?_) AllReadyIn.nil
        go_simp
        refine hK _ _ ?_;clear hK K
        refine wpAnyIn_done (by kernel_rfl) ?_ _
        exact mu_end (a:=⟨#[],[]⟩) hbC hB hNW hG hv4 hr4 hk4 hb4
      refine AllReadyIn.cons rfl (fun K hK=>?_) AllReadyIn.nil
      go_simp
      refine hK _ _ ?_;clear hK K
      refine wpAnyIn_ready (rs:=[1,3]) (by kernel_rfl) (by simp) ?_
      refine AllReadyIn.cons rfl (fun K hK=>?_) ?_
      · go_simp
        refine hK _ _ ?_;clear hK K
        refine wpAnyIn_ready (rs:=[3]) (by kernel_rfl) (by simp) ?_
        refine AllReadyIn.cons rfl (fun K hK=>?_) AllReadyIn.nil
        go_simp
        refine ⟨trivial,fun h=>(by cases (show false=true from h)),?_⟩;gi_at_call 107;refine ((CC.out _ _).inRound l).mono ?_;rintro e w2 ⟨g,rfl,hg,hpb,hb2⟩;have hbA:=Below.trans (Below.drew (Below.refl W.heap.size W)) hb2;obtain ⟨⟨a0,a1⟩,a2,a3,a4⟩:=AF.out w2 hbA;dsimp only
        refine hK _ _ ?_;clear hK K
        refine wpAnyIn_ready (rs:=[4]) (by kernel_rfl) (by simp) ?_
        refine AllReadyIn.cons rfl (fun K hK=>?_) AllReadyIn.nil
        go_simp
        refine ⟨trivial,fun h=>(by cases (show false=true from h)),?_⟩;gi_at_call 106;refine ((SC.out _ w2 g hbA hpb).inRound l).mono ?_;rintro e w3 ⟨rfl,hb3⟩;have hbC:=bstep hbA hb3;obtain ⟨⟨d0,d1⟩,d2,d3',d4⟩:=AF.out w3 hbC;obtain ⟨g',cap',w4,hrun,hc4,hf4,hv4,hr4,hk4,hb4⟩:=ST.out w3 hbC;have ne3:¬ (w3.heap.size=w2'.heap.size+1):=(by omega);dsimp only
        refine hK _ _ ?_;clear hK K
        refine wpAnyIn_ready (rs:=[5]) (by kernel_rfl) (by simp) ?_
        refine AllReadyIn.cons rfl (fun K hK=>?_) AllReadyIn.nil
        go_simp
        refine hK _ _ ?_;clear hK K
        refine wpAnyIn_ready (rs:=[6]) (by kernel_rfl) (by simp) ?_
        refine AllReadyIn.cons rfl (fun K hK=>?_) AllReadyIn.nil
        refine stepG rfl (.tmp 35) (.tmp 40) 34 rfl v (.slice (some ⟨w3.heap.size,0,none⟩) 1 1) (.slice (some ⟨g',0,none⟩) (pre.length+1) cap') w4 rfl rfl hrun ?_
        refine hK _ _ ?_;clear hK K
        refine wpAnyIn_ready (rs:=[7]) (by kernel_rfl) (by simp) ?_
        refine AllReadyIn.cons rfl (fun K hK=>?_) AllReadyIn.nil
        go_simp
        refine hK _ _ ?_;clear hK K
        refine wpAnyIn_done (by kernel_rfl) ?_ _
        exact mu_end (a:=⟨#[],[]⟩) hbC hB hNW hG hv4 hr4 hk4 hb4
      refine AllReadyIn.cons rfl (fun K hK=>?_) AllReadyIn.nil
      go_simp
      refine ⟨trivial,fun h=>(by cases (show false=true from h)),?_⟩;gi_at_call 107;refine ((CC.out _ _).inRound l).mono ?_;rintro e w2 ⟨g,rfl,hg,hpb,hb2⟩;have hbA:=Below.trans (Below.drew (Below.refl W.heap.size W)) hb2;obtain ⟨⟨a0,a1⟩,a2,a3,a4⟩:=AF.out w2 hbA;dsimp only
      refine hK _ _ ?_;clear hK K
      refine wpAnyIn_ready (rs:=[1]) (by kernel_rfl) (by simp) ?_
      refine AllReadyIn.cons rfl (fun K hK=>?_) AllReadyIn.nil
      go_simp
      refine hK _ _ ?_;clear hK K
      refine wpAnyIn_ready (rs:=[4]) (by kernel_rfl) (by simp) ?_
      refine AllReadyIn.cons rfl (fun K hK=>?_) AllReadyIn.nil
      go_simp
      refine ⟨trivial,fun h=>(by cases (show false=true from h)),?_⟩;gi_at_call 106;refine ((SC.out _ w2 g hbA hpb).inRound l).mono ?_;rintro e w3 ⟨rfl,hb3⟩;have hbC:=bstep hbA hb3;obtain ⟨⟨d0,d1⟩,d2,d3',d4⟩:=AF.out w3 hbC;obtain ⟨g',cap',w4,hrun,hc4,hf4,hv4,hr4,hk4,hb4⟩:=ST.out w3 hbC;have ne3:¬ (w3.heap.size=w2'.heap.size+1):=(by omega);dsimp only
      refine hK _ _ ?_;clear hK K
      refine wpAnyIn_ready (rs:=[5]) (by kernel_rfl) (by simp) ?_
      refine AllReadyIn.cons rfl (fun K hK=>?_) AllReadyIn.nil
      go_simp
      refine hK _ _ ?_;clear hK K
      refine wpAnyIn_ready (rs:=[6]) (by kernel_rfl) (by simp) ?_
      refine AllReadyIn.cons rfl (fun K hK=>?_) AllReadyIn.nil
      refine stepG rfl (.tmp 35) (.tmp 40) 34 rfl v (.slice (some ⟨w3.heap.size,0,none⟩) 1 1) (.slice (some ⟨g',0,none⟩) (pre.length+1) cap') w4 rfl rfl hrun ?_
      refine hK _ _ ?_;clear hK K
      refine wpAnyIn_ready (rs:=[7]) (by kernel_rfl) (by simp) ?_
      refine AllReadyIn.cons rfl (fun K hK=>?_) AllReadyIn.nil
      go_simp
      refine hK _ _ ?_;clear hK K
      refine wpAnyIn_done (by kernel_rfl) ?_ _
      exact mu_end (a:=⟨#[],[]⟩) hbC hB hNW hG hv4 hr4 hk4 hb4
    refine AllReadyIn.cons rfl (fun K hK=>?_) ?_
    · go_simp
      refine hK _ _ ?_;clear hK K
      refine wpAnyIn_ready (rs:=[0,2]) (by kernel_rfl) (by simp) ?_
      refine AllReadyIn.cons rfl (fun K hK=>?_) ?_
      · go_simp
        refine hK _ _ ?_;clear hK K
        refine wpAnyIn_ready (rs:=[2]) (by kernel_rfl) (by simp) ?_
        refine AllReadyIn.cons rfl (fun K hK=>?_) AllReadyIn.nil
        go_simp
        refine hK _ _ ?_;clear hK K
        refine wpAnyIn_ready (rs:=[3]) (by kernel_rfl) (by simp) ?_
        refine AllReadyIn.cons rfl (fun K hK=>?_) AllReadyIn.nil
        go_simp
        refine ⟨trivial,fun h=>(by cases (show false=true from h)),?_⟩;gi_at_call 107;refine ((CC.out _ _).inRound l).mono ?_;rintro e w2 ⟨g,rfl,hg,hpb,hb2⟩;have hbA:=Below.trans (Below.drew (Below.refl W.heap.size W)) hb2;obtain ⟨⟨a0,a1⟩,a2,a3,a4⟩:=AF.out w2 hbA;dsimp only
        refine hK _ _ ?_;clear hK K
        refine wpAnyIn_ready (rs:=[4]) (by kernel_rfl) (by simp) ?_
        refine AllReadyIn.cons rfl (fun K hK=>?_) AllReadyIn.nil
        go_simp
        refine ⟨trivial,fun h=>(by cases (show false=true from h)),?_⟩;gi_at_call 106;refine ((SC.out _ w2 g hbA hpb).inRound l).mono ?_;rintro e w3 ⟨rfl,hb3⟩;have hbC:=bstep hbA hb3;obtain ⟨⟨d0,d1⟩,d2,d3',d4⟩:=AF.out w3 hbC;obtain ⟨g',cap',w4,hrun,hc4,hf4,hv4,hr4,hk4,hb4⟩:=ST.out w3 hbC;have ne3:¬ (w3.heap.size=w2'.heap.size+1):=(by omega);dsimp only
        refine hK _ _ ?_;clear hK K
        refine wpAnyIn_ready (rs:=[5]) (by kernel_rfl) (by simp) ?_
        refine AllReadyIn.cons rfl (fun K hK=>?_) AllReadyIn.nil
        go_simp
        refine hK _ _ ?_;clear hK K
        refine wpAnyIn_ready (rs:=[6]) (by kernel_rfl) (by simp) ?_
        refine AllReadyIn.cons rfl (fun K hK=>?_) AllReadyIn.nil
        refine stepG rfl (.tmp 35) (.tmp 40) 34 rfl v (.slice (some ⟨w3.heap.size,0,none⟩) 1 1) (.slice (some ⟨g',0,none⟩) (pre.length+1) cap') w4 rfl rfl hrun ?_
        refine hK _ _ ?_;clear hK K
        refine wpAnyIn_ready (rs:=[7]) (by kernel_rfl) (by simp) ?_
        refine AllReadyIn.cons rfl (fun K hK=>?_) AllReadyIn.nil
        go_simp
        refine hK _ _ ?_;clear hK K
        refine wpAnyIn_done (by kernel_rfl) ?_ _
        exact mu_end (a:=⟨#[],[]⟩) hbC hB hNW hG hv4 hr4 hk4 hb4
      refine AllReadyIn.cons rfl (fun K hK=>?_) AllReadyIn.nil
      go_simp
      refine hK _ _ ?_;clear hK K
      refine wpAnyIn_ready (rs:=[0,3]) (by kernel_rfl) (by simp) ?_
      refine AllReadyIn.cons rfl (fun K hK=>?_) ?_
      · go_simp
        refine hK _ _ ?_;clear hK K
        refine wpAnyIn_ready (rs:=[3]) (by kernel_rfl) (by simp) ?_
        refine AllReadyIn.cons rfl (fun K hK=>?_) AllReadyIn.nil
        go_simp
        refine ⟨trivial,fun h=>(by cases (show false=true from h)),?_⟩;gi_at_call 107;refine ((CC.out _ _).inRound l).mono ?_;rintro e w2 ⟨g,rfl,hg,hpb,hb2⟩;have hbA:=Below.trans (Below.drew (Below.refl W.heap.size W)) hb2;obtain ⟨⟨a0,a1⟩,a2,a3,a4⟩:=AF.out w2 hbA;dsimp only
        refine hK _ _ ?_;clear hK K
        refine wpAnyIn_ready (rs:=[4]) (by kernel_rfl) (by simp) ?_
        refine AllReadyIn.cons rfl (fun K hK=>?_) AllReadyIn.nil
        go_simp
        refine ⟨trivial,fun h=>(by cases (show false=true from h)),?_⟩;gi_at_call 106;refine ((SC.out _ w2 g hbA hpb).inRound l).mono ?_;rintro e w3 ⟨rfl,hb3⟩;have hbC:=bstep hbA hb3;obtain ⟨⟨d0,d1⟩,d2,d3',d4⟩:=AF.out w3 hbC;obtain ⟨g',cap',w4,hrun,hc4,hf4,hv4,hr4,hk4,hb4⟩:=ST.out w3 hbC;have ne3:¬ (w3.heap.size=w2'.heap.size+1):=(by omega);dsimp only
        refine hK _ _ ?_;clear hK K
        refine wpAnyIn_ready (rs:=[5]) (by kernel_rfl) (by simp) ?_
        refine AllReadyIn.cons rfl (fun K hK=>?_) AllReadyIn.nil
        go_simp
        refine hK _ _ ?_;clear hK K
        refine wpAnyIn_ready (rs:=[6]) (by kernel_rfl) (by simp) ?_
        refine AllReadyIn.cons rfl (fun K hK=>?_) AllReadyIn.nil
        refine stepG rfl (.tmp 35) (.tmp 40) 34 rfl v (.slice (some ⟨w3.heap.size,0,none⟩) 1 1) (.slice (some ⟨g',0,none⟩) (pre.length+1) cap') w4 rfl rfl hrun ?_
        refine hK _ _ ?_;clear hK K
        refine wpAnyIn_ready (rs:=[7]) (by kernel_rfl) (by simp) ?_
        refine AllReadyIn.cons rfl (fun K hK=>?_) AllReadyIn.nil
        go_simp
        refine hK _ _ ?_;clear hK K
        refine wpAnyIn_done (by kernel_rfl) ?_ _
        exact mu_end (a:=⟨#[],[]⟩) hbC hB hNW hG hv4 hr4 hk4 hb4
      refine AllReadyIn.cons rfl (fun K hK=>?_) AllReadyIn.nil
      go_simp
      refine ⟨trivial,fun h=>(by cases (show false=true from h)),?_⟩;gi_at_call 107;refine ((CC.out _ _).inRound l).mono ?_;rintro e w2 ⟨g,rfl,hg,hpb,hb2⟩;have hbA:=Below.trans (Below.drew (Below.refl W.heap.size W)) hb2;obtain ⟨⟨a0,a1⟩,a2,a3,a4⟩:=AF.out w2 hbA;dsimp only
      refine hK _ _ ?_;clear hK K
      refine wpAnyIn_ready (rs:=[0,4]) (by kernel_rfl) (by simp) ?_
      refine AllReadyIn.cons rfl (fun K hK=>?_) ?_
      · go_simp
        refine hK _ _ ?_;clear hK K
        refine wpAnyIn_ready (rs:=[4]) (by kernel_rfl) (by simp) ?_
        refine AllReadyIn.cons rfl (fun K hK=>?_) AllReadyIn.nil
        go_simp
        refine ⟨trivial,fun h=>(by cases (show false=true from h)),?_⟩;gi_at_call 106;refine ((SC.out _ w2 g hbA hpb).inRound l).mono ?_;rintro e w3 ⟨rfl,hb3⟩;have hbC:=bstep hbA hb3;obtain ⟨⟨d0,d1⟩,d2,d3',d4⟩:=AF.out w3 hbC;obtain ⟨g',cap',w4,hrun,hc4,hf4,hv4,hr4,hk4,hb4⟩:=ST.out w3 hbC;have ne3:¬ (w3.heap.size=w2'.heap.size+1):=(by omega);dsimp only
        refine hK _ _ ?_;clear hK K
        refine wpAnyIn_ready (rs:=[5]) (by kernel_rfl) (by simp) ?_
        refine AllReadyIn.cons rfl (fun K hK=>?_) AllReadyIn.nil
        go_simp
        refine hK _ _ ?_;clear hK K
        refine wpAnyIn_ready (rs:=[6]) (by kernel_rfl) (by simp) ?_
        refine AllReadyIn.cons rfl (fun K hK=>?_) AllReadyIn.nil
        refine stepG rfl (.tmp 35) (.tmp 40) 34 rfl v (.slice (some ⟨w3.heap.size,0,none⟩) 1 1) (.slice (some ⟨g',0,none⟩) (pre.length+1) cap') w4 rfl rfl hrun ?_
        refine hK _ _ ?_;clear hK K
        refine wpAnyIn_ready (rs:=[7]) (by kernel_rfl) (by simp) ?_
        refine AllReadyIn.cons rfl (fun K hK=>?_) AllReadyIn.nil
        go_simp
        refine hK _ _ ?_;clear hK K
        refine wpAnyIn_done (by kernel_rfl) ?_ _
        exact mu_end (a:=⟨#[],[]⟩) hbC hB hNW hG hv4 hr4 hk4 hb4
      refine AllReadyIn.cons rfl (fun K hK=>?_) AllReadyIn.nil
      go_simp
      refine ⟨trivial,fun h=>(by cases (show false=true from h)),?_⟩;gi_at_call 106;refine ((SC.out _ w2 g hbA hpb).inRound l).mono ?_;rintro e w3 ⟨rfl,hb3⟩;have hbC:=bstep hbA hb3;obtain ⟨⟨d0,d1⟩,d2,d3',d4⟩:=AF.out w3 hbC;obtain ⟨g',cap',w4,hrun,hc4,hf4,hv4,hr4,hk4,hb4⟩:=ST.out w3 hbC;have ne3:¬ (w3.heap.size=w2'.heap.size+1):=(by omega);dsimp only
      refine hK _ _ ?_;clear hK K
      refine wpAnyIn_ready (rs:=[0,5]) (by kernel_rfl) (by simp) ?_
      refine AllReadyIn.cons rfl (fun K hK=>?_) ?_
      · go_simp
        refine hK _ _ ?_;clear hK K
        refine wpAnyIn_ready (rs:=[5]) (by kernel_rfl) (by simp) ?_
        refine AllReadyIn.cons rfl (fun K hK=>?_) AllReadyIn.nil
        go_simp
        refine hK _ _ ?_;clear hK K
        refine wpAnyIn_ready (rs:=[6]) (by kernel_rfl) (by simp) ?_
        refine AllReadyIn.cons rfl (fun K hK=>?_) AllReadyIn.nil
        refine stepG rfl (.tmp 35) (.tmp 40) 34 rfl v (.slice (some ⟨w3.heap.size,0,none⟩) 1 1) (.slice (some ⟨g',0,none⟩) (pre.length+1) cap') w4 rfl rfl hrun ?_
        refine hK _ _ ?_;clear hK K
        refine wpAnyIn_ready (rs:=[7]) (by kernel_rfl) (by simp) ?_
        refine AllReadyIn.cons rfl (fun K hK=>?_) AllReadyIn.nil
        go_simp
        refine hK _ _ ?_;clear hK K
        refine wpAnyIn_done (by kernel_rfl) ?_ _
        exact mu_end (a:=⟨#[],[]⟩) hbC hB hNW hG hv4 hr4 hk4 hb4
      refine AllReadyIn.cons rfl (fun K hK=>?_) AllReadyIn.nil
      go_simp
      refine hK _ _ ?_;clear hK K
      refine wpAnyIn_ready (rs:=[0]) (by kernel_rfl) (by simp) ?_
      refine AllReadyIn.cons rfl (fun K hK=>?_) AllReadyIn.nil
      go_simp
      refine hK _ _ ?_;clear hK K
      refine wpAnyIn_ready (rs:=[6]) (by kernel_rfl) (by simp) ?_
      refine AllReadyIn.cons rfl (fun K hK=>?_) AllReadyIn.nil
      refine stepG rfl (.tmp 35) (.tmp 40) 34 rfl v (.slice (some ⟨w3.heap.size,0,none⟩) 1 1) (.slice (some ⟨g',0,none⟩) (pre.length+1) cap') w4 rfl rfl hrun ?_
      refine hK _ _ ?_;clear hK K
      refine wpAnyIn_ready (rs:=[7]) (by kernel_rfl) (by simp) ?_
      refine AllReadyIn.cons rfl (fun K hK=>?_) AllReadyIn.nil
      go_simp
      refine hK _ _ ?_;clear hK K
      refine wpAnyIn_done (by kernel_rfl) ?_ _
      exact mu_end (a:=⟨#[],[]⟩) hbC hB hNW hG hv4 hr4 hk4 hb4
    refine AllReadyIn.cons rfl (fun K hK=>?_) AllReadyIn.nil
    go_simp
    refine hK _ _ ?_;clear hK K
    refine wpAnyIn_ready (rs:=[0,1,3]) (by kernel_rfl) (by simp) ?_
    refine AllReadyIn.cons rfl (fun K hK=>?_) ?_
    · go_simp
      refine hK _ _ ?_;clear hK K
      refine wpAnyIn_ready (rs:=[1,3]) (by kernel_rfl) (by simp) ?_
      refine AllReadyIn.cons rfl (fun K hK=>?_) ?_
      · go_simp
        refine hK _ _ ?_;clear hK K
        refine wpAnyIn_ready (rs:=[3]) (by kernel_rfl) (by simp) ?_
        refine AllReadyIn.cons rfl (fun K hK=>?_) AllReadyIn.nil
        go_simp
        refine ⟨trivial,fun h=>(by cases (show false=true from h)),?_⟩;gi_at_call 107;refine ((CC.out _ _).inRound l).mono ?_;rintro e w2 ⟨g,rfl,hg,hpb,hb2⟩;have hbA:=Below.trans (Below.drew (Below.refl W.heap.size W)) hb2;obtain ⟨⟨a0,a1⟩,a2,a3,a4⟩:=AF.out w2 hbA;dsimp only
        refine hK _ _ ?_;clear hK K
        refine wpAnyIn_ready (rs:=[4]) (by kernel_rfl) (by simp) ?_
        refine AllReadyIn.cons rfl (fun K hK=>?_) AllReadyIn.nil
        go_simp
        refine ⟨trivial,fun h=>(by cases (show false=true from h)),?_⟩;gi_at_call 106;refine ((SC.out _ w2 g hbA hpb).inRound l).mono ?_;rintro e w3 ⟨rfl,hb3⟩;have hbC:=bstep hbA hb3;obtain ⟨⟨d0,d1⟩,d2,d3',d4⟩:=AF.out w3 hbC;obtain ⟨g',cap',w4,hrun,hc4,hf4,hv4,hr4,hk4,hb4⟩:=ST.out w3 hbC;have ne3:¬ (w3.heap.size=w2'.heap.size+1):=(by omega);dsimp only
        refine hK _ _ ?_;clear hK K
        refine wpAnyIn_ready (rs:=[5]) (by kernel_rfl) (by simp) ?_
        refine AllReadyIn.cons rfl (fun K hK=>?_) AllReadyIn.nil
        go_simp
        refine hK _ _ ?_;clear hK K
        refine wpAnyIn_ready (rs:=[6]) (by kernel_rfl) (by simp) ?_
        refine AllReadyIn.cons rfl (fun K hK=>?_) AllReadyIn.nil
        refine stepG rfl (.tmp 35) (.tmp 40) 34 rfl v (.slice (some ⟨w3.heap.size,0,none⟩) 1 1) (.slice (some ⟨g',0,none⟩) (pre.length+1) cap') w4 rfl rfl hrun ?_
        refine hK _ _ ?_;clear hK K
        refine wpAnyIn_ready (rs:=[7]) (by kernel_rfl) (by simp) ?_
        refine AllReadyIn.cons rfl (fun K hK=>?_) AllReadyIn.nil
        go_simp
        refine hK _ _ ?_;clear hK K
        refine wpAnyIn_done (by kernel_rfl) ?_ _
        exact mu_end (a:=⟨#[],[]⟩) hbC hB hNW hG hv4 hr4 hk4 hb4
      refine AllReadyIn.cons rfl (fun K hK=>?_) AllReadyIn.nil
      go_simp
      refine ⟨trivial,fun h=>(by cases (show false=true from h)),?_⟩;gi_at_call 107;refine ((CC.out _ _).inRound l).mono ?_;rintro e w2 ⟨g,rfl,hg,hpb,hb2⟩;have hbA:=Below.trans (Below.drew (Below.refl W.heap.size W)) hb2;obtain ⟨⟨a0,a1⟩,a2,a3,a4⟩:=AF.out w2 hbA;dsimp only
      refine hK _ _ ?_;clear hK K
      refine wpAnyIn_ready (rs:=[1]) (by kernel_rfl) (by simp) ?_
      refine AllReadyIn.cons rfl (fun K hK=>?_) AllReadyIn.nil
      go_simp
      refine hK _ _ ?_;clear hK K
      refine wpAnyIn_ready (rs:=[4]) (by kernel_rfl) (by simp) ?_
      refine AllReadyIn.cons rfl (fun K hK=>?_) AllReadyIn.nil
      go_simp
      refine ⟨trivial,fun h=>(by cases (show false=true from h)),?_⟩;gi_at_call 106;refine ((SC.out _ w2 g hbA hpb).inRound l).mono ?_;rintro e w3 ⟨rfl,hb3⟩;have hbC:=bstep hbA hb3;obtain ⟨⟨d0,d1⟩,d2,d3',d4⟩:=AF.out w3 hbC;obtain ⟨g',cap',w4,hrun,hc4,hf4,hv4,hr4,hk4,hb4⟩:=ST.out w3 hbC;have ne3:¬ (w3.heap.size=w2'.heap.size+1):=(by omega);dsimp only
      refine hK _ _ ?_;clear hK K
      refine wpAnyIn_ready (rs:=[5]) (by kernel_rfl) (by simp) ?_
      refine AllReadyIn.cons rfl (fun K hK=>?_) AllReadyIn.nil
      go_simp
      refine hK _ _ ?_;clear hK K
      refine wpAnyIn_ready (rs:=[6]) (by kernel_rfl) (by simp) ?_
      refine AllReadyIn.cons rfl (fun K hK=>?_) AllReadyIn.nil
      refine stepG rfl (.tmp 35) (.tmp 40) 34 rfl v (.slice (some ⟨w3.heap.size,0,none⟩) 1 1) (.slice (some ⟨g',0,none⟩) (pre.length+1) cap') w4 rfl rfl hrun ?_
      refine hK _ _ ?_;clear hK K
      refine wpAnyIn_ready (rs:=[7]) (by kernel_rfl) (by simp) ?_
      refine AllReadyIn.cons rfl (fun K hK=>?_) AllReadyIn.nil
      go_simp
      refine hK _ _ ?_;clear hK K
      refine wpAnyIn_done (by kernel_rfl) ?_ _
      exact mu_end (a:=⟨#[],[]⟩) hbC hB hNW hG hv4 hr4 hk4 hb4
    refine AllReadyIn.cons rfl (fun K hK=>?_) ?_
    · go_simp
      refine hK _ _ ?_;clear hK K
      refine wpAnyIn_ready (rs:=[0,3]) (by kernel_rfl) (by simp) ?_
      refine AllReadyIn.cons rfl (fun K hK=>?_) ?_
      · go_simp
        refine hK _ _ ?_;clear hK K
        refine wpAnyIn_ready (rs:=[3]) (by kernel_rfl) (by simp) ?_
        refine AllReadyIn.cons rfl (fun K hK=>?_) AllReadyIn.nil
        go_simp
        refine ⟨trivial,fun h=>(by cases (show false=true from h)),?_⟩;gi_at_call 107;refine ((CC.out _ _).inRound l).mono ?_;rintro e w2 ⟨g,rfl,hg,hpb,hb2⟩;have hbA:=Below.trans (Below.drew (Below.refl W.heap.size W)) hb2;obtain ⟨⟨a0,a1⟩,a2,a3,a4⟩:=AF.out w2 hbA;dsimp only
        refine hK _ _ ?_;clear hK K
        refine wpAnyIn_ready (rs:=[4]) (by kernel_rfl) (by simp) ?_
        refine AllReadyIn.cons rfl (fun K hK=>?_) AllReadyIn.nil
        go_simp
        refine ⟨trivial,fun h=>(by cases (show false=true from h)),?_⟩;gi_at_call 106;refine ((SC.out _ w2 g hbA hpb).inRound l).mono ?_;rintro e w3 ⟨rfl,hb3⟩;have hbC:=bstep hbA hb3;obtain ⟨⟨d0,d1⟩,d2,d3',d4⟩:=AF.out w3 hbC;obtain ⟨g',cap',w4,hrun,hc4,hf4,hv4,hr4,hk4,hb4⟩:=ST.out w3 hbC;have ne3:¬ (w3.heap.size=w2'.heap.size+1):=(by omega);dsimp only
        refine hK _ _ ?_;clear hK K
        refine wpAnyIn_ready (rs:=[5]) (by kernel_rfl) (by simp) ?_
        refine AllReadyIn.cons rfl (fun K hK=>?_) AllReadyIn.nil
        go_simp
        refine hK _ _ ?_;clear hK K
        refine wpAnyIn_ready (rs:=[6]) (by kernel_rfl) (by simp) ?_
        refine AllReadyIn.cons rfl (fun K hK=>?_) AllReadyIn.nil
        refine stepG rfl (.tmp 35) (.tmp 40) 34 rfl v (.slice (some ⟨w3.heap.size,0,none⟩) 1 1) (.slice (some ⟨g',0,none⟩) (pre.length+1) cap') w4 rfl rfl hrun ?_
        refine hK _ _ ?_;clear hK K
        refine wpAnyIn_ready (rs:=[7]) (by kernel_rfl) (by simp) ?_
        refine AllReadyIn.cons rfl (fun K hK=>?_) AllReadyIn.nil
        go_simp
        refine hK _ _ ?_;clear hK K
        refine wpAnyIn_done (by kernel_rfl) ?_ _
        exact mu_end (a:=⟨#[],[]⟩) hbC hB hNW hG hv4 hr4 hk4 hb4
      refine AllReadyIn.cons rfl (fun K hK=>?_) AllReadyIn.nil
      go_simp
      refine ⟨trivial,fun h=>(by cases (show false=true from h)),?_⟩;gi_at_call 107;refine ((CC.out _ _).inRound l).mono ?_;rintro e w2 ⟨g,rfl,hg,hpb,hb2⟩;have hbA:=Below.trans (Below.drew (Below.refl W.heap.size W)) hb2;obtain ⟨⟨a0,a1⟩,a2,a3,a4⟩:=AF.out w2 hbA;dsimp only
      refine hK _ _ ?_;clear hK K
      refine wpAnyIn_ready (rs:=[0,4]) (by kernel_rfl) (by simp) ?_
      refine AllReadyIn.cons rfl (fun K hK=>?_) ?_
      · go_simp
        refine hK _ _ ?_;clear hK K
        refine wpAnyIn_ready (rs:=[4]) (by kernel_rfl) (by simp) ?_
        refine AllReadyIn.cons rfl (fun K hK=>?_) AllReadyIn.nil
        go_simp
        refine ⟨trivial,fun h=>(by cases (show false=true from h)),?_⟩;gi_at_call 106;refine ((SC.out _ w2 g hbA hpb).inRound l).mono ?_;rintro e w3 ⟨rfl,hb3⟩;have hbC:=bstep hbA hb3;obtain ⟨⟨d0,d1⟩,d2,d3',d4⟩:=AF.out w3 hbC;obtain ⟨g',cap',w4,hrun,hc4,hf4,hv4,hr4,hk4,hb4⟩:=ST.out w3 hbC;have ne3:¬ (w3.heap.size=w2'.heap.size+1):=(by omega);dsimp only
        refine hK _ _ ?_;clear hK K
        refine wpAnyIn_ready (rs:=[5]) (by kernel_rfl) (by simp) ?_
        refine AllReadyIn.cons rfl (fun K hK=>?_) AllReadyIn.nil
        go_simp
        refine hK _ _ ?_;clear hK K
        refine wpAnyIn_ready (rs:=[6]) (by kernel_rfl) (by simp) ?_
        refine AllReadyIn.cons rfl (fun K hK=>?_) AllReadyIn.nil
        refine stepG rfl (.tmp 35) (.tmp 40) 34 rfl v (.slice (some ⟨w3.heap.size,0,none⟩) 1 1) (.slice (some ⟨g',0,none⟩) (pre.length+1) cap') w4 rfl rfl hrun ?_
        refine hK _ _ ?_;clear hK K
        refine wpAnyIn_ready (rs:=[7]) (by kernel_rfl) (by simp) ?_
        refine AllReadyIn.cons rfl (fun K hK=>?_) AllReadyIn.nil
        go_simp
        refine hK _ _ ?_;clear hK K
        refine wpAnyIn_done (by kernel_rfl) ?_ _
        exact mu_end (a:=⟨#[],[]⟩) hbC hB hNW hG hv4 hr4 hk4 hb4
      refine AllReadyIn.cons rfl (fun K hK=>?_) AllReadyIn.nil
      go_simp
      refine ⟨trivial,fun h=>(by cases (show false=true from h)),?_⟩;gi_at_call 106;refine ((SC.out _ w2 g hbA hpb).inRound l).mono ?_;rintro e w3 ⟨rfl,hb3⟩;have hbC:=bstep hbA hb3;obtain ⟨⟨d0,d1⟩,d2,d3',d4⟩:=AF.out w3 hbC;obtain ⟨g',cap',w4,hrun,hc4,hf4,hv4,hr4,hk4,hb4⟩:=ST.out w3 hbC;have ne3:¬ (w3.heap.size=w2'.heap.size+1):=(by omega);dsimp only
      refine hK _ _ ?_;clear hK K
      refine wpAnyIn_ready (rs:=[0,5]) (by kernel_rfl) (by simp) ?_
      refine AllReadyIn.cons rfl (fun K hK=>?_) ?_
      · go_simp
        refine hK _ _ ?_;clear hK K
        refine wpAnyIn_ready (rs:=[5]) (by kernel_rfl) (by simp) ?_
        refine AllReadyIn.cons rfl (fun K hK=>?_) AllReadyIn.nil
        go_simp
        refine hK _ _ ?_;clear hK K
        refine wpAnyIn_ready (rs:=[6]) (by kernel_rfl) (by simp) ?_
        refine AllReadyIn.cons rfl (fun K hK=>?_) AllReadyIn.nil
        refine stepG rfl (.tmp 35) (.tmp 40) 34 rfl v (.slice (some ⟨w3.heap.size,0,none⟩) 1 1) (.slice (some ⟨g',0,none⟩) (pre.length+1) cap') w4 rfl rfl hrun ?_
        refine hK _ _ ?_;clear hK K
        refine wpAnyIn_ready (rs:=[7]) (by kernel_rfl) (by simp) ?_
        refine AllReadyIn.cons rfl (fun K hK=>?_) AllReadyIn.nil
        go_simp
        refine hK _ _ ?_;clear hK K
        refine wpAnyIn_done (by kernel_rfl) ?_ _
        exact mu_end (a:=⟨#[],[]⟩) hbC hB hNW hG hv4 hr4 hk4 hb4
      refine AllReadyIn.cons rfl (fun K hK=>?_) AllReadyIn.nil
      go_simp
      refine hK _ _ ?_;clear hK K
      refine wpAnyIn_ready (rs:=[0]) (by kernel_rfl) (by simp) ?_
      refine AllReadyIn.cons rfl (fun K hK=>?_) AllReadyIn.nil
      go_simp
      refine hK _ _ ?_;clear hK K
      refine wpAnyIn_ready (rs:=[6]) (by kernel_rfl) (by simp) ?_
      refine AllReadyIn.cons rfl (fun K hK=>?_) AllReadyIn.nil
      refine stepG rfl (.tmp 35) (.tmp 40) 34 rfl v (.slice (some ⟨w3.heap.size,0,none⟩) 1 1) (.slice (some ⟨g',0,none⟩) (pre.length+1) cap') w4 rfl rfl hrun ?_
      refine hK _ _ ?_;clear hK K
      refine wpAnyIn_ready (rs:=[7]) (by kernel_rfl) (by simp) ?_
      refine AllReadyIn.cons rfl (fun K hK=>?_) AllReadyIn.nil
      go_simp
      refine hK _ _ ?_;clear hK K
      refine wpAnyIn_done (by kernel_rfl) ?_ _
      exact mu_end (a:=⟨#[],[]⟩) hbC hB hNW hG hv4 hr4 hk4 hb4
    refine AllReadyIn.cons rfl (fun K hK=>?_) AllReadyIn.nil
    go_simp
    refine ⟨trivial,fun h=>(by cases (show false=true from h)),?_⟩;gi_at_call 107;refine ((CC.out _ _).inRound l).mono ?_;rintro e w2 ⟨g,rfl,hg,hpb,hb2⟩;have hbA:=Below.trans (Below.drew (Below.refl W.heap.size W)) hb2;obtain ⟨⟨a0,a1⟩,a2,a3,a4⟩:=AF.out w2 hbA;dsimp only
    refine hK _ _ ?_;clear hK K
    refine wpAnyIn_ready (rs:=[0,1]) (by kernel_rfl) (by simp) ?_
    refine AllReadyIn.cons rfl (fun K hK=>?_) ?_
    · go_simp
      refine hK _ _ ?_;clear hK K
      refine wpAnyIn_ready (rs:=[1]) (by kernel_rfl) (by simp) ?_
      refine AllReadyIn.cons rfl (fun K hK=>?_) AllReadyIn.nil
      go_simp
      refine hK _ _ ?_;clear hK K
      refine wpAnyIn_ready (rs:=[4]) (by kernel_rfl) (by simp) ?_
      refine AllReadyIn.cons rfl (fun K hK=>?_) AllReadyIn.nil
      go_simp
      refine ⟨trivial,fun h=>(by cases (show false=true from h)),?_⟩;gi_at_call 106;refine ((SC.out _ w2 g hbA hpb).inRound l).mono ?_;rintro e w3 ⟨rfl,hb3⟩;have hbC:=bstep hbA hb3;obtain ⟨⟨d0,d1⟩,d2,d3',d4⟩:=AF.out w3 hbC;obtain ⟨g',cap',w4,hrun,hc4,hf4,hv4,hr4,hk4,hb4⟩:=ST.out w3 hbC;have ne3:¬ (w3.heap.size=w2'.heap.size+1):=(by omega);dsimp only
      refine hK _ _ ?_;clear hK K
      refine wpAnyIn_ready (rs:=[5]) (by kernel_rfl) (by simp) ?_
      refine AllReadyIn.cons rfl (fun K hK=>?_) AllReadyIn.nil
      go_simp
      refine hK _ _ ?_;clear hK K
      refine wpAnyIn_ready (rs:=[6]) (by kernel_rfl) (by simp) ?_
      refine AllReadyIn.cons rfl (fun K hK=>?_) AllReadyIn.nil
      refine stepG rfl (.tmp 35) (.tmp 40) 34 rfl v (.slice (some ⟨w3.heap.size,0,none⟩) 1 1) (.slice (some ⟨g',0,none⟩) (pre.length+1) cap') w4 rfl rfl hrun ?_
      refine hK _ _ ?_;clear hK K
      refine wpAnyIn_ready (rs:=[7]) (by kernel_rfl) (by simp) ?_
      refine AllReadyIn.cons rfl (fun K hK=>?_) AllReadyIn.nil
      go_simp
      refine hK _ _ ?_;clear hK K
      refine wpAnyIn_done (by kernel_rfl) ?_ _
      exact mu_end (a:=⟨#[],[]⟩) hbC hB hNW hG hv4 hr4 hk4 hb4
    refine AllReadyIn.cons rfl (fun K hK=>?_) AllReadyIn.nil
    go_simp
    refine hK _ _ ?_;clear hK K
    refine wpAnyIn_ready (rs:=[0,4]) (by kernel_rfl) (by simp) ?_
    refine AllReadyIn.cons rfl (fun K hK=>?_) ?_
    · go_simp
      refine hK _ _ ?_;clear hK K
      refine wpAnyIn_ready (rs:=[4]) (by kernel_rfl) (by simp) ?_
      refine AllReadyIn.cons rfl (fun K hK=>?_) AllReadyIn.nil
      go_simp
      refine ⟨trivial,fun h=>(by cases (show false=true from h)),?_⟩;gi_at_call 106;refine ((SC.out _ w2 g hbA hpb).inRound l).mono ?_;rintro e w3 ⟨rfl,hb3⟩;have hbC:=bstep hbA hb3;obtain ⟨⟨d0,d1⟩,d2,d3',d4⟩:=AF.out w3 hbC;obtain ⟨g',cap',w4,hrun,hc4,hf4,hv4,hr4,hk4,hb4⟩:=ST.out w3 hbC;have ne3:¬ (w3.heap.size=w2'.heap.size+1):=(by omega);dsimp only
      refine hK _ _ ?_;clear hK K
      refine wpAnyIn_ready (rs:=[5]) (by kernel_rfl) (by simp) ?_
      refine AllReadyIn.cons rfl (fun K hK=>?_) AllReadyIn.nil
      go_simp
      refine hK _ _ ?_;clear hK K
      refine wpAnyIn_ready (rs:=[6]) (by kernel_rfl) (by simp) ?_
      refine AllReadyIn.cons rfl (fun K hK=>?_) AllReadyIn.nil
      refine stepG rfl (.tmp 35) (.tmp 40) 34 rfl v (.slice (some ⟨w3.heap.size,0,none⟩) 1 1) (.slice (some ⟨g',0,none⟩) (pre.length+1) cap') w4 rfl rfl hrun ?_
      refine hK _ _ ?_;clear hK K
      refine wpAnyIn_ready (rs:=[7]) (by kernel_rfl) (by simp) ?_
      refine AllReadyIn.cons rfl (fun K hK=>?_) AllReadyIn.nil
      go_simp
      refine hK _ _ ?_;clear hK K
      refine wpAnyIn_done (by kernel_rfl) ?_ _
      exact mu_end (a:=⟨#[],[]⟩) hbC hB hNW hG hv4 hr4 hk4 hb4
    refine AllReadyIn.cons rfl (fun K hK=>?_) AllReadyIn.nil
    go_simp
    refine ⟨trivial,fun h=>(by cases (show false=true from h)),?_⟩;gi_at_call 106;refine ((SC.out _ w2 g hbA hpb).inRound l).mono ?_;rintro e w3 ⟨rfl,hb3⟩;have hbC:=bstep hbA hb3;obtain ⟨⟨d0,d1⟩,d2,d3',d4⟩:=AF.out w3 hbC;obtain ⟨g',cap',w4,hrun,hc4,hf4,hv4,hr4,hk4,hb4⟩:=ST.out w3 hbC;have ne3:¬ (w3.heap.size=w2'.heap.size+1):=(by omega);dsimp only
    refine hK _ _ ?_;clear hK K
    refine wpAnyIn_ready (rs:=[0,5]) (by kernel_rfl) (by simp) ?_
    refine AllReadyIn.cons rfl (fun K hK=>?_) ?_
    · go_simp
      refine hK _ _ ?_;clear hK K
      refine wpAnyIn_ready (rs:=[5]) (by kernel_rfl) (by simp) ?_
      refine AllReadyIn.cons rfl (fun K hK=>?_) AllReadyIn.nil
      go_simp
      refine hK _ _ ?_;clear hK K
      refine wpAnyIn_ready (rs:=[6]) (by kernel_rfl) (by simp) ?_
      refine AllReadyIn.cons rfl (fun K hK=>?_) AllReadyIn.nil
      refine stepG rfl (.tmp 35) (.tmp 40) 34 rfl v (.slice (some ⟨w3.heap.size,0,none⟩) 1 1) (.slice (some ⟨g',0,none⟩) (pre.length+1) cap') w4 rfl rfl hrun ?_
      refine hK _ _ ?_;clear hK K
      refine wpAnyIn_ready (rs:=[7]) (by kernel_rfl) (by simp) ?_
      refine AllReadyIn.cons rfl (fun K hK=>?_) AllReadyIn.nil
      go_simp
      refine hK _ _ ?_;clear hK K
      refine wpAnyIn_done (by kernel_rfl) ?_ _
      exact mu_end (a:=⟨#[],[]⟩) hbC hB hNW hG hv4 hr4 hk4 hb4
    refine AllReadyIn.cons rfl (fun K hK=>?_) AllReadyIn.nil
    go_simp
    refine hK _ _ ?_;clear hK K
    refine wpAnyIn_ready (rs:=[0]) (by kernel_rfl) (by simp) ?_
    refine AllReadyIn.cons rfl (fun K hK=>?_) AllReadyIn.nil
    go_simp
    refine hK _ _ ?_;clear hK K
    refine wpAnyIn_ready (rs:=[6]) (by kernel_rfl) (by simp) ?_
    refine AllReadyIn.cons rfl (fun K hK=>?_) AllReadyIn.nil
    refine stepG rfl (.tmp 35) (.tmp 40) 34 rfl v (.slice (some ⟨w3.heap.size,0,none⟩) 1 1) (.slice (some ⟨g',0,none⟩) (pre.length+1) cap') w4 rfl rfl hrun ?_
    refine hK _ _ ?_;clear hK K
    refine wpAnyIn_ready (rs:=[7]) (by kernel_rfl) (by simp) ?_
    refine AllReadyIn.cons rfl (fun K hK=>?_) AllReadyIn.nil
    go_simp
    refine hK _ _ ?_;clear hK K
    refine wpAnyIn_done (by kernel_rfl) ?_ _
    exact mu_end (a:=⟨#[],[]⟩) hbC hB hNW hG hv4 hr4 hk4 hb4
  case done =>
    rintro D' ys W hD hS ⟨⟨v,hv,hrow,_⟩,hB⟩ hK
    have hc:=hv.cell
    have hBs:Below Ws.heap.size Ws W:=by rw [sS];exact hB
    have Y5:=hid (twp_below T3.out hBs)
    have em:ys.map (fun q:T5=>(G q.1).1)=(cutP D.toNat (x,y,z)).map fun q=>(G q).1:=by rw [← hS,List.map_map];rfl
    have el:ys.length=(cutP D.toNat (x,y,z)).length:=by rw [← hS,List.length_map]
    rw [em,el] at hrow
    have MC:=hid (fun (m:Nat)=>(callsIn_wide (n:=m)).2 (M1.out W _ v hrow))
    gi_wp2_with fail
    refine ⟨trivial,?_⟩
    gi_at_call 117
    refine (MC.out _).mono ?_
    rintro e w9 ⟨rfl,hb9⟩
    have Y6:=hid (twp_below Y5.out hb9)
    obtain ⟨o0,o1,o2,o3,o4⟩:=Y6.out.2.2.1
    have hb0:=T3.out.2.2.1.2.2.2.2
    have hDb:¬ (D'=w.heap.size+1+1):=by omega
    have hDc:¬ (w.heap.size+1+1=D'):=by omega
    have hK9:w9.heap[D']?=some (.deferred (some [])):=(hb9.block D' (Array.getElem?_eq_some_iff.1 hK).1).trans hK
    have hKX:((w9.setCell ⟨w.heap.size+1+1,0,none⟩ (.int .i64 res.1.1)).setCell ⟨w.heap.size+1+1,1,none⟩ (.int .i64 res.1.2)).heap[D']?=some (.deferred (some [])):=(Below.heap_setCell _ _ _ _ hDb).trans ((Below.heap_setCell _ _ _ _ hDb).trans hK9)
    have BX:=hid ((Y6.out.2.2.2.setCell (p:=⟨w.heap.size+1+1,0,none⟩) (by simp;omega) (.int .i64 res.1.1)).setCell (p:=⟨w.heap.size+1+1,1,none⟩) (by simp;omega) (.int .i64 res.1.2))
    have zz:((w9.setCell ⟨w.heap.size+1+1,0,none⟩ (.int .i64 res.1.1)).setCell ⟨w.heap.size+1+1,1,none⟩ (.int .i64 res.1.2)).cell? ⟨w.heap.size+1+1,0,none⟩=some (.int .i64 res.1.1)/\((w9.setCell ⟨w.heap.size+1+1,0,none⟩ (.int .i64 res.1.1)).setCell ⟨w.heap.size+1+1,1,none⟩ (.int .i64 res.1.2)).cell? ⟨w.heap.size+1+1,1,none⟩=some (.int .i64 res.1.2):=⟨by go_simp,by go_simp⟩
    gi_wp2
    generalize (w9.setCell ⟨w.heap.size+1+1,0,none⟩ (.int .i64 res.1.1)).setCell ⟨w.heap.size+1+1,1,none⟩ (.int .i64 res.1.2)=X at *
    have gg:=grownBy_putObj' X D' (.deferred none)
    have y0:=gg.cell zz.1 (fun e=>hDc (by cases e;rfl))
    have y1:=gg.cell zz.2 (fun e=>hDc (by cases e;rfl))
    refine ⟨by simp,.inl ⟨_,_,rfl,run_takeDeferred hKX,?_⟩⟩
    refine ⟨spr res,by rw [results_cell_tmp rfl];go_simp,rfl,BX.out.trans (belowK_b (w:=w) (Nat.le_refl _) X D' _ _ (by omega) hKX rfl rfl)⟩
  case stop =>
    rintro D c pre W _ _ h _
    exact h.elim
theorem mut_no (t u:P9) (D pc:Int) (w:World) (C1:Hid (∀ W,Calls Tryz.prog 104 #[p9v t,p9v u,.int .i64 D] W fun e w'=>e=.returned (.int .i64 pc)/\Below W.heap.size W w')) (zz:(pc != 0)=true):Calls Tryz.prog 62 #[p9v t,p9v u,.int .i64 D] w fun e w'=>e=.returned (spr ((0,0),pc))/\Below w.heap.size w w':=by
  obtain ⟨a,b,c⟩:=t
  obtain ⟨x,y,z⟩:=u
  have P0:=hid (pan_alloc (pan_alloc (pan_new w a b c 77) (pnc x y z 77)) (.cells #[.int .i64 0,.int .i64 0] 39))
  have U0:=hid (pan_alloc (pan_new (w.alloc (pnc a b c 77)) x y z 77) (.cells #[.int .i64 0,.int .i64 0] 39))
  have R0:=hid (owp_new ((w.alloc (pnc a b c 77)).alloc (pnc x y z 77)) (0,0) 39)
  simp only [World.size_alloc] at R0 U0
  have B0:=hid (show Below w.heap.size w (((w.alloc (pnc a b c 77)).alloc (pnc x y z 77)).alloc (.cells #[.int .i64 0,.int .i64 0] 39)) by (repeat' (first|exact Below.refl _ _|refine Below.setCell ?_ (by simp<;>omega) _|refine balloc ?_ _|refine Below.drew ?_|refine bdrewN ?_ _)))
  go_enter Tryz.func62,Tryz.ntmps62
  go_wp2_with fail
  with_reducible refine (C1.out _).mono ?_
  rintro e w1 ⟨rfl,hb1⟩
  obtain ⟨o0,o1,o2,o3,o4⟩:=owp_below R0.out hb1
  have hB:=bstep B0.out hb1
  clear R0 B0
  go_wp2
  refine bodyPost_ret (v:=spr ((0,0),pc)) (by rw [results_cell_tmp rfl];go_simp) rfl ⟨rfl,?_⟩
  (repeat' (first|with_reducible exact hB|(with_reducible refine Below.setCell ?_ (by simp<;>omega) _)))
theorem mut_any (t u:P9) (D:Int) (w:World):Calls Tryz.prog 62 #[p9v t,p9v u,.int .i64 D] w fun e w'=>e=.returned (spr (mutF t u D))/\Below w.heap.size w w':=by
  have C1:=fun W=>cpr_any t u D W
  have ML:=mutL_all t u D
  unfold mutF
  by_cases h:prc t u D=0
  · rw [if_pos h]
    rw [h] at C1
    obtain ⟨ht,hu,d0,d2⟩:=prc_ok h
    have d3:D<=3:=by omega
    have hB:=pcode_ok9 ht
    have hU:=pcode_ok9 hu
    obtain ⟨r0,r1⟩:=rmF_bd ht d0 d3
    obtain ⟨n0,n1⟩:=ptn_vals d0 d3
    refine (callsIn_wide (n:=6)).1 (mut_in 6 (by decide) t u D (scl D) (rmF t D) (mutG t D) _ w d0 d3 hU (hid C1) (hid fun W=>src_any t D W ht hB d0 d3)
      (hid fun W q cp g gs x hx hgs hr hp=>sfr_any t x D (rmF t D) q cp g gs W hB hx d0 d3 hr hgs hp r0 r1)
      (hid fun W base v ho=>?_))
    rw [cutP_len] at ho
    rw [← ML] at ho
    rcases ho.2 with ⟨_,h'⟩|⟨g,cap,cur,rfl,_⟩
    · exact absurd h' (Nat.ne_of_gt n0)
    · exact mean8_any g 0 (ptn D) cap _ _ W (row_of8 ho (gis_len _ _ _)) (by omega)
  · rw [if_neg h]
    exact mut_no t u D _ w (hid C1) (bne_iff_ne.2 h)
end Go.Proofs.YtbcjiigmbcfkeaaGreat
