import Derived.Deep.Cut
import Derived.Test.YtpocbdompamnnaaTr8
namespace Go.Proofs.Ytpocbdompamnnaa
open Go.ChangeShapes Go.WideShapes Go.RowKit
open Sh
theorem tr_sizeI (w:World):(sizeOf (Try.prog.elem 24)).run Try.prog w=.ok 1 w:=by kernel_rfl
theorem tr_undI:Try.prog.underlying 24=some (.slice (Try.prog.elem 24)):=by kernel_rfl
theorem tr_slice (ob n cO fr to:Nat) (h1:fr < to) (h2:to≤n) (h3:n≤cO) (w:World):(Instr.slice 24 (.slice (some ⟨ob,0,none⟩) n cO) (some (.int .i64 (fr:Int))) (some (.int .i64 (to:Int))) none).run Try.prog w=.ok (.slice (some ⟨ob,fr,none⟩) (to - fr) (cO - fr)) w:=by
  rw [run_slice_lh _ _ _ _ _ tr_undI .i64 .i64 (fr:Int) (to:Int) (by omega) (by omega) (by omega),tr_sizeI]
  simp only [Result.andThen,sliced,Int.toNat_natCast]
  rw [if_neg (by omega)]
  simp [Addr.add]
  exact fun e=>e.symm
theorem node_new (w:World) (b fr to:Nat) (t:TypeId) (hb:b=w.heap.size):∀ j u,(ndv (fr,to,-1,-1,(0,0,0),0))[j]?=some u→(w.alloc (.cells #[.int .i64 (fr:Int),.int .i64 (to:Int),.int .i64 (-1),.int .i64 (-1),.int .i64 0,.int .i64 0,.int .i64 0,.int .i64 0] t)).cell? ((⟨b,0,none⟩:Addr).add j)=some u:=by
  subst hb
  intro j u h
  match j,h with
  | 0,h | 1,h | 2,h | 3,h | 4,h | 5,h | 6,h | 7,h=>(simp [ndv] at h;subst h;simp only [Addr.add];go_simp)
  | j + 8,h=>simp [ndv] at h
theorem ap_cell {w0 w w2:World} {LB LF ob T AD b off n c leaf cO:Nat} {O:List Nat} {vN:Value} {NL:List Nd} {o:Obj} (g:GSt w0.heap.size LB LF ob T AD) (h:GS w0 w LB LF ob T AD b off n c leaf cO O vN NL) (gr:(w.alloc o).grownBy w2 vN.ownBlock):w2.cell? ⟨T,1,none⟩=some vN∧w2.frozen? ⟨T,1,none⟩=false:=by
  obtain ⟨⟨c0,c1,c2,c3,c4⟩,f,o1,o2,sz,bl⟩:=h
  obtain ⟨g1,g2,g3,g4,g5⟩:=g
  have e:w2.heap[T]?=w.heap[T]?:=by
    rw [gr.block T (by simp;omega) (fun e=>by have:=(o2.lt T e.symm).1;omega)]
    exact ((Below.refl w.heap.size w).alloc (Nat.le_refl _) o).block T (by omega)
  exact ⟨(World.cell?_of_block (a:=⟨T,1,none⟩) e).trans c1,(World.frozen?_of_block (a:=⟨T,1,none⟩) e).trans f⟩
theorem gS_c2 {w0 w:World} {LB LF ob T AD b off n c leaf cO:Nat} {O:List Nat} {vN:Value} {NL:List Nd} (h:GS w0 w LB LF ob T AD b off n c leaf cO O vN NL):w.cell? ⟨T,0,none⟩=some (.slice (some ⟨ob,0,none⟩) n cO)∧w.cell? ⟨LB,0,none⟩=some (.slice (some ⟨b,off,none⟩) n c):=⟨h.1.1,h.1.2.2.2.1⟩
set_option maxRecDepth 100000 in
set_option maxHeartbeats 4000000 in
theorem add_leaf (w0:World) (LB LF ob T AD b off n c leaf cO fr to:Nat) (O:List Nat) (vN:Value) (NL:List Nd) (w:World) (g:GSt w0.heap.size LB LF ob T AD) (h:GS w0 w LB LF ob T AD b off n c leaf cO O vN NL) (hft:fr < to) (ht:to≤96) (hlf:leaf≤16) (hN:NL.length≤400) (hl:to≤fr + leaf):Calls Try.prog 48 #[.int .i64 (fr:Int),.int .i64 (to:Int),.pointer (some ⟨T,0,none⟩),.pointer (some ⟨LF,0,none⟩),.pointer (some ⟨LB,0,none⟩),.pointer (some ⟨AD,0,none⟩)] w fun e w'=>e=.returned (.int .i64 (NL.length:Int))∧∃ v,GS w0 w' LB LF ob T AD b off n c leaf cO O v (NL ++ [(fr,to,-1,-1,(0,0,0),0)]):=by
  obtain ⟨i0,hi,hz0,hz1,hz2⟩:=info_parts tr_infoN
  have HI:=Lib.hid hi
  have HZ0:=Lib.hid hz0
  have HZ1:=Lib.hid hz1
  have HZ2:=Lib.hid hz2
  clear hi hz0 hz1 hz2
  obtain ⟨A,cN,rfl⟩:=gS_form h
  have H0:=Lib.hid h
  have G:=Lib.hid g
  have OWN:=Lib.hid h.2.2.2.1
  have szw:=h.2.2.2.2.1
  obtain ⟨c0,c1,c2,c3,c4⟩:=gS_cells h
  have fz:=h.2.1
  obtain ⟨g1,g2,g3,g4,g5⟩:=g
  have tne:T < w.heap.size:=by omega
  have hft':(fr:Int) < (to:Int):=by omega
  have ht':(to:Int)≤96:=by omega
  have hlf':(leaf:Int)≤16:=by omega
  have hN':(NL.length:Int)≤400:=by omega
  clear h
  go_enter Try.func48,Try.ntmps48
  go_upto_region 3 with (at_builtin;go_loud (refine wpList_append_own _ rfl _ _ 25 rfl (AD + 1) 44 i0 (.agg #[.int .i64 0,.int .i64 0,.int .i64 0,.int .i64 0,.int .i64 0,.int .i64 0,.int .i64 0,.int .i64 0]) 8 64 Try.underlying25 HI.out HZ0.out HZ1.out HZ2.out rfl (by decide) _ NL.length (nds NL) rfl (World.ownsRow.alloc OWN.out _) ⟨_,0,none⟩ 1 1 (ndv (fr,to,-1,-1,(0,0,0),0)) rfl rfl (node_new _ _ _ _ _ (by simp)) (by intro u hu;simp [ndv] at hu;rcases hu with rfl | rfl | rfl | rfl | rfl | rfl | rfl | rfl <;> rfl) (by unfold maxLen;omega) (by omega) (by simp;omega) ?_);intro v' w7 hown' hgrow _;obtain ⟨A7,c7,rfl⟩:=tr_own_slice hown';have GA7:=Lib.hid (gS_app G.out H0.out hgrow hown');have z7:=ap_cell G.out H0.out hgrow;obtain ⟨y0,y1⟩:=z7;clear hown' hgrow)
  generalize w7.setCell ⟨T,1,none⟩ (.slice A7 (NL.length + 1) c7)=W2 at *
  clear c0 c1 c2 c3 c4 fz y0 y1 OWN H0 szw tne
  obtain ⟨d0,d1,d2,d3,d4⟩:=gS_cells GA7.out
  have lq:(to:Int) - (fr:Int)≤(leaf:Int):=by omega
  go_wp2
  go_ret
  exact ⟨rfl,_,GA7.out⟩
set_option maxRecDepth 100000 in
set_option maxHeartbeats 4000000 in
theorem add_node (w0:World) (LB LF ob T AD b off n c leaf cO fr to:Nat) (O:List Nat) (vN:Value) (NL:List Nd) (w:World) (g:GSt w0.heap.size LB LF ob T AD) (h:GS w0 w LB LF ob T AD b off n c leaf cO O vN NL) (hft:fr < to) (ht:to≤96) (hlf:leaf≤16) (hN:NL.length≤400) (hl:¬ to≤fr + leaf) (O2 O3 O4:List Nat) (X Y:List Nd) (mid:Nat) (hm:mid=fr + (to - fr + 1) / 2) (hto:to≤n) (hn:n≤cO) (hX:X.length≤400) (hY:Y.length≤400)
    (SRT:Hid (∀ W v,GS w0 W LB LF ob T AD b off n c leaf cO O v (NL ++ [(fr,to,-1,-1,(0,0,0),0)])→Calls Try.prog 49 #[.slice (some ⟨b,off,none⟩) n c,.slice (some ⟨ob,fr,none⟩) (to - fr) (cO - fr)] W fun e w'=>e=.returned (.tuple #[])∧GS w0 w' LB LF ob T AD b off n c leaf cO O2 v (NL ++ [(fr,to,-1,-1,(0,0,0),0)])))
    (I1:Hid (∀ W v,GS w0 W LB LF ob T AD b off n c leaf cO O2 v (NL ++ [(fr,to,-1,-1,(0,0,0),0)])→Calls Try.prog 48 #[.int .i64 (fr:Int),.int .i64 (mid:Int),.pointer (some ⟨T,0,none⟩),.pointer (some ⟨LF,0,none⟩),.pointer (some ⟨LB,0,none⟩),.pointer (some ⟨AD,0,none⟩)] W fun e w'=>e=.returned (.int .i64 ((NL.length + 1:Nat):Int))∧∃ v,GS w0 w' LB LF ob T AD b off n c leaf cO O3 v ((NL ++ [(fr,to,-1,-1,(0,0,0),0)]) ++ X)))
    (I2:Hid (∀ W v,GS w0 W LB LF ob T AD b off n c leaf cO O3 v ((NL ++ [(fr,to,-1,-1,(0,0,0),0)]) ++ X)→Calls Try.prog 48 #[.int .i64 (mid:Int),.int .i64 (to:Int),.pointer (some ⟨T,0,none⟩),.pointer (some ⟨LF,0,none⟩),.pointer (some ⟨LB,0,none⟩),.pointer (some ⟨AD,0,none⟩)] W fun e w'=>e=.returned (.int .i64 ((NL.length + 1 + X.length:Nat):Int))∧∃ v,GS w0 w' LB LF ob T AD b off n c leaf cO O4 v (((NL ++ [(fr,to,-1,-1,(0,0,0),0)]) ++ X) ++ Y))) :
    Calls Try.prog 48 #[.int .i64 (fr:Int),.int .i64 (to:Int),.pointer (some ⟨T,0,none⟩),.pointer (some ⟨LF,0,none⟩),.pointer (some ⟨LB,0,none⟩),.pointer (some ⟨AD,0,none⟩)] w fun e w'=>e=.returned (.int .i64 (NL.length:Int))∧∃ v,GS w0 w' LB LF ob T AD b off n c leaf cO O4 v (NL ++ (fr,to,((NL.length + 1:Nat):Int),((NL.length + 1 + X.length:Nat):Int),(0,0,0),0) :: (X ++ Y)):=by
  obtain ⟨i0,hi,hz0,hz1,hz2⟩:=info_parts tr_infoN
  have HI:=Lib.hid hi
  have HZ0:=Lib.hid hz0
  have HZ1:=Lib.hid hz1
  have HZ2:=Lib.hid hz2
  clear hi hz0 hz1 hz2
  obtain ⟨A,cN,rfl⟩:=gS_form h
  have H0:=Lib.hid h
  have G:=Lib.hid g
  have OWN:=Lib.hid h.2.2.2.1
  have szw:=h.2.2.2.2.1
  obtain ⟨c0,c1,c2,c3,c4⟩:=gS_cells h
  have fz:=h.2.1
  obtain ⟨g1,g2,g3,g4,g5⟩:=g
  have tne:T < w.heap.size:=by omega
  have hft':(fr:Int) < (to:Int):=by omega
  have ht':(to:Int)≤96:=by omega
  have hlf':(leaf:Int)≤16:=by omega
  have hN':(NL.length:Int)≤400:=by omega
  clear h
  go_enter Try.func48,Try.ntmps48
  go_upto_region 3 with (at_builtin;go_loud (refine wpList_append_own _ rfl _ _ 25 rfl (AD + 1) 44 i0 (.agg #[.int .i64 0,.int .i64 0,.int .i64 0,.int .i64 0,.int .i64 0,.int .i64 0,.int .i64 0,.int .i64 0]) 8 64 Try.underlying25 HI.out HZ0.out HZ1.out HZ2.out rfl (by decide) _ NL.length (nds NL) rfl (World.ownsRow.alloc OWN.out _) ⟨_,0,none⟩ 1 1 (ndv (fr,to,-1,-1,(0,0,0),0)) rfl rfl (node_new _ _ _ _ _ (by simp)) (by intro u hu;simp [ndv] at hu;rcases hu with rfl | rfl | rfl | rfl | rfl | rfl | rfl | rfl <;> rfl) (by unfold maxLen;omega) (by omega) (by simp;omega) ?_);intro v' w7 hown' hgrow _;obtain ⟨A7,c7,rfl⟩:=tr_own_slice hown';have GA7:=Lib.hid (gS_app G.out H0.out hgrow hown');have z7:=ap_cell G.out H0.out hgrow;obtain ⟨y0,y1⟩:=z7;clear hown' hgrow)
  generalize w7.setCell ⟨T,1,none⟩ (.slice A7 (NL.length + 1) c7)=W2 at *
  clear c0 c1 c2 c3 c4 fz y0 y1 OWN H0 szw tne
  obtain ⟨d0,d1,d2,d3,d4⟩:=gS_cells GA7.out
  have lq:¬ (to:Int) - (fr:Int)≤(leaf:Int):=by omega
  have lqd:decide ((to:Int) - (fr:Int)≤(leaf:Int))=false:=decide_eq_false lq
  have SL:=fun W=>tr_slice ob n cO fr to hft hto hn W
  have q1:Int.tdiv ((to:Int) - (fr:Int) + 1) 2=(mid:Int) - (fr:Int):=by
    rw [Int.tdiv_eq_ediv_of_nonneg (by omega)]
    omega
  have q2:(fr:Int) + ((mid:Int) - (fr:Int))=(mid:Int):=by omega
  have md:(mid:Int)≤96:=by omega
  have md0:(fr:Int) < (mid:Int):=by omega
  have md1:(mid:Int) < (to:Int)∨(mid:Int)=(to:Int):=by omega
  clear hm
  go_upto_region 5 with fail
  have p0:=gS_below G.out GA7.out (Below.drew (Below.refl _ _))
  clear d0 d1 d2 d3 d4
  go_region_held3 (fun w'=>w'.cell? ⟨T,0,none⟩=some (.slice (some ⟨ob,0,none⟩) n cO)∧w'.cell? ⟨LB,0,none⟩=some (.slice (some ⟨b,off,none⟩) n c))
    (first | (with_reducible exact gS_c2 p0) | (with_reducible exact gS_c2 p1) | fail)
    (first | (go_at_call 49;(with_reducible refine (SRT.out _ _ p0).mono ?_);rintro e y ⟨rfl,p1⟩) | fail)
  have P1:=Lib.hid p1
  obtain ⟨d0,d1,d2,d3,d4⟩:=gS_cells P1.out
  clear p0 p1
  go_wp2_with fail
  with_reducible refine (I1.out _ _ P1.out).mono ?_
  rintro e w8 ⟨rfl,v8,p8⟩
  have P8:=Lib.hid p8
  clear p8 d0 d1 d2 d3 d4
  obtain ⟨d0,d1,d2,d3,d4⟩:=gS_cells P8.out
  go_wp2_with fail
  with_reducible refine (I2.out _ _ P8.out).mono ?_
  rintro e w9 ⟨rfl,v9,p9⟩
  have P9:=Lib.hid p9
  clear p9 d0 d1 d2 d3 d4 P1 P8 SRT I1 I2 GA7 SL
  have e9:(((NL ++ [(fr,to,-1,-1,(0,0,0),0)]) ++ X) ++ Y)=NL ++ (fr,to,-1,-1,(0,0,0),0) :: (X ++ Y):=by simp
  have q9:=P9.out
  rw [e9] at q9
  clear P9 e9
  obtain ⟨K,hK⟩:∃ K,K=(NL ++ (fr,to,-1,-1,(0,0,0),0) :: (X ++ Y)).length:=⟨_,rfl⟩
  have kn:NL.length < K:=by rw [hK];simp
  have kb:K≤1300:=by rw [hK];simp;omega
  have o9:=q9.2.2.2.1
  rw [← hK] at o9
  obtain ⟨gb,c9,rfl⟩:=tr_own_form o9 (by omega)
  have at2:=o9.cellAt (NL.length * 8 + 2) (by omega)
  have at3:=o9.cellAt (NL.length * 8 + 3) (by omega)
  have fr2:=o9.frozenAt (NL.length * 8 + 2)
  have fr3:=o9.frozenAt (NL.length * 8 + 3)
  have mdl:(NL ++ (fr,to,-1,-1,(0,0,0),0) :: (X ++ Y))[NL.length]?=some (fr,to,-1,-1,(0,0,0),0):=by
    rw [List.getElem?_append_right (Nat.le_refl _),Nat.sub_self]
    rfl
  rw [nds_at mdl (by decide)] at at2 at3
  have nt2:w9.cell? ⟨gb,NL.length * 8 + 2,none⟩=some (.int .i64 (-1)):=at2
  have nt3:w9.cell? ⟨gb,NL.length * 8 + 3,none⟩=some (.int .i64 (-1)):=at3
  clear at2 at3
  have t1:=q9.1.2.1
  have gT:AD + 1≤gb:=(o9.lt gb rfl).1
  have Q9:=Lib.hid q9
  have HK:=Lib.hid hK
  have knI:(NL.length:Int) < (K:Int):=by omega
  have kbI:(K:Int)≤1300:=by omega
  have xbI:(X.length:Int)≤400:=by omega
  have gneT:¬ gb=T:=by omega
  clear q9 hK o9 mdl
  go_upto_region 9 with fail
  go_region
  all_goals
    go_wp2
    go_ret
    first
      | exact ⟨rfl,_,gS_parts G.out Q9.out HK.out _ _⟩
      | exact ⟨rfl,_,gS_parts G.out (gS_below G.out Q9.out (Below.drew (Below.refl _ _))) HK.out _ _⟩
      | exact ⟨rfl,_,gS_below G.out (gS_parts G.out Q9.out HK.out _ _) (Below.drew (Below.refl _ _))⟩
end Go.Proofs.Ytpocbdompamnnaa
