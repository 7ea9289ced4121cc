import Derived.Test.YtbcjiigmbcfkeaaGreatHoMa
import Derived.Test.YtbcjiigmbcfkeaaGreatScM
import Derived.Test.YtbcjiigmbcfkeaaGreatSumM
import Derived.Test.YtbcjiigmbcfkeaaGreatSoMb
import Derived.RegionTactic
import Derived.BigRegion
import Derived.Deep.RegionHeld3
namespace Go.Proofs.YtbcjiigmbcfkeaaGreat
open Go.ChangeShapes Go.WideShapes Go.RowKit
open Sh
theorem info7:(Tryz.prog.info? 39).map (fun i=>(i.zero,i.size,i.bytes))=some (some (.agg #[.int .i64 0,.int .i64 0]),2,16):=by kernel_rfl
def PrtR (w:World) (g n k:Nat) (L H:Nat→Int):Prop:=g<w.heap.size∧(∀ j,j<k→w.cell? ⟨g,j*2,none⟩=some (.int .i64 (L j))∧w.cell? ⟨g,j*2+1,none⟩=some (.int .i64 (H j))) ∧
  (∀ j,j<n→(∃ u,w.cell? ⟨g,j*2,none⟩=some u)∧(∃ u,w.cell? ⟨g,j*2+1,none⟩=some u)∧w.frozen? ⟨g,j*2,none⟩=false∧w.frozen? ⟨g,j*2+1,none⟩=false)
theorem prtR_below {w w1:World} {g n k:Nat} {L H:Nat→Int} (h:PrtR w g n k L H) (hb:Below w.heap.size w w1):PrtR w1 g n k L H:=by
  refine ⟨Nat.lt_of_lt_of_le h.1 hb.size,fun j hj=>⟨(hb.cell (p:=⟨g,_,none⟩) h.1).trans (h.2.1 j hj).1,(hb.cell (p:=⟨g,_,none⟩) h.1).trans (h.2.1 j hj).2⟩,fun j hj=>?_⟩
  obtain ⟨⟨u,a⟩,⟨v,b⟩,c,d⟩:=h.2.2 j hj
  exact ⟨⟨u,(hb.cell (p:=⟨g,_,none⟩) h.1).trans a⟩,⟨v,(hb.cell (p:=⟨g,_,none⟩) h.1).trans b⟩,(hb.frozen (p:=⟨g,_,none⟩) h.1).trans c,(hb.frozen (p:=⟨g,_,none⟩) h.1).trans d⟩
theorem prtR_set {w:World} {g n k:Nat} {L H:Nat→Int} (h:PrtR w g n k L H) (hk:k<n) {x y:Int} (hx:L k=x) (hy:H k=y) :
    PrtR ((w.setCell ⟨g,k*2,none⟩ (.int .i64 x)).setCell ⟨g,k*2+1,none⟩ (.int .i64 y)) g n (k+1) L H:=by
  obtain ⟨⟨u,a⟩,⟨v,b⟩,c,d⟩:=h.2.2 k hk
  refine ⟨by simpa using h.1,fun j hj=>?_,fun j hj=>?_⟩
  · by_cases e:j=k
    · subst e
      rw [hx,hy]
      have e1:¬ (j*2+1=j*2):=by omega
      exact ⟨by go_simp,by go_simp⟩
    · obtain ⟨p,q⟩:=h.2.1 j (by omega)
      have e1:¬ (k*2=j*2):=by omega
      have e2:¬ (k*2+1=j*2):=by omega
      have e3:¬ (k*2=j*2+1):=by omega
      have e4:¬ (k*2+1=j*2+1):=by omega
      exact ⟨by go_simp,by go_simp⟩
  · obtain ⟨⟨u',a'⟩,⟨v',b'⟩,c',d'⟩:=h.2.2 j hj
    by_cases e:j=k
    · subst e
      have e1:¬ (j*2+1=j*2):=by omega
      exact ⟨⟨.int .i64 x,by go_simp⟩,⟨.int .i64 y,by go_simp⟩,by go_simp,by go_simp⟩
    · have e1:¬ (k*2=j*2):=by omega
      have e2:¬ (k*2+1=j*2):=by omega
      have e3:¬ (k*2=j*2+1):=by omega
      have e4:¬ (k*2+1=j*2+1):=by omega
      exact ⟨⟨u',by go_simp⟩,⟨v',by go_simp⟩,by go_simp,by go_simp⟩
theorem prtR_row {w:World} {g n:Nat} {L H:Nat→Int} (h:PrtR w g n n L H):Row w g 0 n L H:=⟨h.1,fun k hk=>by
  have:=h.2.1 k hk
  rw [show 0+k*2=k*2 by omega]
  exact this⟩
theorem prtR_make (w:World) (n:Nat) (hn:n≤1000000):∃ w',(Instr.makeSlice 34 (.int .i64 (n:Int)) (.int .i64 (n:Int))).run Tryz.prog w=.ok (.slice (some ⟨w.heap.size,0,none⟩) n n) w'∧(∀ L H,PrtR w' w.heap.size n 0 L H)∧w.grownBy w' none:=by
  obtain ⟨i0,hi,hz0,hz1,hz2⟩:=info_parts info7
  obtain ⟨w',h1,h2,h3⟩:=run_make_full (P:=Tryz.prog) w 0 34 39 i0 (.agg #[.int .i64 0,.int .i64 0]) 2 Tryz.underlying34 hi hz0 hz1 .i64 .i64 n (by rw [hz2];omega) (by unfold maxLen;omega) (Nat.zero_le _)
  have hlt:w.heap.size<w'.heap.size:=by
    rcases h2.2 with ⟨h',_⟩|⟨g',cap',cur,h',_,hg,_⟩
    · simp at h'
    · simp only [Value.slice.injEq,Option.some.injEq,Addr.mk.injEq,and_true] at h'
      obtain ⟨rfl,_⟩:=h'
      exact (Array.getElem?_eq_some_iff.1 hg).1
  refine ⟨w',h1,fun L H=>⟨hlt,fun j hj=>absurd hj (Nat.not_lt_zero j),fun j hj=>⟨⟨.int .i64 0,?_⟩,⟨.int .i64 0,?_⟩,h2.frozenAt _,h2.frozenAt _⟩⟩,h3⟩
  · rw [h2.cellAt (j*2) (by omega)]
    have:j*2<n*2:=by omega
    have m:j*2 % 2=0:=by omega
    simp [madeCells,Value.cells,this,m]
  · rw [h2.cellAt (j*2+1) (by omega)]
    have:j*2+1<n*2:=by omega
    have m:(j*2+1) % 2=1:=by omega
    simp [madeCells,Value.cells,this,m]
theorem scl_wt {l h y:Int} (l0:0≤l) (l1:l≤h) (h1:h≤1099511627776) (y0:0≤y) (y1:y≤100) :
    (h*y≤1099511627776→scaleR l h y=((l*y,h*y),0))∧(¬ h*y≤1099511627776→scaleR l h y=((0,0),4)):=by
  have a:=Int.mul_le_mul_of_nonneg_right l1 y0
  have b:=Int.mul_nonneg l0 y0
  have e:scaleR l h y=Sp.told (l*y) (h*y):=by
    unfold scaleR
    rw [if_pos ⟨Sp.vld_iff.2 ⟨by omega,l1,h1⟩,by omega,by omega⟩,Sp.mn_eq,Sp.mx_eq,show min (l*y) (h*y)=l*y by omega,show max (l*y) (h*y)=h*y by omega]
  refine ⟨fun c=>?_,fun c=>?_⟩
  · rw [e];exact Sp.told_yes (Sp.vld_iff.2 ⟨by omega,a,c⟩)
  · rw [e];unfold Sp.told;rw [if_neg (fun v=>c (Sp.vld_iff.1 v).2.2)]
section
variable {n:Nat} {L H c:Nat→Int} (hl:∀ i,i<n→0≤L i∧L i≤H i∧H i≤1099511627776) (hc:∀ i,i<n→0≤c i∧c i≤100)
include hl hc
theorem wt_hit {k:Nat} (hk:k<n) (h:¬ H k*c k≤1099511627776):wtR L H c n=((0,0),4):=by
  have a:=sm_one (f:=fun i=>H i*c i) (n:=n) (fun i hi=>Int.mul_nonneg (by have:=hl i hi;omega) (hc i hi).1) hk
  unfold wtR Sp.told
  rw [if_neg (fun v=>h (by have:=(Sp.vld_iff.1 v).2.2;unfold wsm at this;omega))]
theorem wt_val {k:Nat} (hk:k<n) (h:H k*c k≤1099511627776):Sp.vldB (L k*c k) (H k*c k)=true:=by
  have q:=hl k hk
  have p:=hc k hk
  have a:=Int.mul_le_mul_of_nonneg_right q.2.1 p.1
  have b:=Int.mul_nonneg q.1 p.1
  exact Sp.vld_iff.2 ⟨by omega,a,h⟩
end
theorem below7 {w W:World} {g i j:Nat} {x y:Value} (h:Below w.heap.size w W) (hg:w.heap.size≤g):Below w.heap.size w ((W.setCell ⟨g,i,none⟩ x).setCell ⟨g,j,none⟩ y) :=
  (h.setCell (p:=⟨g,i,none⟩) hg _).setCell (p:=⟨g,j,none⟩) hg _
theorem wt_cells {w:World} {q b off n k:Nat} {l h y:Int} {c:Nat→Int} (hp:Pair w q l h) (hr:RowI w b off n c) (hk:k<n) (hy:c k=y) :
    w.cell? ⟨q,0,none⟩=some (.int .i64 l)∧w.cell? ⟨q,1,none⟩=some (.int .i64 h)∧w.cell? ⟨b,off+k,none⟩=some (.int .i64 y):=⟨hp.1,hp.2.1,by rw [hr.2 k hk,hy]⟩
theorem wt_cells2 {w:World} {q b off n k g:Nat} {l h y:Int} {c:Nat→Int} (hp:Pair w q l h) (hr:RowI w b off n c) (hk:k<n) (hy:c k=y) (x z:Value) (i j:Nat) (h1:g ≠ q) (h2:g ≠ b) :
    ((w.setCell ⟨g,i,none⟩ x).setCell ⟨g,j,none⟩ z).cell? ⟨q,0,none⟩=some (.int .i64 l)∧((w.setCell ⟨g,i,none⟩ x).setCell ⟨g,j,none⟩ z).cell? ⟨q,1,none⟩=some (.int .i64 h)∧((w.setCell ⟨g,i,none⟩ x).setCell ⟨g,j,none⟩ z).cell? ⟨b,off+k,none⟩=some (.int .i64 y):=by
  obtain ⟨c0,c1,c2⟩:=wt_cells hp hr hk hy
  exact ⟨by go_simp,by go_simp,by go_simp⟩
set_option maxRecDepth 100000 in
set_option maxHeartbeats 4000000 in
theorem hwt_any (b0 cap0 b1 off1 cap1 n:Nat) (L H c:Nat→Int) (w:World) (rl:Row w b0 0 n L H) (rc:RowI w b1 off1 n c) (h0:0<n) (hn:n≤96) (hl:∀ i,i<n→0≤L i∧L i≤H i∧H i≤1099511627776) (hc:∀ i,i<n→0≤c i∧c i≤100) :
    Calls Tryz.prog 108 #[.slice (some ⟨b0,0,none⟩) n cap0,.slice (some ⟨b1,off1,none⟩) n cap1] w fun e w'=>e=.returned (spr (wtR L H c n))∧Below w.heap.size w w':=by
  have hn':(n:Int)≤96:=by omega
  have HL:=Lib.hid hl
  have HC:=Lib.hid hc
  have RL:=Lib.hid rl
  have RC:=Lib.hid rc
  have l0:b0<w.heap.size:=rl.1
  have l1:b1<w.heap.size:=rc.1
  obtain ⟨res,hres⟩:∃ res,wtR L H c n=res:=⟨_,rfl⟩
  rw [hres]
  have RES:=Lib.hid hres
  obtain ⟨w1,hmk,hB,hg⟩:=prtR_make (w.alloc (.cells #[.int .i64 0,.int .i64 0] 39)) n (by omega)
  have P1:=Lib.hid (hB (fun i=>L i*c i) (fun i=>H i*c i))
  have B1:=Lib.hid (((Below.refl w.heap.size w).alloc (Nat.le_refl _) (.cells #[.int .i64 0,.int .i64 0] 39)).grown hg (by simp) (fun k hk=>by cases hk))
  have R1:=Lib.hid (pair_below (pair_new w 0 0 39) (((Below.refl _ (w.alloc (.cells #[.int .i64 0,.int .i64 0] 39))).grown hg (by simp) (fun k hk=>by cases hk))))
  have s1:=P1.out.1
  simp only [World.size_alloc] at hmk P1 s1
  clear rl rc hl hc hB hg hres
  go_enter Tryz.func108,Tryz.ntmps108
  go_wp2
  clear hmk
  go_loopw [15] (fun kv wr=>∃ k:Nat,k≤n∧kv=.int .i64 k∧(∀ j,j<k→H j*c j≤1099511627776)∧PrtR wr (w.heap.size+1) n k (fun i=>L i*c i) (fun i=>H i*c i)∧Pair wr w.heap.size 0 0∧Below w.heap.size w wr) (fun kv _=>n - (intOf kv).toNat)
  case atStart=>exact ⟨0,Nat.zero_le _,rfl,fun j hj=>absurd hj (Nat.not_lt_zero j),P1.out,R1.out,B1.out⟩
  case round =>
    obtain ⟨k,hk,rfl,good,pt,pr,bb⟩:=hrel
    have GOOD:=Lib.hid good
    have PT:=Lib.hid pt
    have PR:=Lib.hid pr
    have BB:=Lib.hid bb
    have s2:=pt.1
    clear good pt pr bb P1 R1 s1
    by_cases hlt:k<n
    · have hk1:(k:Int)<(n:Int):=by omega
      have hk0:0≤(k:Int):=by omega
      have r0:=row_below RL.out BB.out
      have r1:=rowI_below RC.out BB.out
      obtain ⟨c0,c1⟩:=r0.2 k hlt
      rw [Nat.zero_add] at c0 c1
      have c2:=r1.2 k hlt
      have R0:=Lib.hid r0
      have RI:=Lib.hid r1
      have e0:=r0.1
      have e1:=r1.1
      have q1:=HL.out k hlt
      have q2:=HC.out k hlt
      have SV:=Lib.hid (scl_wt q1.1 q1.2.1 q1.2.2 q2.1 q2.2)
      have VA:=Lib.hid (fun h:H k*c k≤1099511627776=>wt_val (L:=L) HL.out HC.out hlt h)
      have HIT:=Lib.hid (fun h:¬ H k*c k≤1099511627776=>RES.out.symm.trans (wt_hit (L:=L) HL.out HC.out hlt h))
      clear r0 r1 q1 q2
      obtain ⟨l,hl⟩:∃ l,L k=l:=⟨_,rfl⟩
      obtain ⟨h,hh⟩:∃ h,H k=h:=⟨_,rfl⟩
      obtain ⟨y,hy⟩:∃ y,c k=y:=⟨_,rfl⟩
      rw [hl] at c0 SV VA
      rw [hh] at c1 SV VA HIT
      rw [hy] at c2 SV VA HIT
      have EL:=Lib.hid hl
      have EH:=Lib.hid hh
      have EY:=Lib.hid hy
      clear hl hh hy
      obtain ⟨r,hr⟩:∃ r,scaleR l h y=r:=⟨_,rfl⟩
      rw [hr] at SV
      have SC:Hid (∀ W,Calls Tryz.prog 160 #[.agg #[.int .i64 l,.int .i64 h],.int .i64 y] W fun e w'=>e=.returned (spr r)∧Below W.heap.size W w'):=Lib.hid fun W=>hr ▸ scale_any l h y W
      clear hr
      obtain ⟨⟨u,v⟩,er⟩:=r
      have p0:=Lib.hid (pair_new wr l h 39)
      have i0:=Lib.hid (rowI_below RI.out ((Below.refl _ _).alloc (Nat.le_refl _) (.cells #[.int .i64 l,.int .i64 h] 39)))
      have pt0:=Lib.hid (prtR_below PT.out ((Below.refl _ _).alloc (Nat.le_refl _) (.cells #[.int .i64 l,.int .i64 h] 39)))
      have pr0:=Lib.hid (pair_alloc PR.out (.cells #[.int .i64 l,.int .i64 h] 39))
      have b0':=Lib.hid (balloc BB.out (.cells #[.int .i64 l,.int .i64 h] 39))
      have n1:w.heap.size+1 ≠ wr.heap.size:=by omega
      have n2:w.heap.size+1 ≠ b1:=by omega
      have i0':Hid (Pair (wr.alloc (.cells #[.int .i64 l,.int .i64 h] 39)).drew wr.heap.size l h∧RowI (wr.alloc (.cells #[.int .i64 l,.int .i64 h] 39)).drew b1 off1 n c):=Lib.hid ⟨p0.out,i0.out⟩
      have hy':c k=y:=EY.out
      clear p0 i0 R0 RI
      go_wp2_with fail
      clear c0 c1 c2
      go_region_held3 (fun w'=>w'.cell? ⟨wr.heap.size,0,none⟩=some (.int .i64 l)∧w'.cell? ⟨wr.heap.size,1,none⟩=some (.int .i64 h)∧w'.cell? ⟨b1,off1+k,none⟩=some (.int .i64 y))
        (first|(with_reducible exact wt_cells i0'.out.1 i0'.out.2 hlt hy')|(with_reducible exact wt_cells i1.out.1 i1.out.2 hlt hy')|(with_reducible exact wt_cells2 i1.out.1 i1.out.2 hlt hy' _ _ _ _ n1 n2)|fail)
        (first
          | (go_at_call 160;(with_reducible refine (SC.out _).mono ?_);rintro e v1 ⟨rfl,hv1⟩;have i1:=Lib.hid (show Pair v1 wr.heap.size l h∧RowI v1 b1 off1 n c from ⟨pair_below i0'.out.1 hv1,rowI_below i0'.out.2 hv1⟩);have pt1:=Lib.hid (prtR_below (w:=(wr.alloc (.cells #[.int .i64 l,.int .i64 h] 39)).drew) pt0.out hv1);have pr1:=Lib.hid (pair_below (w:=(wr.alloc (.cells #[.int .i64 l,.int .i64 h] 39)).drew) pr0.out hv1);have b1':=Lib.hid (bstep (w:=(wr.alloc (.cells #[.int .i64 l,.int .i64 h] 39)).drew) (Below.drew b0'.out) hv1);obtain ⟨⟨_,g0⟩,⟨_,g1⟩,g2,g3⟩:=pt1.out.2.2 k hlt;have g4:=pt1.out.1;clear hv1)
          | fail)
      all_goals
        have gw:w.heap.size+1 ≠ w.heap.size:=by omega
        obtain ⟨z0,z1,z2,z3,z4⟩:=pr1.out
        have s3:=b1'.out.size
        by_cases z:h*y≤1099511627776
        · have e:=SV.out.1 z
          simp only [Prod.mk.injEq] at e
          obtain ⟨⟨rfl,rfl⟩,rfl⟩:=e
          go_wp2
          go_roundw
          case rel =>
            refine ⟨k+1,by omega,by go_num,fun j hj=>?_,prtR_set pt1.out hlt (by rw [EL.out,EY.out]) (by rw [EH.out,EY.out]),⟨by go_simp,by go_simp,by go_simp,by go_simp,by simpa using z4⟩,below7 b1'.out (by omega)⟩
            by_cases e:j=k
            · subst e;rw [EH.out,EY.out];exact z
            · exact GOOD.out j (by omega)
          case measure=>simp [intOf];omega
        · have e:=SV.out.2 (by omega)
          simp only [Prod.mk.injEq] at e
          obtain ⟨⟨rfl,rfl⟩,rfl⟩:=e
          obtain rfl:=HIT.out (by omega)
          have hB:=below7 (g:=w.heap.size+1) (i:=k*2) (j:=k*2+1) (x:=.int .i64 0) (y:=.int .i64 0) b1'.out (by omega)
          go_wp2
          refine bodyPost_ret (v:=spr ((0,0),4)) (by rw [results_cell_tmp rfl];go_simp) rfl ⟨rfl,?_⟩
          (repeat' (first|with_reducible exact hB|with_reducible refine Below.drew ?_|(with_reducible refine Below.setCell ?_ (by simp <;> omega) _)))
    · obtain rfl:k=n:=by omega
      have hf:res=sumR (wsm L c k) (wsm H c k) 0:=RES.out.symm.trans rfl
      have T1:TotC 173 (some ⟨w.heap.size+1,0,none⟩) k k (wsm L c k) (wsm H c k) 0 wr:=fun W B=>total_ok (w.heap.size+1) 0 k k (fun i=>L i*c i) (fun i=>H i*c i) W (row_below (prtR_row PT.out) B) (by omega) (fun i hi=>wt_val (L:=L) HL.out HC.out hi (GOOD.out i hi))
      have S1:Hid (Calls Tryz.prog 161 #[.slice (some ⟨w.heap.size+1,0,none⟩) k k] wr fun e w'=>e=.returned (spr res)∧Below wr.heap.size wr w'):=Lib.hid (by rw [hf];exact sum_any (some ⟨w.heap.size+1,0,none⟩) k k (wsm L c k) (wsm H c k) 0 wr wr (Lib.hid T1) (Below.refl _ _))
      clear T1 hf
      obtain ⟨⟨ru,rv⟩,rz⟩:=res
      go_wp2_with fail
      with_reducible refine S1.out.mono ?_
      rintro e w6 ⟨rfl,hb6⟩
      obtain ⟨z0,z1,z2,z3,z4⟩:=pair_below PR.out hb6
      have hB:=bstep BB.out hb6
      go_wp2
      refine bodyPost_ret (v:=spr ((ru,rv),rz)) (by rw [results_cell_tmp rfl];go_simp) rfl ⟨rfl,?_⟩
      (repeat' (first|with_reducible exact hB|with_reducible refine Below.drew ?_|(with_reducible refine Below.setCell ?_ (by simp <;> omega) _)))
end Go.Proofs.YtbcjiigmbcfkeaaGreat
