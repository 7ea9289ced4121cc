import Derived.Test.YtbcjiigmbcfkeaaGreatHoMa
import Derived.Test.YtbcjiigmbcfkeaaGreatScM
import Derived.Test.YtbcjiigmbcfkeaaGreatSumM
import Derived.Test.YtbcjiigmbcfkeaaGreatSoMb
import Derived.RegionTactic
import Derived.BigRegion
import Derived.Deep.RegionHeld3
import Derived.Test.YtbcjiigmbcfkeaaGreatFgMi
import Derived.Test.YtbcjiigmbcfkeaaGreatShN
import Derived.Deep.RegionLaw
namespace Go.Proofs.YtbcjiigmbcfkeaaGreat
open Go.Lib (hid)
set_option maxRecDepth 100000
set_option maxHeartbeats 4000000
open Go.ChangeShapes Go.WideShapes Go.RowKit
open Sh
theorem info7:(Tryz.prog.info? 39).map (fun i=>(i.zero,i.size,i.bytes))=some (some (.agg #[.int .i64 0,.int .i64 0]),2,16):=by kernel_rfl
def PrtR (w:World) (g n k:Nat) (L H:Nat->Int):Prop:=g<w.heap.size/\(∀ j,j<k->w.cell? ⟨g,j*2,none⟩=some (.int .i64 (L j))/\w.cell? ⟨g,j*2+1,none⟩=some (.int .i64 (H j))) /\
  (∀ j,j<n->(∃ u,w.cell? ⟨g,j*2,none⟩=some u)/\(∃ u,w.cell? ⟨g,j*2+1,none⟩=some u)/\w.frozen? ⟨g,j*2,none⟩=false/\w.frozen? ⟨g,j*2+1,none⟩=false)
theorem prtR_below {w w1:World} {g n k:Nat} {L H:Nat->Int} (h:PrtR w g n k L H) (hb:Below w.heap.size w w1):PrtR w1 g n k L H:=by
  refine ⟨Nat.lt_of_lt_of_le h.1 hb.size,fun j hj=>⟨(hb.cell (p:=⟨g,_,none⟩) h.1).trans (h.2.1 j hj).1,(hb.cell (p:=⟨g,_,none⟩) h.1).trans (h.2.1 j hj).2⟩,fun j hj=>?_⟩
  obtain ⟨⟨u,a⟩,⟨v,b⟩,c,d⟩:=h.2.2 j hj
  exact ⟨⟨u,(hb.cell (p:=⟨g,_,none⟩) h.1).trans a⟩,⟨v,(hb.cell (p:=⟨g,_,none⟩) h.1).trans b⟩,(hb.frozen (p:=⟨g,_,none⟩) h.1).trans c,(hb.frozen (p:=⟨g,_,none⟩) h.1).trans d⟩
theorem prtR_set {w:World} {g n k:Nat} {L H:Nat->Int} (h:PrtR w g n k L H) (hk:k<n) {x y:Int} (hx:L k=x) (hy:H k=y) :
    PrtR ((w.setCell ⟨g,k*2,none⟩ (.int .i64 x)).setCell ⟨g,k*2+1,none⟩ (.int .i64 y)) g n (k+1) L H:=by
  obtain ⟨⟨u,a⟩,⟨v,b⟩,c,d⟩:=h.2.2 k hk
  refine ⟨by simpa using h.1,fun j hj=>?_,fun j hj=>?_⟩
  · by_cases e:j=k
    · subst e
      rw [hx,hy]
      have e1:¬ (j*2+1=j*2):=by omega
      exact ⟨by go_simp,by go_simp⟩
    · obtain ⟨p,q⟩:=h.2.1 j (by omega)
      have e1:¬ (k*2=j*2):=by omega
      have e2:¬ (k*2+1=j*2):=by omega
      have e3:¬ (k*2=j*2+1):=by omega
      have e4:¬ (k*2+1=j*2+1):=by omega
      exact ⟨by go_simp,by go_simp⟩
  · obtain ⟨⟨u',a'⟩,⟨v',b'⟩,c',d'⟩:=h.2.2 j hj
    by_cases e:j=k
    · subst e
      have e1:¬ (j*2+1=j*2):=by omega
      exact ⟨⟨.int .i64 x,by go_simp⟩,⟨.int .i64 y,by go_simp⟩,by go_simp,by go_simp⟩
    · have e1:¬ (k*2=j*2):=by omega
      have e2:¬ (k*2+1=j*2):=by omega
      have e3:¬ (k*2=j*2+1):=by omega
      have e4:¬ (k*2+1=j*2+1):=by omega
      exact ⟨⟨u',by go_simp⟩,⟨v',by go_simp⟩,by go_simp,by go_simp⟩
theorem prtR_row {w:World} {g n:Nat} {L H:Nat->Int} (h:PrtR w g n n L H):Row w g 0 n L H:=⟨h.1,fun k hk=>by
  have:=h.2.1 k hk
  rw [show 0+k*2=k*2 by omega]
  exact this⟩
theorem prtR_make (w:World) (n:Nat) (hn:n<=1000000):∃ w',(Instr.makeSlice 34 (.int .i64 (n:Int)) (.int .i64 (n:Int))).run Tryz.prog w=.ok (.slice (some ⟨w.heap.size,0,none⟩) n n) w'/\(∀ L H,PrtR w' w.heap.size n 0 L H)/\w.grownBy w' none:=by
  obtain ⟨i0,hi,hz0,hz1,hz2⟩:=info_parts info7
  obtain ⟨w',h1,h2,h3⟩:=run_make_full (P:=Tryz.prog) w 0 34 39 i0 (.agg #[.int .i64 0,.int .i64 0]) 2 Tryz.underlying34 hi hz0 hz1 .i64 .i64 n (by rw [hz2];omega) (by unfold maxLen;omega) (Nat.zero_le _)
  have hlt:w.heap.size<w'.heap.size:=by
    rcases h2.2 with ⟨h',_⟩|⟨g',cap',cur,h',_,hg,_⟩
    · simp at h'
    · simp only [Value.slice.injEq,Option.some.injEq,Addr.mk.injEq,and_true] at h'
      obtain ⟨rfl,_⟩:=h'
      exact (Array.getElem?_eq_some_iff.1 hg).1
  refine ⟨w',h1,fun L H=>⟨hlt,fun j hj=>absurd hj (Nat.not_lt_zero j),fun j hj=>⟨⟨.int .i64 0,?_⟩,⟨.int .i64 0,?_⟩,h2.frozenAt _,h2.frozenAt _⟩⟩,h3⟩
  · rw [h2.cellAt (j*2) (by omega)]
    have:j*2<n*2:=by omega
    have m:j*2 % 2=0:=by omega
    simp [madeCells,Value.cells,this,m]
  · rw [h2.cellAt (j*2+1) (by omega)]
    have:j*2+1<n*2:=by omega
    have m:(j*2+1) % 2=1:=by omega
    simp [madeCells,Value.cells,this,m]
theorem scl_wt {l h y:Int} (l0:0<=l) (l1:l<=h) (h1:h<=1099511627776) (y0:0<=y) (y1:y<=100) :
    (h*y<=1099511627776->scaleR l h y=((l*y,h*y),0))/\(¬ h*y<=1099511627776->scaleR l h y=((0,0),4)):=by
  have a:=Int.mul_le_mul_of_nonneg_right l1 y0
  have b:=Int.mul_nonneg l0 y0
  have e:scaleR l h y=Sp.told (l*y) (h*y):=by
    unfold scaleR
    rw [if_pos ⟨Sp.vld_iff.2 ⟨by omega,l1,h1⟩,by omega,by omega⟩,Sp.mn_eq,Sp.mx_eq,show min (l*y) (h*y)=l*y by omega,show max (l*y) (h*y)=h*y by omega]
  refine ⟨fun c=>?_,fun c=>?_⟩
  · rw [e];exact Sp.told_yes (Sp.vld_iff.2 ⟨by omega,a,c⟩)
  · rw [e];unfold Sp.told;rw [if_neg (fun v=>c (Sp.vld_iff.1 v).2.2)]
section
variable {n:Nat} {L H c:Nat->Int} (hl:∀ i,i<n->0<=L i/\L i<=H i/\H i<=1099511627776) (hc:∀ i,i<n->0<=c i/\c i<=100)
include hl hc
theorem wt_hit {k:Nat} (hk:k<n) (h:¬ H k*c k<=1099511627776):wtR L H c n=((0,0),4):=by
  have a:=sm_one (f:=fun i=>H i*c i) (n:=n) (fun i hi=>Int.mul_nonneg (by have:=hl i hi;omega) (hc i hi).1) hk
  unfold wtR Sp.told
  rw [if_neg (fun v=>h (by have:=(Sp.vld_iff.1 v).2.2;unfold wsm at this;omega))]
theorem wt_val {k:Nat} (hk:k<n) (h:H k*c k<=1099511627776):Sp.vldB (L k*c k) (H k*c k)=true:=by
  have q:=hl k hk
  have p:=hc k hk
  have a:=Int.mul_le_mul_of_nonneg_right q.2.1 p.1
  have b:=Int.mul_nonneg q.1 p.1
  exact Sp.vld_iff.2 ⟨by omega,a,h⟩
end
theorem below7 {w W:World} {g i j:Nat} {x y:Value} (h:Below w.heap.size w W) (hg:w.heap.size<=g):Below w.heap.size w ((W.setCell ⟨g,i,none⟩ x).setCell ⟨g,j,none⟩ y) :=
  (h.setCell (p:=⟨g,i,none⟩) hg _).setCell (p:=⟨g,j,none⟩) hg _
theorem wt_cells {w:World} {q b off n k:Nat} {l h y:Int} {c:Nat->Int} (hp:Pair w q l h) (hr:RowI w b off n c) (hk:k<n) (hy:c k=y) :
    w.cell? ⟨q,0,none⟩=some (.int .i64 l)/\w.cell? ⟨q,1,none⟩=some (.int .i64 h)/\w.cell? ⟨b,off+k,none⟩=some (.int .i64 y):=⟨hp.1,hp.2.1,by rw [hr.2 k hk,hy]⟩
theorem wt_cells2 {w:World} {q b off n k g:Nat} {l h y:Int} {c:Nat->Int} (hp:Pair w q l h) (hr:RowI w b off n c) (hk:k<n) (hy:c k=y) (x z:Value) (i j:Nat) (h1:g ≠ q) (h2:g ≠ b) :
    ((w.setCell ⟨g,i,none⟩ x).setCell ⟨g,j,none⟩ z).cell? ⟨q,0,none⟩=some (.int .i64 l)/\((w.setCell ⟨g,i,none⟩ x).setCell ⟨g,j,none⟩ z).cell? ⟨q,1,none⟩=some (.int .i64 h)/\((w.setCell ⟨g,i,none⟩ x).setCell ⟨g,j,none⟩ z).cell? ⟨b,off+k,none⟩=some (.int .i64 y):=by
  obtain ⟨c0,c1,c2⟩:=wt_cells hp hr hk hy
  exact ⟨by go_simp,by go_simp,by go_simp⟩
theorem hwt_any (b0 cap0 b1 off1 cap1 n:Nat) (L H c:Nat->Int) (w:World) (rl:Row w b0 0 n L H) (rc:RowI w b1 off1 n c) (h0:0<n) (hn:n<=96) (hl:∀ i,i<n->0<=L i/\L i<=H i/\H i<=1099511627776) (hc:∀ i,i<n->0<=c i/\c i<=100) :
    Calls Tryz.prog 108 #[.slice (some ⟨b0,0,none⟩) n cap0,.slice (some ⟨b1,off1,none⟩) n cap1] w fun e w'=>e=.returned (spr (wtR L H c n))/\Below w.heap.size w w':=by
  have hn':(n:Int)<=96:=by omega
  have HL:=hid hl
  have HC:=hid hc
  have RL:=hid rl
  have RC:=hid rc
  have l0:b0<w.heap.size:=rl.1
  have l1:b1<w.heap.size:=rc.1
  obtain ⟨res,hres⟩:∃ res,wtR L H c n=res:=⟨_,rfl⟩
  rw [hres]
  have RES:=hid hres
  obtain ⟨w1,hmk,hB,hg⟩:=prtR_make (w.alloc (.cells #[.int .i64 0,.int .i64 0] 39)) n (by omega)
  have P1:=hid (hB (fun i=>L i*c i) (fun i=>H i*c i))
  have B1:=hid (((Below.refl w.heap.size w).alloc (Nat.le_refl _) (.cells #[.int .i64 0,.int .i64 0] 39)).grown hg (by simp) (fun k hk=>by cases hk))
  have R1:=hid (pair_below (pair_new w 0 0 39) (((Below.refl _ (w.alloc (.cells #[.int .i64 0,.int .i64 0] 39))).grown hg (by simp) (fun k hk=>by cases hk))))
  have s1:=P1.out.1
  simp only [World.size_alloc] at hmk P1 s1
  clear rl rc hl hc hB hg hres
  go_enter Tryz.func108,Tryz.ntmps108
  go_wp2
  clear hmk
  go_loopw [15] (fun kv wr=>∃ k:Nat,k<=n/\kv=.int .i64 k/\(∀ j,j<k->H j*c j<=1099511627776)/\PrtR wr (w.heap.size+1) n k (fun i=>L i*c i) (fun i=>H i*c i)/\Pair wr w.heap.size 0 0/\Below w.heap.size w wr) (fun kv _=>n - (intOf kv).toNat)
  case atStart=>exact ⟨0,Nat.zero_le _,rfl,fun j hj=>absurd hj (Nat.not_lt_zero j),P1.out,R1.out,B1.out⟩
  case round =>
    obtain ⟨k,hk,rfl,good,pt,pr,bb⟩:=hrel
    have GOOD:=hid good
    have PT:=hid pt
    have PR:=hid pr
    have BB:=hid bb
    have s2:=pt.1
    clear good pt pr bb P1 R1 s1
    by_cases hlt:k<n
    · have hk1:(k:Int)<(n:Int):=by omega
      have hk0:0<=(k:Int):=by omega
      have r0:=row_below RL.out BB.out
      have r1:=rowI_below RC.out BB.out
      obtain ⟨c0,c1⟩:=r0.2 k hlt
      rw [Nat.zero_add] at c0 c1
      have c2:=r1.2 k hlt
      have R0:=hid r0
      have RI:=hid r1
      have e0:=r0.1
      have e1:=r1.1
      have q1:=HL.out k hlt
      have q2:=HC.out k hlt
      have SV:=hid (scl_wt q1.1 q1.2.1 q1.2.2 q2.1 q2.2)
      have VA:=hid (fun h:H k*c k<=1099511627776=>wt_val (L:=L) HL.out HC.out hlt h)
      have HIT:=hid (fun h:¬ H k*c k<=1099511627776=>RES.out.symm.trans (wt_hit (L:=L) HL.out HC.out hlt h))
      clear r0 r1 q1 q2
      obtain ⟨l,hl⟩:∃ l,L k=l:=⟨_,rfl⟩
      obtain ⟨h,hh⟩:∃ h,H k=h:=⟨_,rfl⟩
      obtain ⟨y,hy⟩:∃ y,c k=y:=⟨_,rfl⟩
      rw [hl] at c0 SV VA
      rw [hh] at c1 SV VA HIT
      rw [hy] at c2 SV VA HIT
      have EL:=hid hl
      have EH:=hid hh
      have EY:=hid hy
      clear hl hh hy
      obtain ⟨r,hr⟩:∃ r,scaleR l h y=r:=⟨_,rfl⟩
      rw [hr] at SV
      have SC:Hid (∀ W,Calls Tryz.prog 160 #[.agg #[.int .i64 l,.int .i64 h],.int .i64 y] W fun e w'=>e=.returned (spr r)/\Below W.heap.size W w'):=hid fun W=>hr ▸ scale_any l h y W
      clear hr
      obtain ⟨⟨u,v⟩,er⟩:=r
      have p0:=hid (pair_new wr l h 39)
      have i0:=hid (rowI_below RI.out ((Below.refl _ _).alloc (Nat.le_refl _) (.cells #[.int .i64 l,.int .i64 h] 39)))
      have pt0:=hid (prtR_below PT.out ((Below.refl _ _).alloc (Nat.le_refl _) (.cells #[.int .i64 l,.int .i64 h] 39)))
      have pr0:=hid (pair_alloc PR.out (.cells #[.int .i64 l,.int .i64 h] 39))
      have b0':=hid (balloc BB.out (.cells #[.int .i64 l,.int .i64 h] 39))
      have n1:w.heap.size+1 ≠ wr.heap.size:=by omega
      have n2:w.heap.size+1 ≠ b1:=by omega
      have i0':Hid (Pair (wr.alloc (.cells #[.int .i64 l,.int .i64 h] 39)).drew wr.heap.size l h/\RowI (wr.alloc (.cells #[.int .i64 l,.int .i64 h] 39)).drew b1 off1 n c):=hid ⟨p0.out,i0.out⟩
      have hy':c k=y:=EY.out
      clear p0 i0 R0 RI
      go_wp2_with fail
      clear c0 c1 c2
      go_region_held3 (fun w'=>w'.cell? ⟨wr.heap.size,0,none⟩=some (.int .i64 l)/\w'.cell? ⟨wr.heap.size,1,none⟩=some (.int .i64 h)/\w'.cell? ⟨b1,off1+k,none⟩=some (.int .i64 y))
        (first|(with_reducible exact wt_cells i0'.out.1 i0'.out.2 hlt hy')|(with_reducible exact wt_cells i1.out.1 i1.out.2 hlt hy')|(with_reducible exact wt_cells2 i1.out.1 i1.out.2 hlt hy' _ _ _ _ n1 n2)|fail)
        (first
         |(go_at_call 160;(with_reducible refine (SC.out _).mono ?_);rintro e v1 ⟨rfl,hv1⟩;have i1:=hid (show Pair v1 wr.heap.size l h/\RowI v1 b1 off1 n c from ⟨pair_below i0'.out.1 hv1,rowI_below i0'.out.2 hv1⟩);have pt1:=hid (prtR_below (w:=(wr.alloc (.cells #[.int .i64 l,.int .i64 h] 39)).drew) pt0.out hv1);have pr1:=hid (pair_below (w:=(wr.alloc (.cells #[.int .i64 l,.int .i64 h] 39)).drew) pr0.out hv1);have b1':=hid (bstep (w:=(wr.alloc (.cells #[.int .i64 l,.int .i64 h] 39)).drew) (Below.drew b0'.out) hv1);obtain ⟨⟨_,g0⟩,⟨_,g1⟩,g2,g3⟩:=pt1.out.2.2 k hlt;have g4:=pt1.out.1;clear hv1)
          | fail)
      all_goals
        have gw:w.heap.size+1 ≠ w.heap.size:=by omega
        obtain ⟨z0,z1,z2,z3,z4⟩:=pr1.out
        have s3:=b1'.out.size
        by_cases z:h*y<=1099511627776
        · have e:=SV.out.1 z
          simp only [Prod.mk.injEq] at e
          obtain ⟨⟨rfl,rfl⟩,rfl⟩:=e
          go_wp2
          go_roundw
          case rel =>
            refine ⟨k+1,by omega,by go_num,fun j hj=>?_,prtR_set pt1.out hlt (by rw [EL.out,EY.out]) (by rw [EH.out,EY.out]),⟨by go_simp,by go_simp,by go_simp,by go_simp,by simpa using z4⟩,below7 b1'.out (by omega)⟩
            by_cases e:j=k
            · subst e;rw [EH.out,EY.out];exact z
            · exact GOOD.out j (by omega)
          case measure=>simp [intOf];omega
        · have e:=SV.out.2 (by omega)
          simp only [Prod.mk.injEq] at e
          obtain ⟨⟨rfl,rfl⟩,rfl⟩:=e
          obtain rfl:=HIT.out (by omega)
          have hB:=below7 (g:=w.heap.size+1) (i:=k*2) (j:=k*2+1) (x:=.int .i64 0) (y:=.int .i64 0) b1'.out (by omega)
          go_wp2
          refine bodyPost_ret (v:=spr ((0,0),4)) (by rw [results_cell_tmp rfl];go_simp) rfl ⟨rfl,?_⟩
          (repeat' (first|with_reducible exact hB|with_reducible refine Below.drew ?_|(with_reducible refine Below.setCell ?_ (by simp<;>omega) _)))
    · obtain rfl:k=n:=by omega
      have hf:res=sumR (wsm L c k) (wsm H c k) 0:=RES.out.symm.trans rfl
      have T1:TotC 173 (some ⟨w.heap.size+1,0,none⟩) k k (wsm L c k) (wsm H c k) 0 wr:=fun W B=>total_ok (w.heap.size+1) 0 k k (fun i=>L i*c i) (fun i=>H i*c i) W (row_below (prtR_row PT.out) B) (by omega) (fun i hi=>wt_val (L:=L) HL.out HC.out hi (GOOD.out i hi))
      have S1:Hid (Calls Tryz.prog 161 #[.slice (some ⟨w.heap.size+1,0,none⟩) k k] wr fun e w'=>e=.returned (spr res)/\Below wr.heap.size wr w'):=hid (by rw [hf];exact sum_any (some ⟨w.heap.size+1,0,none⟩) k k (wsm L c k) (wsm H c k) 0 wr wr (hid T1) (Below.refl _ _))
      clear T1 hf
      obtain ⟨⟨ru,rv⟩,rz⟩:=res
      go_wp2_with fail
      with_reducible refine S1.out.mono ?_
      rintro e w6 ⟨rfl,hb6⟩
      obtain ⟨z0,z1,z2,z3,z4⟩:=pair_below PR.out hb6
      have hB:=bstep BB.out hb6
      go_wp2
      refine bodyPost_ret (v:=spr ((ru,rv),rz)) (by rw [results_cell_tmp rfl];go_simp) rfl ⟨rfl,?_⟩
      (repeat' (first|with_reducible exact hB|with_reducible refine Below.drew ?_|(with_reducible refine Below.setCell ?_ (by simp<;>omega) _)))
theorem h7sp2 (w:World) (b:Nat) (x y:Int) (t:TypeId) (hb:b=w.heap.size):∀ j u,([.int .i64 x,.int .i64 y]:List Value)[j]?=some u->(w.alloc (.cells #[.int .i64 x,.int .i64 y] t)).cell? ((⟨b,0,none⟩:Addr).add j)=some u:=by
  subst hb
  exact sp2_new w x y t
def lsF (g:Nat->Int × Int):Nat->List (Int × Int)
 |0=>[]
 |k+1=>lsF g k ++ [g k]
theorem lsF_len (g:Nat->Int × Int):∀ k,(lsF g k).length=k
 |0=>rfl
 |k+1=>by show (lsF g k ++ [g k]).length=_;rw [List.length_append,lsF_len g k];rfl
theorem lsF_at (g:Nat->Int × Int) {k:Nat}:∀ {n:Nat},k<n->(lsF g n).getD k (0,0)=g k
 |n+1,h=>by
    show (lsF g n ++ [g n]).getD k (0,0)=g k
    rw [List.getD_eq_getElem?_getD]
    by_cases e:k=n
    · subst e
      rw [List.getElem?_append_right (by rw [lsF_len];omega),lsF_len,Nat.sub_self]
      rfl
    · rw [List.getElem?_append_left (by rw [lsF_len];omega),← List.getD_eq_getElem?_getD]
      exact lsF_at g (by omega)
theorem row_ext {w:World} {b off n:Nat} {l h l' h':Nat->Int} (r:Row w b off n l h) (e:∀ k,k<n->l k=l' k/\h k=h' k):Row w b off n l' h' :=
  ⟨r.1,fun k hk=>by rw [← (e k hk).1,← (e k hk).2];exact r.2 k hk⟩
theorem row_lsF {w:World} {base n:Nat} {v:Value} {g:Nat->Int × Int} (h:w.ownsRow base 39 2 v n (svs (lsF g n))) (h0:0<n):∃ q cap,v=.slice (some ⟨q,0,none⟩) n cap/\Row w q 0 n (fun k=>(g k).1) (fun k=>(g k).2):=by
  obtain ⟨q,cap,rfl⟩:=own_slice8 h h0
  exact ⟨q,cap,rfl,row_ext (row_of8 h (lsF_len g n)) fun k hk=>by rw [lsF_at g hk];exact ⟨rfl,rfl⟩⟩
def TabM (w:World) (g n:Nat) (f:Nat->Nat->Int × Int):Prop:=g<w.heap.size/\∀ j,j<n->∃ b cap,g<b/\w.cell? ⟨g,j,none⟩=some (.slice (some ⟨b,0,none⟩) n cap)/\Row w b 0 n (fun i=>(f j i).1) (fun i=>(f j i).2)
theorem tabM_below {w w1:World} {g n:Nat} {f:Nat->Nat->Int × Int} (h:TabM w g n f) (hb:Below w.heap.size w w1):TabM w1 g n f:=by
  refine ⟨Nat.lt_of_lt_of_le h.1 hb.size,fun j hj=>?_⟩
  obtain ⟨b,cap,l,c,r⟩:=h.2 j hj
  exact ⟨b,cap,l,(hb.cell (p:=⟨g,j,none⟩) h.1).trans c,row_below r hb⟩
theorem tabM_set {w:World} {g n p:Nat} {f:Nat->Nat->Int × Int} (h:TabM w g n f) (hp:p<g) (i:Nat) (v:Value):TabM (w.setCell ⟨p,i,none⟩ v) g n f:=by
  refine ⟨by simpa using h.1,fun j hj=>?_⟩
  obtain ⟨b,cap,l,c,r1,r2⟩:=h.2 j hj
  have e1:¬ (p=g):=by omega
  have e2:¬ (p=b):=by omega
  refine ⟨b,cap,l,by go_simp,by simpa using r1,fun k hk=>?_⟩
  obtain ⟨c0,c1⟩:=r2 k hk
  simp only [Nat.zero_add] at c0 c1 ⊢
  exact ⟨by go_simp,by go_simp⟩
theorem pt_ok {n:Nat} {f:Nat->Nat->Int × Int} {c:Nat->Int} (t:TB n f) (hn:n<=96) (hc:∀ i,i<n->0<=c i/\c i<=100) {j:Nat} (hj:j<n) :
    wtR (fun i=>(f j i).1) (fun i=>(f j i).2) c n=((ptL f c n j,ptH f c n j),0)/\0<=ptL f c n j/\ptL f c n j<=ptH f c n j/\ptH f c n j<=644245113600:=by
  have a:=pt_lo t hc hj
  have b:=pt_le t hc hj
  have d:=pt_hi t hc hj
  have e:=ch_sm hn hc
  have q:ptH f c n j<=644245113600:=by omega
  have q0:0<=ptL f c n j:=by omega
  exact ⟨Sp.told_yes (Sp.vld_iff.2 (show -1099511627776<=ptL f c n j/\ptL f c n j<=ptH f c n j/\ptH f c n j<=1099511627776 from ⟨by omega,b,by omega⟩)),q0,b,q⟩
theorem hpt_any (g0 cap0 b1 off1 cap1 n:Nat) (f:Nat->Nat->Int × Int) (c:Nat->Int) (w:World) (rt:TabM w g0 n f) (rc:RowI w b1 off1 n c) (h0:0<n) (hn:n<=96) (tb:TB n f) (hc:∀ i,i<n->0<=c i/\c i<=100) :
    Calls Tryz.prog 56 #[.slice (some ⟨g0,0,none⟩) n cap0,.slice (some ⟨b1,off1,none⟩) n cap1] w fun e w'=>∃ q cap,e=.returned (.tuple #[.slice (some ⟨q,0,none⟩) n cap,.int .i64 0])/\Row w' q 0 n (ptL f c n) (ptH f c n)/\Below w.heap.size w w':=by
  obtain ⟨i0,hi,hz0,hz1,hz2⟩:=info_parts infoSp8
  have HI:=hid hi
  have HZ0:=hid hz0
  have HZ1:=hid hz1
  have HZ2:=hid hz2
  have hn':(n:Int)<=96:=by omega
  have RT:=hid rt
  have RC:=hid rc
  have TBH:=hid tb
  have HC:=hid hc
  obtain ⟨g,hg⟩:∃ g:Nat->Int × Int,g=fun j=>(ptL f c n j,ptH f c n j):=⟨_,rfl⟩
  have G:=hid hg
  clear hi hz0 hz1 hz2 rt rc tb hc hg
  go_enter Tryz.func56,Tryz.ntmps56
  go_wp2
  go_loopw [6,13] (fun sv kv wr=>∃ k:Nat,k<=n/\kv=.int .i64 k/\wr.ownsRow w.heap.size 39 2 sv k (svs (lsF g k))/\Below w.heap.size w wr) (fun _ kv _=>n - (intOf kv).toNat)
  case atStart=>exact ⟨0,Nat.zero_le _,rfl,World.ownsRow_nil _ _ _ _,Below.refl _ _⟩
  case round =>
    obtain ⟨k,hk,rfl,how,hbb⟩:=hrel
    have ROW:=hid how
    have BB:=hid hbb
    have szw:=hbb.size
    clear how hbb
    by_cases hlt:k<n
    · have hk1:(k:Int)<(n:Int):=by omega
      have hk0:0<=(k:Int):=by omega
      have t0:=tabM_below RT.out BB.out
      have r1:=rowI_below RC.out BB.out
      obtain ⟨b,cap,_,c0,rw0⟩:=t0.2 k hlt
      have l0:=t0.1
      have q:=pt_ok TBH.out hn HC.out hlt
      have W5:=hid (hwt_any b cap b1 off1 cap1 n (fun i=>(f k i).1) (fun i=>(f k i).2) c wr rw0 r1 h0 hn (fun i hi=>by have:=TBH.out k i hlt hi;omega) HC.out)
      rw [q.1] at W5
      have GK:Hid (g k=(ptL f c n k,ptH f c n k)):=hid (by rw [G.out])
      have GS:=hid (show lsF g (k+1)=lsF g k ++ [g k] from rfl)
      clear t0 r1 rw0 q
      generalize ptL f c n k=u at *
      generalize ptH f c n k=v at *
      go_wp2_with fail
      with_reducible refine W5.out.mono ?_
      rintro e w5 ⟨rfl,hb5⟩
      have BW:=hid (BB.out.trans (hb5.mono szw))
      have ROWd:=hid (own_below9 ROW.out hb5)
      have sz5:=BW.out.size
      clear hb5 ROW c0 W5
      obtain ⟨e0,e1,e2,e3,el⟩:=pair_new w5 u v 39
      have ROWc:=hid (ROWd.out.alloc (.cells #[.int .i64 u,.int .i64 v] 39))
      have hm60:k+1<=96:=by omega
      go_wp2_with (at_builtin;(refine wpList_append_own _ rfl _ _ 34 rfl w.heap.size 39 i0 (.agg #[.int .i64 0,.int .i64 0]) 2 16 Tryz.underlying34 HI.out HZ0.out HZ1.out HZ2.out rfl (by decide) _ k (svs (lsF g k)) rfl (ROWc.out.alloc _) ⟨_,0,none⟩ 1 1 [.int .i64 u,.int .i64 v] rfl rfl (h7sp2 _ _ _ _ _ (by simp)) (by intro u hu;simp at hu;rcases hu with rfl|rfl<;>rfl) (by unfold maxLen;omega) (by omega) (by simp;omega) ?_);intro v' w7 hown' hgrow _;have OW:=hid hown';have GR:=hid hgrow;clear hown' hgrow)
      have BG:=hid (BW.out.trans ((((Below.refl w.heap.size w5).alloc (by omega) _).alloc (by simp;omega) _).grown GR.out (by simp;omega) (fun gg hg=>(ROWd.out.lt gg hg).1)))
      go_roundw
      case rel=>exact ⟨k+1,by omega,by go_num,by rw [GS.out,GK.out,← svs_snoc];exact OW.out,BG.out⟩
      case measure=>simp [intOf];omega
    · obtain rfl:k=n:=by omega
      obtain ⟨q,cap,rfl,rr⟩:=row_lsF ROW.out h0
      have RR:Hid (Row wr q 0 k (ptL f c k) (ptH f c k)):=hid (by rw [G.out] at rr;exact rr)
      clear rr
      have hB:=BB.out
      go_wp2
      go_ret2
      exact ⟨q,cap,rfl,RR.out,hB⟩
theorem hen_any (g0 cap0 b1 off1 cap1 n:Nat) (f:Nat->Nat->Int × Int) (c:Nat->Int) (w:World) (rt:TabM w g0 n f) (rc:RowI w b1 off1 n c) (h0:0<n) (hn:n<=96) (tb:TB n f) (hc:∀ i,i<n->0<=c i/\c i<=100) :
    Calls Tryz.prog 63 #[.slice (some ⟨g0,0,none⟩) n cap0,.slice (some ⟨b1,off1,none⟩) n cap1] w fun e w'=>e=.returned (spr (enR f c n))/\Below w.heap.size w w':=by
  have PT:=hid (fun W (B:Below w.heap.size w W)=>hpt_any g0 cap0 b1 off1 cap1 n f c W (tabM_below rt B) (rowI_below rc B) h0 hn tb hc)
  have WT:=hid (fun q cap W (B:Below w.heap.size w W) (r:Row W q 0 n (ptL f c n) (ptH f c n))=>hwt_any q cap b1 off1 cap1 n (ptL f c n) (ptH f c n) c W r (rowI_below rc B) h0 hn (fun i hi=>by have:=pt_ok tb hn hc hi;omega) hc)
  have R0:=hid (pair_new w 0 0 39)
  have B0:=hid (show Below w.heap.size w (w.alloc (.cells #[.int .i64 0,.int .i64 0] 39)) from balloc (Below.refl _ w) _)
  show Calls _ _ _ _ fun e w'=>e=.returned (spr (wtR (ptL f c n) (ptH f c n) c n))/\_
  generalize wtR (ptL f c n) (ptH f c n) c n=r at *
  obtain ⟨⟨ru,rv⟩,rz⟩:=r
  clear rt rc tb hc
  go_enter Tryz.func63,Tryz.ntmps63
  go_wp2_with fail
  with_reducible refine (PT.out _ B0.out).mono ?_
  rintro e w1 ⟨q,cap,rfl,rr,hb1⟩
  have R1:=hid (pair_below R0.out hb1)
  have B1:=hid (bstep B0.out hb1)
  have W1:=hid (WT.out q cap w1 B1.out rr)
  clear hb1 rr PT WT
  go_wp2_with fail
  with_reducible refine W1.out.mono ?_
  rintro e w2 ⟨rfl,hb2⟩
  obtain ⟨z0,z1,z2,z3,z4⟩:=pair_below R1.out hb2
  have hB:=bstep B1.out hb2
  clear hb2 W1
  go_wp2
  refine bodyPost_ret (v:=spr ((ru,rv),rz)) (by rw [results_cell_tmp rfl];go_simp) rfl ⟨rfl,?_⟩
  (repeat' (first|with_reducible exact hB|with_reducible refine Below.drew ?_|(with_reducible refine Below.setCell ?_ (by simp<;>omega) _)))
theorem infoTb:(Tryz.prog.info? 34).map (fun i=>(i.zero,i.size,i.bytes))=some (some (.slice none 0 0),1,24):=by kernel_rfl
def TabP (w:World) (g n k:Nat) (f:Nat->Nat->Int × Int):Prop:=g<w.heap.size/\(∀ j,j<k->∃ b cap,g<b/\w.cell? ⟨g,j,none⟩=some (.slice (some ⟨b,0,none⟩) n cap)/\Row w b 0 n (fun i=>(f j i).1) (fun i=>(f j i).2)) /\
  (∀ j,j<n->w.frozen? ⟨g,j,none⟩=false)/\(∀ j,k<=j->j<n->w.cell? ⟨g,j,none⟩=some (.slice none 0 0))
def TabQ (w:World) (g n k N:Nat) (f:Nat->Nat->Int × Int) (sv:Value):Prop:=(g<N/\N<=w.heap.size)/\(∀ j,j<k->∃ b cap,b<N/\g<b/\w.cell? ⟨g,j,none⟩=some (.slice (some ⟨b,0,none⟩) n cap)/\Row w b 0 n (fun i=>(f j i).1) (fun i=>(f j i).2)) /\
  (∀ j,j<n->w.frozen? ⟨g,j,none⟩=false)/\(∀ j,k<j->j<n->w.cell? ⟨g,j,none⟩=some (.slice none 0 0))/\w.cell? ⟨g,k,none⟩=some sv
theorem row_in7 {w w1:World} {B b off n:Nat} {l h:Nat->Int} (r:Row w b off n l h) (hb:Below B w w1) (hB:b<B):Row w1 b off n l h :=
  ⟨Nat.lt_of_lt_of_le r.1 hb.size,fun k hk=>⟨(hb.cell (p:=⟨b,off+k*2,none⟩) hB).trans (r.2 k hk).1,(hb.cell (p:=⟨b,off+k*2+1,none⟩) hB).trans (r.2 k hk).2⟩⟩
theorem pan_in7 {w w1:World} {B q:Nat} {a b c:P3} (h:Pan w q a b c) (hb:Below B w w1) (hq:q<B):Pan w1 q a b c:=by
  obtain ⟨h1,h2,h3,h4,h5,h6,h7,h8,h9,h0⟩:=h
  exact ⟨(hb.cell (p:=⟨q,0,none⟩) hq).trans h1,(hb.cell (p:=⟨q,1,none⟩) hq).trans h2,(hb.cell (p:=⟨q,2,none⟩) hq).trans h3,(hb.cell (p:=⟨q,3,none⟩) hq).trans h4,(hb.cell (p:=⟨q,4,none⟩) hq).trans h5,(hb.cell (p:=⟨q,5,none⟩) hq).trans h6,(hb.cell (p:=⟨q,6,none⟩) hq).trans h7,(hb.cell (p:=⟨q,7,none⟩) hq).trans h8,(hb.cell (p:=⟨q,8,none⟩) hq).trans h9,Nat.lt_of_lt_of_le h0 hb.size⟩
theorem pan_set7 {w:World} {q g:Nat} {a b c:P3} (h:Pan w q a b c) (hq:g ≠ q) (i:Nat) (v:Value):Pan (w.setCell ⟨g,i,none⟩ v) q a b c:=by
  obtain ⟨h1,h2,h3,h4,h5,h6,h7,h8,h9,h0⟩:=h
  exact ⟨by go_simp,by go_simp,by go_simp,by go_simp,by go_simp,by go_simp,by go_simp,by go_simp,by go_simp,by simpa using h0⟩
theorem tabP_in {w w1:World} {g n k:Nat} {f:Nat->Nat->Int × Int} (h:TabP w g n k f) (hb:Below w.heap.size w w1):TabP w1 g n k f:=by
  obtain ⟨h0,h1,h2,h3⟩:=h
  refine ⟨Nat.lt_of_lt_of_le h0 hb.size,fun j hj=>?_,fun j hj=>(hb.frozen (p:=⟨g,j,none⟩) h0).trans (h2 j hj),fun j hj hn=>(hb.cell (p:=⟨g,j,none⟩) h0).trans (h3 j hj hn)⟩
  obtain ⟨b,cap,x,y,z⟩:=h1 j hj
  exact ⟨b,cap,x,(hb.cell (p:=⟨g,j,none⟩) h0).trans y,row_below z hb⟩
theorem tabQ_of {w:World} {g n k:Nat} {f:Nat->Nat->Int × Int} (h:TabP w g n k f) (hk:k<n) (o:Obj):TabQ (w.alloc o) g n k (w.heap.size+1) f (.slice none 0 0):=by
  obtain ⟨h0,h1,h2,h3⟩:=tabP_in h ((Below.refl _ _).alloc (Nat.le_refl _) o)
  have:=h.1
  refine ⟨⟨by omega,by simp⟩,fun j hj=>?_,h2,fun j hj hn=>h3 j (by omega) hn,h3 k (Nat.le_refl _) hk⟩
  obtain ⟨b,cap,x,y,z⟩:=h1 j hj
  have:=z.1
  simp only [World.size_alloc] at this
  exact ⟨b,cap,this,x,y,z⟩
theorem tabQ_in {w w1:World} {g n k N:Nat} {f:Nat->Nat->Int × Int} {sv:Value} (h:TabQ w g n k N f sv) (hb:Below N w w1):TabQ w1 g n k N f sv:=by
  obtain ⟨⟨h0,h9⟩,h1,h2,h3,h4⟩:=h
  refine ⟨⟨h0,Nat.le_trans h9 hb.size⟩,fun j hj=>?_,fun j hj=>(hb.frozen (p:=⟨g,j,none⟩) h0).trans (h2 j hj),fun j hj hn=>(hb.cell (p:=⟨g,j,none⟩) h0).trans (h3 j hj hn),(hb.cell (p:=⟨g,k,none⟩) h0).trans h4⟩
  obtain ⟨b,cap,l,x,y,z⟩:=h1 j hj
  exact ⟨b,cap,l,x,(hb.cell (p:=⟨g,j,none⟩) h0).trans y,row_in7 z hb l⟩
theorem tabQ_set {w:World} {g n k N:Nat} {f:Nat->Nat->Int × Int} {sv:Value} (h:TabQ w g n k N f sv) (sv':Value):TabQ (w.setCell ⟨g,k,none⟩ sv') g n k N f sv':=by
  obtain ⟨⟨h0,h9⟩,h1,h2,h3,h4⟩:=h
  refine ⟨⟨h0,by simpa using h9⟩,fun j hj=>?_,fun j hj=>?_,fun j hj hn=>?_,by go_simp⟩
  · obtain ⟨b,cap,l,x,y,z1,z2⟩:=h1 j hj
    have e:¬ (k=j):=by omega
    have e2:¬ (g=b):=by omega
    refine ⟨b,cap,l,x,by go_simp,by simpa using z1,fun i hi=>?_⟩
    obtain ⟨c0,c1⟩:=z2 i hi
    simp only [Nat.zero_add] at c0 c1 ⊢
    exact ⟨by go_simp,by go_simp⟩
  · have:=h2 j hj
    go_simp
  · have e:¬ (k=j):=by omega
    have:=h3 j hj hn
    go_simp
theorem tabP_of {w:World} {g n k N q cap:Nat} {f:Nat->Nat->Int × Int} (h:TabQ w g n k N f (.slice (some ⟨q,0,none⟩) n cap)) (r:Row w q 0 n (fun i=>(f k i).1) (fun i=>(f k i).2)) (hq:g<q):TabP w g n (k+1) f:=by
  obtain ⟨⟨h0,h9⟩,h1,h2,h3,h4⟩:=h
  refine ⟨by omega,fun j hj=>?_,h2,fun j hj hn=>h3 j (by omega) hn⟩
  by_cases e:j=k
  · subst e;exact ⟨q,cap,hq,h4,r⟩
  · obtain ⟨b,cp,_,x,y,z⟩:=h1 j (by omega)
    exact ⟨b,cp,x,y,z⟩
theorem tabM_of {w:World} {g n:Nat} {f:Nat->Nat->Int × Int} (h:TabP w g n n f):TabM w g n f:=⟨h.1,fun j hj=>by
  exact h.2.1 j hj⟩
theorem tabP_make (w:World) (n:Nat) (hn:n<=1000000):∃ w',(Instr.makeSlice 69 (.int .i64 (n:Int)) (.int .i64 (n:Int))).run Tryz.prog w=.ok (.slice (some ⟨w.heap.size,0,none⟩) n n) w'/\(∀ f,TabP w' w.heap.size n 0 f)/\w.grownBy w' none:=by
  obtain ⟨i0,hi,hz0,hz1,hz2⟩:=info_parts infoTb
  obtain ⟨w',h1,h2,h3⟩:=run_make_full (P:=Tryz.prog) w 0 69 34 i0 (.slice none 0 0) 1 Tryz.underlying69 hi hz0 hz1 .i64 .i64 n (by rw [hz2];omega) (by unfold maxLen;omega) (Nat.zero_le _)
  have hlt:w.heap.size<w'.heap.size:=by
    rcases h2.2 with ⟨h',_⟩|⟨g',cap',cur,h',_,hg,_⟩
    · simp at h'
    · simp only [Value.slice.injEq,Option.some.injEq,Addr.mk.injEq,and_true] at h'
      obtain ⟨rfl,_⟩:=h'
      exact (Array.getElem?_eq_some_iff.1 hg).1
  refine ⟨w',h1,fun f=>⟨hlt,fun j hj=>absurd hj (Nat.not_lt_zero j),fun j hj=>h2.frozenAt _,fun j _ hj=>?_⟩,h3⟩
  rw [h2.cellAt j (by omega)]
  simp [madeCells,Value.cells,hj,Nat.mod_one]
theorem htb_any (a:Option Addr) (np c:Nat) (a':Option Addr) (nf c':Nat) (D:Int) (n:Nat) (T:Nat->P9) (f:Nat->Nat->Int × Int) (w:World) (h0:0<n) (hn:n<=96)
    (PP:Hid (∀ W,Below w.heap.size w W->Calls Tryz.prog 103 #[msv a np c a' nf c'] W fun e w'=>∃ q cap,e=.returned (.tuple #[.slice (some ⟨q,0,none⟩) n cap,.int .i64 0])/\Row9 w' q n T/\Below W.heap.size W w'))
    (SC:Hid (∀ i j,i<n->j<n->∀ W,Calls Tryz.prog 55 #[pnv (T i).1 (T i).2.1 (T i).2.2,pnv (T j).1 (T j).2.1 (T j).2.2,.int .i64 D] W fun e w'=>e=.returned (spr (f j i,0))/\Below W.heap.size W w')) :
    Calls Tryz.prog 54 #[msv a np c a' nf c',.int .i64 D,.func (.func 55) #[] #[]] w fun e w'=>∃ g cap,e=.returned (.tuple #[.slice (some ⟨g,0,none⟩) n cap,.int .i64 0])/\TabM w' g n f/\w.heap.size<=g/\Below w.heap.size w w':=by
  obtain ⟨i0,hi,hz0,hz1,hz2⟩:=info_parts infoSp8
  have HI:=hid hi
  have HZ0:=hid hz0
  have HZ1:=hid hz1
  have HZ2:=hid hz2
  have hn':(n:Int)<=96:=by omega
  have B0:=hid (show Below w.heap.size w (w.alloc (msc a np c a' nf c' 25)) from balloc (Below.refl _ w) _)
  obtain ⟨m0,m1,ml⟩:=mes_new w a np c a' nf c' 25
  clear hi hz0 hz1 hz2
  go_enter Tryz.func54,Tryz.ntmps54
  go_wp2_with fail
  with_reducible refine (PP.out _ B0.out).mono ?_
  rintro e w1 ⟨q,cap,rfl,rp,hb1⟩
  have RP:=hid rp
  have B1:=hid (bstep B0.out hb1)
  have lq:q<w1.heap.size:=rp.1
  obtain ⟨w2,hmk,hB,hg⟩:=tabP_make w1 n (by omega)
  have T2:=hid (hB f)
  have B2:=hid ((Below.refl w1.heap.size w1).grown hg (Nat.le_refl _) (fun k hk=>by cases hk))
  have l2:=(hB f).1
  clear hb1 rp m0 m1 ml B0 PP hB hg
  go_wp2
  clear hmk
  go_loopw [30] (fun kv wr=>∃ k:Nat,k<=n/\kv=.int .i64 k/\TabP wr w1.heap.size n k f/\Below w1.heap.size w1 wr) (fun kv _=>n - (intOf kv).toNat)
  case atStart=>exact ⟨0,Nat.zero_le _,rfl,T2.out,B2.out⟩
  case round =>
    obtain ⟨k,hk,rfl,tp,bb⟩:=hrel
    have TP:=hid tp
    have BB:=hid bb
    have szw:=bb.size
    have lg:=tp.1
    clear tp bb T2 B2 l2
    by_cases hlt:k<n
    · have hk1:(k:Int)<(n:Int):=by omega
      have hk0:0<=(k:Int):=by omega
      have r9:=row9_in RP.out BB.out lq
      obtain ⟨c0,c1,c2,c3,c4,c5,c6,c7,c8⟩:=r9.2 k hlt
      have l9:=r9.1
      obtain ⟨tq,htq⟩:∃ t,T k=t:=⟨_,rfl⟩
      rw [htq] at c0 c1 c2 c3 c4 c5 c6 c7 c8
      have SK:=hid (fun i (hi:i<n)=>htq ▸ SC.out i k hi hlt)
      have PN:=hid (pan_new wr tq.1 tq.2.1 tq.2.2 77)
      have TQ:=hid (tabQ_of TP.out hlt (pnc tq.1 tq.2.1 tq.2.2 77))
      have BQ:=hid (show Below w1.heap.size w1 (wr.alloc (pnc tq.1 tq.2.1 tq.2.2 77)) from BB.out.alloc szw _)
      clear r9 htq
      go_wp2
      clear c0 c1 c2 c3 c4 c5 c6 c7 c8
      obtain ⟨wo,hwo⟩:∃ wo:World,wo=wr:=⟨_,rfl⟩
      subst hwo
      go_loopw [37] (fun kv ws=>∃ (i:Nat) (sv:Value),i<=n/\kv=.int .i64 i/\TabQ ws w1.heap.size n k (wo.heap.size+1) f sv/\ws.ownsRow (wo.heap.size+1) 39 2 sv i (svs (lsF (f k) i))/\Pan ws wo.heap.size tq.1 tq.2.1 tq.2.2/\Below w1.heap.size w1 ws) (fun kv _=>n - (intOf kv).toNat)
      case atStart=>exact ⟨0,_,Nat.zero_le _,rfl,TQ.out,World.ownsRow_nil _ _ _ _,PN.out,BQ.out⟩
      case round =>
        obtain ⟨i,sv,hi,rfl,tqs,how,pn,bs⟩:=hrel
        have TS:=hid tqs
        have ROW:=hid how
        have PS:=hid pn
        have BS:=hid bs
        have szs:=tqs.1.2
        have lg2:=tqs.1.1
        clear tqs how pn bs TQ PN BQ
        by_cases hli:i<n
        · have hi1:(i:Int)<(n:Int):=by omega
          have hi0:0<=(i:Int):=by omega
          have r9:=row9_in RP.out BS.out lq
          obtain ⟨c0,c1,c2,c3,c4,c5,c6,c7,c8⟩:=r9.2 i hli
          have l9:=r9.1
          obtain ⟨tp,htp⟩:∃ t,T i=t:=⟨_,rfl⟩
          rw [htp] at c0 c1 c2 c3 c4 c5 c6 c7 c8
          have SI:=hid (htp ▸ SK.out i hli)
          have GS:=hid (show lsF (f k) (i+1)=lsF (f k) i ++ [f k i] from rfl)
          obtain ⟨⟨u,v⟩,huv⟩:∃ uv,f k i=uv:=⟨_,rfl⟩
          rw [huv] at SI GS
          obtain ⟨d0,d1,d2,d3,d4,d5,d6,d7,d8,d9⟩:=PS.out
          clear r9 htp huv
          go_wp2_with fail
          go_at_call 55
          with_reducible refine (SI.out _).mono ?_
          rintro e w5 ⟨rfl,hb5⟩
          have ZB:=hid ((Below.refl wr.heap.size wr).alloc (Nat.le_refl _) (pnc tp.1 tp.2.1 tp.2.2 77))
          have BX:=hid ((((Below.refl (wo.heap.size+1) wr).alloc szs (pnc tp.1 tp.2.1 tp.2.2 77)).trans (hb5.mono (by simp<;>omega))))
          have ROW5:=hid (own_below9 (own_below9 ROW.out ZB.out) hb5)
          have TS5:=hid (tabQ_in TS.out BX.out)
          have PS5:=hid (pan_in7 PS.out BX.out (by omega))
          have BS5:=hid (BS.out.trans (BX.out.mono (by omega)))
          have s5:=TS5.out.1.2
          have BY:=hid ((Below.refl (wo.heap.size+1) w5).alloc s5 (.cells #[.int .i64 u,.int .i64 v] 39))
          have TS6:=hid (tabQ_in TS5.out BY.out)
          have PS6:=hid (pan_in7 PS5.out BY.out (by omega))
          have ROW6:=hid (ROW5.out.alloc (.cells #[.int .i64 u,.int .i64 v] 39))
          have BS6:=hid (BS5.out.trans (BY.out.mono (by omega)))
          have P6:=hid (pair_new w5 u v 39)
          clear c0 c1 c2 c3 c4 c5 c6 c7 c8 d0 d1 d2 d3 d4 d5 d6 d7 d8 d9 hb5 ZB BX ROW TS PS BS ROW5 TS5 PS5 BS5 BY SI
          go_wp2
          generalize w5.alloc (.cells #[.int .i64 u,.int .i64 v] 39)=w6 at *
          obtain ⟨e0,e1,e2,e3,el⟩:=P6.out
          obtain ⟨⟨f0,f9⟩,f1,f2,f3,f4⟩:=TS6.out
          have f5:=f2 k hlt
          have l6:w1.heap.size<w6.heap.size:=by omega
          clear f1 f2 f3
          have rz0:=hid (show w6.drew.ownsRow (wo.heap.size+1) 39 2 sv i (svs (lsF (f k) i)) from ROW6.out)
          go_region_law (first|(refine step_own9 rfl (.tmp 57) (.tmp 59) 34 rfl (wo.heap.size+1) 39 i0 (.agg #[.int .i64 0,.int .i64 0]) 2 16 Tryz.underlying34 HI.out HZ0.out HZ1.out HZ2.out rfl (by decide) _ i (svs (lsF (f k) i)) (by simp [Act.eval]) (World.ownsRow.alloc rz0.out _) ⟨w6.heap.size,0,none⟩ 1 1 (by simp [Act.eval]) [.int .i64 u,.int .i64 v] (sp2_new _ _ _ _) rfl (by intro u hu;simp at hu;rcases hu with rfl|rfl<;>rfl) (by unfold maxLen;omega) (by omega) (by simp;omega) ?_;intro v' w7 hown' hgrow;obtain ⟨g7,c7,rfl⟩:=own_slice8 (own_base9 hown' (Nat.zero_le _)) (by omega);have OW:=hid hown';have BZ:=hid (((Below.drew (Below.refl (wo.heap.size+1) w6)).alloc f9 _).grown hgrow (by simp;omega) (fun gg hg=>(rz0.out.lt gg hg).1));clear hown' hgrow;have T7:=hid (tabQ_in TS6.out BZ.out);have P7:=hid (pan_in7 PS6.out BZ.out (by omega));have B7:=hid (BS6.out.trans (BZ.out.mono (by omega)));have h4:=T7.out.2.2.2.2;have h5:=T7.out.2.2.1 k hlt)|fail)
          all_goals
            go_wp2
            go_roundw
            case rel=>exact ⟨i+1,_,by omega,by go_num,tabQ_set T7.out _,by rw [GS.out,← svs_snoc];exact ownsRow_setCell_below OW.out (by show w1.heap.size<wo.heap.size+1;omega) _,pan_set7 P7.out (by omega) _ _,B7.out.setCell (Nat.le_refl _) _⟩
            case measure=>simp [intOf];omega
        · obtain rfl:i=n:=by omega
          obtain ⟨b,cp,rfl,rr⟩:=row_lsF ROW.out h0
          have lb:=(ROW.out.lt b rfl).1
          have TN:=hid (tabP_of TS.out rr (by omega))
          have BN:=hid BS.out
          clear rr
          go_wp2
          go_roundw
          case rel=>exact ⟨k+1,by omega,by go_num,TN.out,BN.out⟩
          case measure=>simp [intOf];omega
    · obtain rfl:k=n:=by omega
      have hB:=B1.out.trans (BB.out.mono B1.out.size)
      go_wp2
      go_ret2
      exact ⟨_,_,rfl,tabM_of TP.out,B1.out.size,hB⟩
theorem htm_any (a:Option Addr) (np c:Nat) (a':Option Addr) (nf c':Nat) (D:Int) (n:Nat) (T:Nat->P9) (f:Nat->Nat->Int × Int) (w:World) (h0:0<n) (hn:n<=96)
    (PP:Hid (∀ W,Below w.heap.size w W->Calls Tryz.prog 103 #[msv a np c a' nf c'] W fun e w'=>∃ q cap,e=.returned (.tuple #[.slice (some ⟨q,0,none⟩) n cap,.int .i64 0])/\Row9 w' q n T/\Below W.heap.size W w'))
    (SC:Hid (∀ i j,i<n->j<n->∀ W,Calls Tryz.prog 62 #[pnv (T i).1 (T i).2.1 (T i).2.2,pnv (T j).1 (T j).2.1 (T j).2.2,.int .i64 D] W fun e w'=>e=.returned (spr (f j i,0))/\Below W.heap.size W w')) :
    Calls Tryz.prog 54 #[msv a np c a' nf c',.int .i64 D,.func (.func 62) #[] #[]] w fun e w'=>∃ g cap,e=.returned (.tuple #[.slice (some ⟨g,0,none⟩) n cap,.int .i64 0])/\TabM w' g n f/\w.heap.size<=g/\Below w.heap.size w w':=by
  obtain ⟨i0,hi,hz0,hz1,hz2⟩:=info_parts infoSp8
  have HI:=hid hi
  have HZ0:=hid hz0
  have HZ1:=hid hz1
  have HZ2:=hid hz2
  have hn':(n:Int)<=96:=by omega
  have B0:=hid (show Below w.heap.size w (w.alloc (msc a np c a' nf c' 25)) from balloc (Below.refl _ w) _)
  obtain ⟨m0,m1,ml⟩:=mes_new w a np c a' nf c' 25
  clear hi hz0 hz1 hz2
  go_enter Tryz.func54,Tryz.ntmps54
  go_wp2_with fail
  with_reducible refine (PP.out _ B0.out).mono ?_
  rintro e w1 ⟨q,cap,rfl,rp,hb1⟩
  have RP:=hid rp
  have B1:=hid (bstep B0.out hb1)
  have lq:q<w1.heap.size:=rp.1
  obtain ⟨w2,hmk,hB,hg⟩:=tabP_make w1 n (by omega)
  have T2:=hid (hB f)
  have B2:=hid ((Below.refl w1.heap.size w1).grown hg (Nat.le_refl _) (fun k hk=>by cases hk))
  have l2:=(hB f).1
  clear hb1 rp m0 m1 ml B0 PP hB hg
  go_wp2
  clear hmk
  go_loopw [30] (fun kv wr=>∃ k:Nat,k<=n/\kv=.int .i64 k/\TabP wr w1.heap.size n k f/\Below w1.heap.size w1 wr) (fun kv _=>n - (intOf kv).toNat)
  case atStart=>exact ⟨0,Nat.zero_le _,rfl,T2.out,B2.out⟩
  case round =>
    obtain ⟨k,hk,rfl,tp,bb⟩:=hrel
    have TP:=hid tp
    have BB:=hid bb
    have szw:=bb.size
    have lg:=tp.1
    clear tp bb T2 B2 l2
    by_cases hlt:k<n
    · have hk1:(k:Int)<(n:Int):=by omega
      have hk0:0<=(k:Int):=by omega
      have r9:=row9_in RP.out BB.out lq
      obtain ⟨c0,c1,c2,c3,c4,c5,c6,c7,c8⟩:=r9.2 k hlt
      have l9:=r9.1
      obtain ⟨tq,htq⟩:∃ t,T k=t:=⟨_,rfl⟩
      rw [htq] at c0 c1 c2 c3 c4 c5 c6 c7 c8
      have SK:=hid (fun i (hi:i<n)=>htq ▸ SC.out i k hi hlt)
      have PN:=hid (pan_new wr tq.1 tq.2.1 tq.2.2 77)
      have TQ:=hid (tabQ_of TP.out hlt (pnc tq.1 tq.2.1 tq.2.2 77))
      have BQ:=hid (show Below w1.heap.size w1 (wr.alloc (pnc tq.1 tq.2.1 tq.2.2 77)) from BB.out.alloc szw _)
      clear r9 htq
      go_wp2
      clear c0 c1 c2 c3 c4 c5 c6 c7 c8
      obtain ⟨wo,hwo⟩:∃ wo:World,wo=wr:=⟨_,rfl⟩
      subst hwo
      go_loopw [37] (fun kv ws=>∃ (i:Nat) (sv:Value),i<=n/\kv=.int .i64 i/\TabQ ws w1.heap.size n k (wo.heap.size+1) f sv/\ws.ownsRow (wo.heap.size+1) 39 2 sv i (svs (lsF (f k) i))/\Pan ws wo.heap.size tq.1 tq.2.1 tq.2.2/\Below w1.heap.size w1 ws) (fun kv _=>n - (intOf kv).toNat)
      case atStart=>exact ⟨0,_,Nat.zero_le _,rfl,TQ.out,World.ownsRow_nil _ _ _ _,PN.out,BQ.out⟩
      case round =>
        obtain ⟨i,sv,hi,rfl,tqs,how,pn,bs⟩:=hrel
        have TS:=hid tqs
        have ROW:=hid how
        have PS:=hid pn
        have BS:=hid bs
        have szs:=tqs.1.2
        have lg2:=tqs.1.1
        clear tqs how pn bs TQ PN BQ
        by_cases hli:i<n
        · have hi1:(i:Int)<(n:Int):=by omega
          have hi0:0<=(i:Int):=by omega
          have r9:=row9_in RP.out BS.out lq
          obtain ⟨c0,c1,c2,c3,c4,c5,c6,c7,c8⟩:=r9.2 i hli
          have l9:=r9.1
          obtain ⟨tp,htp⟩:∃ t,T i=t:=⟨_,rfl⟩
          rw [htp] at c0 c1 c2 c3 c4 c5 c6 c7 c8
          have SI:=hid (htp ▸ SK.out i hli)
          have GS:=hid (show lsF (f k) (i+1)=lsF (f k) i ++ [f k i] from rfl)
          obtain ⟨⟨u,v⟩,huv⟩:∃ uv,f k i=uv:=⟨_,rfl⟩
          rw [huv] at SI GS
          obtain ⟨d0,d1,d2,d3,d4,d5,d6,d7,d8,d9⟩:=PS.out
          clear r9 htp huv
          go_wp2_with fail
          go_at_call 62
          with_reducible refine (SI.out _).mono ?_
          rintro e w5 ⟨rfl,hb5⟩
          have ZB:=hid ((Below.refl wr.heap.size wr).alloc (Nat.le_refl _) (pnc tp.1 tp.2.1 tp.2.2 77))
          have BX:=hid ((((Below.refl (wo.heap.size+1) wr).alloc szs (pnc tp.1 tp.2.1 tp.2.2 77)).trans (hb5.mono (by simp<;>omega))))
          have ROW5:=hid (own_below9 (own_below9 ROW.out ZB.out) hb5)
          have TS5:=hid (tabQ_in TS.out BX.out)
          have PS5:=hid (pan_in7 PS.out BX.out (by omega))
          have BS5:=hid (BS.out.trans (BX.out.mono (by omega)))
          have s5:=TS5.out.1.2
          have BY:=hid ((Below.refl (wo.heap.size+1) w5).alloc s5 (.cells #[.int .i64 u,.int .i64 v] 39))
          have TS6:=hid (tabQ_in TS5.out BY.out)
          have PS6:=hid (pan_in7 PS5.out BY.out (by omega))
          have ROW6:=hid (ROW5.out.alloc (.cells #[.int .i64 u,.int .i64 v] 39))
          have BS6:=hid (BS5.out.trans (BY.out.mono (by omega)))
          have P6:=hid (pair_new w5 u v 39)
          clear c0 c1 c2 c3 c4 c5 c6 c7 c8 d0 d1 d2 d3 d4 d5 d6 d7 d8 d9 hb5 ZB BX ROW TS PS BS ROW5 TS5 PS5 BS5 BY SI
          go_wp2
          generalize w5.alloc (.cells #[.int .i64 u,.int .i64 v] 39)=w6 at *
          obtain ⟨e0,e1,e2,e3,el⟩:=P6.out
          obtain ⟨⟨f0,f9⟩,f1,f2,f3,f4⟩:=TS6.out
          have f5:=f2 k hlt
          have l6:w1.heap.size<w6.heap.size:=by omega
          clear f1 f2 f3
          have rz0:=hid (show w6.drew.ownsRow (wo.heap.size+1) 39 2 sv i (svs (lsF (f k) i)) from ROW6.out)
          go_region_law (first|(refine step_own9 rfl (.tmp 57) (.tmp 59) 34 rfl (wo.heap.size+1) 39 i0 (.agg #[.int .i64 0,.int .i64 0]) 2 16 Tryz.underlying34 HI.out HZ0.out HZ1.out HZ2.out rfl (by decide) _ i (svs (lsF (f k) i)) (by simp [Act.eval]) (World.ownsRow.alloc rz0.out _) ⟨w6.heap.size,0,none⟩ 1 1 (by simp [Act.eval]) [.int .i64 u,.int .i64 v] (sp2_new _ _ _ _) rfl (by intro u hu;simp at hu;rcases hu with rfl|rfl<;>rfl) (by unfold maxLen;omega) (by omega) (by simp;omega) ?_;intro v' w7 hown' hgrow;obtain ⟨g7,c7,rfl⟩:=own_slice8 (own_base9 hown' (Nat.zero_le _)) (by omega);have OW:=hid hown';have BZ:=hid (((Below.drew (Below.refl (wo.heap.size+1) w6)).alloc f9 _).grown hgrow (by simp;omega) (fun gg hg=>(rz0.out.lt gg hg).1));clear hown' hgrow;have T7:=hid (tabQ_in TS6.out BZ.out);have P7:=hid (pan_in7 PS6.out BZ.out (by omega));have B7:=hid (BS6.out.trans (BZ.out.mono (by omega)));have h4:=T7.out.2.2.2.2;have h5:=T7.out.2.2.1 k hlt)|fail)
          all_goals
            go_wp2
            go_roundw
            case rel=>exact ⟨i+1,_,by omega,by go_num,tabQ_set T7.out _,by rw [GS.out,← svs_snoc];exact ownsRow_setCell_below OW.out (by show w1.heap.size<wo.heap.size+1;omega) _,pan_set7 P7.out (by omega) _ _,B7.out.setCell (Nat.le_refl _) _⟩
            case measure=>simp [intOf];omega
        · obtain rfl:i=n:=by omega
          obtain ⟨b,cp,rfl,rr⟩:=row_lsF ROW.out h0
          have lb:=(ROW.out.lt b rfl).1
          have TN:=hid (tabP_of TS.out rr (by omega))
          have BN:=hid BS.out
          clear rr
          go_wp2
          go_roundw
          case rel=>exact ⟨k+1,by omega,by go_num,TN.out,BN.out⟩
          case measure=>simp [intOf];omega
    · obtain rfl:k=n:=by omega
      have hB:=B1.out.trans (BB.out.mono B1.out.size)
      go_wp2
      go_ret2
      exact ⟨_,_,rfl,tabM_of TP.out,B1.out.size,hB⟩
end Go.Proofs.YtbcjiigmbcfkeaaGreat
