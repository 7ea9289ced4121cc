import Derived.Test.YtbcjiigmbcfkeaaGreatHo33
import Derived.Test.YtbcjiigmbcfkeaaGreatHoMc
import Derived.BigQuiet
import Derived.Test.YtbcjiigmbcfkeaaGreatShelf
import Derived.OwnWalk
import Derived.Laws.EntriesVeiled
namespace Go.Proofs.YtbcjiigmbcfkeaaGreat
open Go.Lib (hid)
set_option maxRecDepth 100000
set_option maxHeartbeats 4000000
open Go.ChangeShapes Go.WideShapes Go.RowKit
open Sh
def pan7 (best:Value):List PanicEntry:=[{ v:=.iface 98 (.agg #[best]),recovered:=false }]
theorem hst_any (p q n cap:Nat) (t1 t2:Value) (r wd tr:Int) (w:World) (S:Sst w p t1 t2 r (.slice (some ⟨q,0,none⟩) n cap) wd tr) :
    Calls Tryz.prog 133 #[.pointer (some ⟨p,0,none⟩)] w fun e w'=>e=.panicked (pan7 (.slice (some ⟨q,0,none⟩) n cap))/\w'=w:=by
  obtain ⟨h0,h1,h2,h3,h4,h5,f3,f4,f5,l⟩:=S
  go_enter Tryz.func133,Tryz.ntmps133
  go_wp2
  exact ⟨rfl,rfl,rfl⟩
def OwI (w:World) (q n:Nat) (c:Nat->Int):Prop:=q<w.heap.size/\∀ k,k<n->w.cell? ⟨q,k,none⟩=some (.int .i64 (c k))/\w.frozen? ⟨q,k,none⟩=false
theorem owI_row {w:World} {q n:Nat} {c:Nat->Int} (h:OwI w q n c):RowI w q 0 n c:=⟨h.1,fun k hk=>by rw [Nat.zero_add];exact (h.2 k hk).1⟩
theorem owI_below {w w1:World} {q n:Nat} {c:Nat->Int} (h:OwI w q n c) (hb:Below w.heap.size w w1):OwI w1 q n c :=
  ⟨Nat.lt_of_lt_of_le h.1 hb.size,fun k hk=>⟨(hb.cell (p:=⟨q,k,none⟩) h.1).trans (h.2 k hk).1,(hb.frozen (p:=⟨q,k,none⟩) h.1).trans (h.2 k hk).2⟩⟩
def upI (c:Nat->Int) (i:Nat) (x:Int):Nat->Int:=fun k=>if k=i then x else c k
theorem owI_set {w:World} {q n i:Nat} {c:Nat->Int} (h:OwI w q n c) (x:Int) (hi:i<n):OwI (w.setCell ⟨q,i,none⟩ (.int .i64 x)) q n (upI c i x):=by
  refine ⟨by simp<;>exact h.1,fun k hk=>?_⟩
  obtain ⟨a,b⟩:=h.2 k hk
  obtain ⟨a',b'⟩:=h.2 i hi
  by_cases e:k=i
  · subst e
    refine ⟨?_,by go_simp⟩
    rw [show upI c k x k=x from if_pos rfl]
    go_simp
  · refine ⟨?_,by go_simp⟩
    rw [show upI c i x k=c k from if_neg e]
    go_simp
theorem upI_ok {c:Nat->Int} {n i:Nat} {x:Int} (h:∀ k,k<n->0<=c k/\c k<=100) (h0:0<=x) (h1:x<=100):∀ k,k<n->0<=upI c i x k/\upI c i x k<=100:=fun k hk=>by
  unfold upI
  split
  · exact ⟨h0,h1⟩
  · exact h k hk
def lsI (c:Nat->Int) (n:Nat):List Int:=(List.range n).map c
theorem lsI_len (c:Nat->Int) (n:Nat):(lsI c n).length=n:=by simp [lsI]
theorem lsI_at (c:Nat->Int) {n k:Nat} (h:k<n):(lsI c n)[k]?=some (c k):=by simp [lsI,h]
theorem cln7_any (b off n cap:Nat) (c:Nat->Int) (w:World) (r:RowI w b off n c) (h0:0<n) (hn:n<=1000) :
    Calls Tryz.prog 87 #[.slice (some ⟨b,off,none⟩) n cap] w fun e w'=>∃ g c',e=.returned (.slice (some ⟨g,0,none⟩) n c')/\w.heap.size<=g/\OwI w' g n c/\Below w.heap.size w w':=by
  have z:=Tryz.slices_Clone_int b off n cap (lsI c n) w (by rw [lsI_len];exact Nat.le_refl _) (by omega) (fun j hj=>by
    rw [lsI_len] at hj
    rw [r.2 j hj,List.getD_eq_getElem?_getD,lsI_at c hj]
    rfl)
  refine z.mono ?_
  rintro e w' ⟨v',he,ho,_,hb⟩
  rw [List.take_of_length_le (by rw [lsI_len];exact Nat.le_refl _)] at ho
  rcases ho.2 with ⟨_,h'⟩|⟨g,cap',cur,rfl,hbb,hg,rest⟩
  · omega
  · refine ⟨g,cap',he,hbb,⟨(Array.getElem?_eq_some_iff.1 hg).1,fun k hk=>⟨?_,?_⟩⟩,hb⟩
    · rw [ho.cellAt k (by omega),List.getElem?_map,lsI_at c hk]
      rfl
    · unfold World.frozen?
      rw [show w'.heap[(⟨g,k,none⟩:Addr).block]?=w'.heap[g]? from rfl,hg]
      simp
attribute [local go_sem 1000000] run_min_mn run_max_mx
def RowX (w:World) (b off m n:Nat):Prop:=b<w.heap.size/\∀ k,k<m->∃ v:Nat,v<n/\w.cell? ⟨b,off+k,none⟩=some (.int .i64 (v:Int))
theorem rowX_below {w w1:World} {b off m n:Nat} (h:RowX w b off m n) (hb:Below w.heap.size w w1):RowX w1 b off m n :=
  ⟨Nat.lt_of_lt_of_le h.1 hb.size,fun k hk=>by
    obtain ⟨v,hv,hc⟩:=h.2 k hk
    exact ⟨v,hv,(hb.cell (p:=⟨b,off+k,none⟩) h.1).trans hc⟩⟩
theorem rowX_sf {p b off m n:Nat} {w w':World} (h:Sf p w w') (hb:b ≠ p) (r:RowX w b off m n):RowX w' b off m n:=⟨Nat.lt_of_lt_of_le r.1 h.1.size,fun k hk=>by
  have e:=sf_blk h hb r.1
  obtain ⟨v,hv,this⟩:=r.2 k hk
  refine ⟨v,hv,?_⟩
  unfold World.cell? at this ⊢
  rw [show w'.heap[(⟨b,off+k,none⟩:Addr).block]?=w.heap[(⟨b,off+k,none⟩:Addr).block]? from e]
  exact this⟩
theorem htr_0 (p q n cap fb fo m fc:Nat) (t1 t2:Value) (r wd step:Int) (w:World) (S:Sst w p t1 t2 r (.slice (some ⟨q,0,none⟩) n cap) wd 0) :
    Calls Tryz.prog 181 #[.pointer (some ⟨p,0,none⟩),.slice (some ⟨fb,fo,none⟩) m fc,.int .i64 step] w fun e w'=>e=.panicked (pan7 (.slice (some ⟨q,0,none⟩) n cap))/\w'=w:=by
  have ST:=hid (hst_any p q n cap t1 t2 r wd 0 w S)
  obtain ⟨h0,h1,h2,h3,h4,h5,f3,f4,f5,l⟩:=S
  go_enter Tryz.func181,Tryz.ntmps181
  go_wp2_with fail
  with_reducible refine ST.out.mono ?_
  rintro e w1 ⟨rfl,rfl⟩
  go_wp2
  exact ⟨rfl,rfl,rfl⟩
theorem htr_s (p q n cap fb fo m fc g1 c1 g2 c2:Nat) (r tr step:Int) (c:Nat->Int) (wf:(Nat->Int)->Int) (w:World) (S:Sst w p (.slice (some ⟨g1,0,none⟩) n c1) (.slice (some ⟨g2,0,none⟩) n c2) r (.slice (some ⟨q,0,none⟩) n cap) (wf c) tr) (rc:RowI w q 0 n c) (qp:q ≠ p) (hc:∀ i,i<n->0<=c i/\c i<=100) (t1:1<=tr) (t2:tr<=1000) (h0:0<n) (hn:n<=96) (rf:RowX w fb fo m n) (fp:fb ≠ p) (hm:m<=96) (s1:-32<=step) (s2:step<=32) (wb:-4611686018427387904<=wf c/\wf c<=9223372036854775807) (WD:Hid (∀ W b cp c',Sf p w W->RowI W b 0 n c'->(∀ i,i<n->0<=c' i/\c' i<=100)->Calls Tryz.prog 130 #[bdv g1 c1 g2 c2 n r,.slice (some ⟨b,0,none⟩) n cp] W fun e w'=>e=.returned (.int .i64 (wf c'))/\Below W.heap.size W w')) :
    Calls Tryz.prog 181 #[.pointer (some ⟨p,0,none⟩),.slice (some ⟨fb,fo,none⟩) m fc,.int .i64 step] w fun e w'=>(∃ v,e=.returned (.bool v))/\Sf p w w'/\∃ q' cap' c',Sst w' p (.slice (some ⟨g1,0,none⟩) n c1) (.slice (some ⟨g2,0,none⟩) n c2) r (.slice (some ⟨q',0,none⟩) n cap') (wf c') (tr - 1)/\RowI w' q' 0 n c'/\q' ≠ p/\(∀ i,i<n->0<=c' i/\c' i<=100)/\wf c'<=wf c:=by
  have tz:(tr == 0)=false:=by simp;omega
  have lp:p<w.heap.size:=S.2.2.2.2.2.2.2.2.2
  have hm':(m:Int)<=96:=by omega
  have hn':(n:Int)<=96:=by omega
  have S2:=hid (sst_set5 S (tr - 1))
  have F2:=hid (sf_set (i:=5) (sf_refl p w) (.int .i64 (tr - 1)))
  obtain ⟨h0',h1,h2,h3,h4,h5,f3,f4,f5,l⟩:=S
  have RC:=hid rc
  have RF:=hid rf
  have HC:=hid hc
  have WB:=hid wb
  clear rc rf hc wb l
  go_enter Tryz.func181,Tryz.ntmps181
  go_upto_region 4 with fail
  generalize w.setCell ⟨p,5,none⟩ (.int .i64 (tr - 1))=w2 at *
  clear h0' h1 h2 h3 h4 h5 f3 f4 f5 tz
  have RC2:=hid (sf_rowI F2.out qp RC.out)
  have RF2:=hid (rowX_sf F2.out fp RF.out)
  have CL:=hid (cln7_any q 0 n cap c w2 RC2.out h0 (by omega))
  obtain ⟨h0',h1,h2,h3,h4,h5,f3,f4,f5,l2⟩:=S2.out
  go_wp2_with fail
  with_reducible refine CL.out.mono ?_
  rintro e w3 ⟨g,cg,rfl,hg,ho,hb3⟩
  have OW:=hid ho
  have B3:=hid hb3
  have lg:p<g:=Nat.lt_of_lt_of_le l2 hg
  clear ho hb3 h0' h1 h2 h3 h4 h5 f3 f4 f5 CL RC RF
  go_wp2
  go_loopw [31] (fun kv wr=>∃ (k:Nat) (c':Nat->Int),k<=m/\kv=.int .i64 k/\OwI wr g n c'/\(∀ i,i<n->0<=c' i/\c' i<=100)/\Below w2.heap.size w2 wr) (fun kv _=>m - (intOf kv).toNat)
  case atStart=>exact ⟨0,c,Nat.zero_le _,rfl,OW.out,HC.out,B3.out⟩
  case round =>
    obtain ⟨k,c',hk,rfl,ho,hc',bb⟩:=hrel
    have OR:=hid ho
    have BR:=hid bb
    have HR:=hid hc'
    clear ho bb hc' OW B3
    by_cases hlt:k<m
    · have hk1:(k:Int)<(m:Int):=by omega
      have rx:=rowX_below RF2.out BR.out
      obtain ⟨v,hv,cv⟩:=rx.2 k hlt
      have lfb:=rx.1
      have hv':(v:Int)<(n:Int):=by omega
      obtain ⟨co,fo'⟩:=OR.out.2 v hv
      have lgr:=OR.out.1
      have cb:=HR.out v hv
      have OS:=hid (fun x=>owI_set OR.out x hv)
      have HS:=hid (fun x (a:0<=x) (b:x<=100)=>upI_ok (i:=v) HR.out a b)
      generalize c' v=y at *
      clear rx
      go_wp2
      go_roundw
      case rel=>exact ⟨k+1,_,by omega,by go_num,OS.out _,HS.out _ (by rw [Sp.mn_eq,Sp.mx_eq];omega) (by rw [Sp.mn_eq,Sp.mx_eq];omega),BR.out.setCell hg _⟩
      case measure=>simp [intOf];omega
    · obtain rfl:k=m:=by omega
      have SR:=hid (sst_below S2.out BR.out)
      have FR:=hid (sf_step F2.out lp BR.out)
      have WD1:=hid (fun W (B:Below wr.heap.size wr W)=>WD.out W g cg c' (sf_step FR.out lp B) (owI_row (owI_below OR.out B)) HR.out)
      have RB:=hid (rowI_below RC2.out BR.out)
      obtain ⟨h0',h1,h2,h3,h4,h5,f3,f4,f5,l3⟩:=SR.out
      by_cases hw:wf c'<=wf c - 1
      · have OF:=hid (hof_yes p g1 c1 g2 c2 n g 0 cg r (wf c) (tr - 1) (wf c - 1) (wf c') _ wr SR.out WD1 hw)
        obtain ⟨wb1,wb2⟩:=WB.out
        clear WD WD1
        go_wp2_with fail
        with_reducible refine OF.out.mono ?_
        rintro e w5 ⟨rfl,s5,b5⟩
        have S5:=hid s5
        have B5:=hid (sf_trans FR.out b5)
        have R5:=hid (sf_rowI b5 (by omega) (owI_row OR.out))
        clear s5 b5 h0' h1 h2 h3 h4 h5 f3 f4 f5
        go_wp2
        go_ret
        exact ⟨⟨_,rfl⟩,B5.out,g,cg,c',S5.out,R5.out,by omega,HR.out,by omega⟩
      · have OF:=hid (hof_no p g1 c1 g2 c2 n g 0 cg r (wf c) (tr - 1) (wf c - 1) (wf c') _ wr SR.out WD1 (by omega))
        obtain ⟨wb1,wb2⟩:=WB.out
        clear WD WD1
        go_wp2_with fail
        with_reducible refine OF.out.mono ?_
        rintro e w5 ⟨rfl,s5,b5⟩
        have S5:=hid s5
        have B5:=hid (sf_trans FR.out b5)
        have R5:=hid (sf_rowI b5 qp RB.out)
        clear s5 b5 h0' h1 h2 h3 h4 h5 f3 f4 f5
        go_wp2
        go_ret
        exact ⟨⟨_,rfl⟩,B5.out,q,cap,c,S5.out,R5.out,qp,HC.out,Int.le_refl _⟩
end Go.Proofs.YtbcjiigmbcfkeaaGreat
namespace Go.Proofs.YtbcjiigmbcfkeaaGreat
open Go.Lib (hid)
set_option maxRecDepth 100000
set_option maxHeartbeats 4000000
open Go.ChangeShapes Go.WideShapes Go.RowKit
open Sh
def cq7 (L H:Nat->Int) (i j:Nat):Int:=Lib.compareInt (wrap64 (L i+H i)) (wrap64 (L j+H j))
theorem lfc_any (vb q n cap i j:Nat) (L H:Nat->Int) (w:World) (hv:w.cell? ⟨vb,0,none⟩=some (.slice (some ⟨q,0,none⟩) n cap)) (rr:Row w q 0 n L H) (hi:i<n) (hj:j<n) :
    Calls Tryz.prog 204 #[.int .i64 (i:Int),.int .i64 (j:Int),.pointer (some ⟨vb,0,none⟩)] w fun e w'=>e=.returned (.int .i64 (cq7 L H i j))/\∃ k,w'=w.drewN k:=by
  unfold cq7
  have CM:=hid (fun x y W=>Tryz.cmp_Compare_int x y W)
  have hi':(i:Int)<(n:Int):=by omega
  have hj':(j:Int)<(n:Int):=by omega
  obtain ⟨a0,a1⟩:=rr.2 i hi
  obtain ⟨b0,b1⟩:=rr.2 j hj
  rw [Nat.zero_add] at a0 a1 b0 b1
  have lq:=rr.1
  clear rr
  generalize L i=x at *
  generalize H i=y at *
  generalize L j=u at *
  generalize H j=v at *
  go_enter Tryz.func204,Tryz.ntmps204
  go_wp2
  go_quiet ((go_at_call 205;refine Calls.quiet_of_same (CM.out _ _ _)))
  go_wp2
  go_ret
  exact ⟨rfl,_,rfl⟩
theorem sf_drewN {p:Nat} {a w:World} (h:Sf p a w) (k:Nat):Sf p a (w.drewN k):=⟨bdrewN h.1 k,fun b hb hl=>(show (w.drewN k).heap[b]?=w.heap[b]? by simp).trans (h.2 b hb hl)⟩
def OwX (w:World) (d n:Nat):Prop:=d<w.heap.size/\∀ k,k<n->(∃ v:Nat,v<n/\w.cell? ⟨d,k,none⟩=some (.int .i64 (v:Int)))/\w.frozen? ⟨d,k,none⟩=false
theorem owX_set {w:World} {d n i v:Nat} (h:OwX w d n) (hi:i<n) (hv:v<n):OwX (w.setCell ⟨d,i,none⟩ (.int .i64 (v:Int))) d n:=by
  refine ⟨by simp<;>exact h.1,fun k hk=>?_⟩
  obtain ⟨⟨u,hu,a⟩,b⟩:=h.2 k hk
  obtain ⟨⟨u',hu',a'⟩,b'⟩:=h.2 i hi
  by_cases e:k=i
  · subst e
    exact ⟨⟨v,hv,by go_simp⟩,by go_simp⟩
  · exact ⟨⟨u,hu,by go_simp⟩,by go_simp⟩
theorem owX_drew {w:World} {d n:Nat} (h:OwX w d n):OwX w.drew d n:=h
theorem owX_drewN {w:World} {d n:Nat} (h:OwX w d n) (k:Nat):OwX (w.drewN k) d n:=by
  refine ⟨by simpa using h.1,fun j hj=>?_⟩
  obtain ⟨⟨u,hu,a⟩,b⟩:=h.2 j hj
  exact ⟨⟨u,hu,by simpa using a⟩,by simpa using b⟩
theorem ins7_any (d n cap vb:Nat) (cq:Nat->Nat->Int) (w:World) (o:OwX w d n) (h1:1<=n) (hn:n<=20) (CM:Hid (∀ W i j,Sf d w W->i<n->j<n->Calls Tryz.prog 204 #[.int .i64 ((i:Nat):Int),.int .i64 ((j:Nat):Int),.pointer (some ⟨vb,0,none⟩)] W fun e w'=>e=.returned (.int .i64 (cq i j))/\∃ k,w'=W.drewN k)) :
    Calls Tryz.prog 216 #[.slice (some ⟨d,0,none⟩) n cap,.int .i64 0,.int .i64 (n:Int),.func (.func 204) #[] #[.pointer (some ⟨vb,0,none⟩)]] w fun e w'=>e=.returned (.tuple #[])/\OwX w' d n/\Sf d w w':=by
  have hn':(n:Int)<=20:=by omega
  have O:=hid o
  clear o
  go_enter Tryz.func216,Tryz.ntmps216
  go_wp2
  go_loopw [8] (fun kv wr=>∃ i:Nat,1<=i/\i<=n/\kv=.int .i64 i/\OwX wr d n/\Sf d w wr) (fun kv _=>n - (intOf kv).toNat)
  case atStart=>exact ⟨1,Nat.le_refl _,h1,rfl,O.out,sf_refl _ _⟩
  case round =>
    obtain ⟨i,hi1,hi,rfl,ho,hs⟩:=hrel
    have OR:=hid ho
    have SR:=hid hs
    clear ho hs O
    by_cases hlt:i<n
    · have hk1:(i:Int)<(n:Int):=by omega
      go_wp2
      go_loopw [9] (fun kv wr'=>∃ j:Nat,j<=i/\kv=.int .i64 j/\OwX wr' d n/\Sf d w wr') (fun kv _=>(intOf kv).toNat)
      case atStart=>exact ⟨i,Nat.le_refl _,rfl,OR.out,SR.out⟩
      case round =>
        obtain ⟨j,hj,rfl,ho,hs⟩:=hrel
        have OJ:=hid ho
        have SJ:=hid hs
        clear ho hs OR SR
        by_cases hz:(0:Int)<(j:Int)
        · obtain ⟨j',rfl⟩:∃ j',j=j'+1:=⟨j - 1,by omega⟩
          have e1:((j'+1:Nat):Int) - 1=(j':Int):=by omega
          have ld:=OJ.out.1
          obtain ⟨⟨u,hu,cu⟩,fu⟩:=OJ.out.2 (j'+1) (by omega)
          obtain ⟨⟨v,hv,cv⟩,fv⟩:=OJ.out.2 j' (by omega)
          have b1:((j'+1:Nat):Int)<(n:Int):=by omega
          have b2:(j':Int)<(n:Int):=by omega
          have CMP:=hid (fun k=>CM.out _ u v (sf_drewN SJ.out k) hu hv)
          have O1:=hid (fun k=>owX_drewN OJ.out k)
          have SS:=hid (fun k=>sf_drewN SJ.out k)
          generalize cq u v=z at *
          go_wp2_with fail
          go_quiet ((go_at_call 204;refine Calls.quiet_of (CMP.out _)))
          by_cases hz2:z<0
          · have OQ:=hid (O1.out nq)
            have SQ:=hid (SS.out nq)
            have cu':(wr.drewN nq).cell? ⟨d,j'+1,none⟩=some (.int .i64 (u:Int)):=cu
            have cv':(wr.drewN nq).cell? ⟨d,j',none⟩=some (.int .i64 (v:Int)):=cv
            have fu':(wr.drewN nq).frozen? ⟨d,j'+1,none⟩=false:=fu
            have fv':(wr.drewN nq).frozen? ⟨d,j',none⟩=false:=fv
            generalize wr.drewN nq=wq at *
            clear cu cv fu fv CMP O1 SS
            go_wp2
            go_region
            all_goals
              go_wp2
              go_roundw
              case rel=>first
               |exact ⟨j',by omega,by go_num,owX_set (owX_set OQ.out (by omega) hv) (by omega) hu,sf_set (sf_set SQ.out _) _⟩
               |exact ⟨j',by omega,by go_num,owX_set (owX_set OQ.out (by omega) hu) (by omega) hv,sf_set (sf_set SQ.out _) _⟩
               |exact ⟨j',by omega,by go_num,owX_set (owX_set (owX_drew OQ.out) (by omega) hv) (by omega) hu,sf_set (sf_set (sf_drew SQ.out) _) _⟩
               |exact ⟨j',by omega,by go_num,owX_set (owX_set (owX_drew OQ.out) (by omega) hu) (by omega) hv,sf_set (sf_set (sf_drew SQ.out) _) _⟩
              case measure=>simp [intOf];try omega
          · go_wp2
            go_roundw
            case rel=>exact ⟨i+1,by omega,by omega,by go_num,O1.out nq,SS.out nq⟩
            case measure=>simp [intOf];omega
        · have j0:j=0:=by omega
          subst j0
          go_wp2_with fail
          go_quiet (fail)
          go_wp2
          go_roundw
          case rel=>exact ⟨i+1,by omega,by omega,by go_num,owX_drewN OJ.out nq,sf_drewN SJ.out nq⟩
          case measure=>simp [intOf];omega
    · obtain rfl:i=n:=by omega
      go_wp2
      go_end0
      exact ⟨rfl,OR.out,SR.out⟩
theorem stb7_any (d n cap vb:Nat) (cq:Nat->Nat->Int) (w:World) (o:OwX w d n) (h1:1<=n) (hn:n<=19) (CM:Hid (∀ W i j,Sf d w W->i<n->j<n->Calls Tryz.prog 204 #[.int .i64 ((i:Nat):Int),.int .i64 ((j:Nat):Int),.pointer (some ⟨vb,0,none⟩)] W fun e w'=>e=.returned (.int .i64 (cq i j))/\∃ k,w'=W.drewN k)):Calls Tryz.prog 212 #[.slice (some ⟨d,0,none⟩) n cap,.int .i64 (n:Int),.func (.func 204) #[] #[.pointer (some ⟨vb,0,none⟩)]] w fun e w'=>e=.returned (.tuple #[])/\OwX w' d n/\Sf d w w':=by
  have IN:=hid (ins7_any d n cap vb cq w o h1 (by omega) CM)
  have a1:¬ (20:Int)<=(n:Int):=by omega
  have a2:¬ (20:Int)<(n:Int):=by omega
  clear o CM
  go_enter Tryz.func212,Tryz.ntmps212
  go_wp2
  go_loopw [7,8] (fun av kv wr=>av=.int .i64 0/\kv=.int .i64 20/\wr=w) (fun _ _ _=>0)
  case atStart=>exact ⟨rfl,rfl,rfl⟩
  case round =>
    obtain ⟨rfl,rfl,rfl⟩:=hrel
    go_wp2_with fail
    with_reducible refine IN.out.mono ?_
    rintro e w2 ⟨rfl,o2,s2⟩
    have O2:=hid o2
    have S2:=hid s2
    clear o2 s2 IN
    go_wp2
    go_loopw [6] (fun kv wr=>kv=.int .i64 20/\wr=w2) (fun _ _=>0)
    case atStart=>exact ⟨rfl,rfl⟩
    case round =>
      obtain ⟨rfl,rfl⟩:=hrel
      go_wp2
      go_end0
      exact ⟨rfl,O2.out,S2.out⟩
theorem srt7_any (d n cap vb:Nat) (cq:Nat->Nat->Int) (w:World) (o:OwX w d n) (h1:1<=n) (hn:n<=19) (CM:Hid (∀ W i j,Sf d w W->i<n->j<n->Calls Tryz.prog 204 #[.int .i64 ((i:Nat):Int),.int .i64 ((j:Nat):Int),.pointer (some ⟨vb,0,none⟩)] W fun e w'=>e=.returned (.int .i64 (cq i j))/\∃ k,w'=W.drewN k)):Calls Tryz.prog 203 #[.slice (some ⟨d,0,none⟩) n cap,.func (.func 204) #[] #[.pointer (some ⟨vb,0,none⟩)]] w fun e w'=>e=.returned (.tuple #[])/\OwX w' d n/\Sf d w w':=by
  have IN:=hid (stb7_any d n cap vb cq w o h1 hn CM)
  clear o CM
  go_enter Tryz.func203,Tryz.ntmps203
  go_wp2_with fail
  with_reducible refine IN.out.mono ?_
  rintro e w2 ⟨rfl,o2,s2⟩
  have O2:=hid o2
  have S2:=hid s2
  clear o2 s2 IN
  go_wp2
  go_end0
  exact ⟨rfl,O2.out,S2.out⟩
open Go.Shelf
theorem sf_cell {p b i:Nat} {w w':World} (h:Sf p w w') (n:b ≠ p) (l:b<w.heap.size):w'.cell? ⟨b,i,none⟩=w.cell? ⟨b,i,none⟩:=by
  have e:=sf_blk h n l
  unfold World.cell?
  rw [show w'.heap[(⟨b,i,none⟩:Addr).block]?=w.heap[(⟨b,i,none⟩:Addr).block]? from e]
theorem sf_row {p b n:Nat} {w w':World} {L H:Nat->Int} (h:Sf p w w') (ne:b ≠ p) (r:Row w b 0 n L H):Row w' b 0 n L H :=
  ⟨Nat.lt_of_lt_of_le r.1 h.1.size,fun k hk=>⟨(sf_cell h ne r.1).trans (r.2 k hk).1,(sf_cell h ne r.1).trans (r.2 k hk).2⟩⟩
theorem owX_of {w:World} {base n:Nat} {v:Value} (h:w.ownsRow base 3 1 v n (ivs (fun k=>(k:Int)) n)) (h0:0<n):∃ d cap,v=.slice (some ⟨d,0,none⟩) n cap/\base<=d/\n<=cap/\OwX w d n:=by
  rcases h.2 with ⟨_,h'⟩|⟨g,cap',cur,rfl,hbb,hg,hcap,rest⟩
  · omega
  · refine ⟨g,cap',rfl,hbb,hcap,(Array.getElem?_eq_some_iff.1 hg).1,fun k hk=>⟨⟨k,hk,?_⟩,?_⟩⟩
    · rw [h.cellAt k (by omega),ivs_at _ hk]
    · unfold World.frozen?
      rw [show w.heap[(⟨g,k,none⟩:Addr).block]?=w.heap[g]? from rfl,hg]
      simp
theorem lof_any (g1 c1 g2 c2 b1 off1 cap1 n:Nat) (r:Int) (pl ph:Nat->Int) (w:World) (h0:0<n) (hn:n<=19) (PT:Hid (∀ W,Below w.heap.size w W->Calls Tryz.prog 56 #[.slice (some ⟨g1,0,none⟩) n c1,.slice (some ⟨b1,off1,none⟩) n cap1] W fun e w'=>∃ q cap,e=.returned (.tuple #[.slice (some ⟨q,0,none⟩) n cap,.int .i64 0])/\Row w' q 0 n pl ph/\Below W.heap.size W w')) :
    Calls Tryz.prog 180 #[bdv g1 c1 g2 c2 n r,.slice (some ⟨b1,off1,none⟩) n cap1] w fun e w'=>∃ d cap,e=.returned (.slice (some ⟨d,0,none⟩) n cap)/\w.heap.size<=d/\n<=cap/\OwX w' d n/\Below w.heap.size w w':=by
  obtain ⟨i0,hi,hz0,hz1,hz2⟩:=info_parts infoI1
  have HI:=hid hi
  have HZ0:=hid hz0
  have HZ1:=hid hz1
  have HZ2:=hid hz2
  clear hi hz0 hz1 hz2
  have hn':(n:Int)<=19:=by omega
  have M0:=hid (ow3_new w (.slice (some ⟨g1,0,none⟩) n c1) (.slice (some ⟨g2,0,none⟩) n c2) (.int .i64 r) 91)
  have B0:=hid (show Below w.heap.size w (w.alloc (.cells #[.slice (some ⟨g1,0,none⟩) n c1,.slice (some ⟨g2,0,none⟩) n c2,.int .i64 r] 91)) from balloc (Below.refl _ w) _)
  obtain ⟨m0,m1,m2,m3,m4,m5,m6⟩:=M0.out
  go_enter Tryz.func180,Tryz.ntmps180
  go_wp2_with fail
  with_reducible refine (PT.out _ B0.out).mono ?_
  rintro e w1 ⟨q,cq,rfl,rr,hb1⟩
  have RR:=hid rr
  have B1:=hid (bstep B0.out hb1)
  have lq:=rr.1
  clear rr hb1 m0 m1 m2 m3 m4 m5 m6 M0 B0
  have V2:=hid (show (w1.alloc (.cells #[.slice (some ⟨q,0,none⟩) n cq] 34)).cell? ⟨w1.heap.size,0,none⟩=some (.slice (some ⟨q,0,none⟩) n cq) by go_simp)
  have R2:=hid (row_below RR.out ((Below.refl w1.heap.size w1).alloc (Nat.le_refl _) (.cells #[.slice (some ⟨q,0,none⟩) n cq] 34)))
  have B2:=hid (balloc B1.out (.cells #[.slice (some ⟨q,0,none⟩) n cq] 34))
  have z2:w1.heap.size<(w1.alloc (.cells #[.slice (some ⟨q,0,none⟩) n cq] 34)).heap.size:=by simp
  have z1:w.heap.size<=w1.heap.size:=B1.out.size
  go_wp2
  generalize w1.alloc (.cells #[.slice (some ⟨q,0,none⟩) n cq] 34)=w2 at *
  clear RR B1
  go_loopw [7,18] (fun sv kv wr=>∃ k:Nat,k<=n/\kv=.int .i64 k/\wr.ownsRow w2.heap.size 3 1 sv k (ivs (fun k=>(k:Int)) k)/\Below w2.heap.size w2 wr) (fun _ kv _=>n - (intOf kv).toNat)
  case atStart=>exact ⟨0,Nat.zero_le _,rfl,World.ownsRow_nil _ _ _ _,Below.refl _ _⟩
  case round =>
    obtain ⟨k,hk,rfl,hrow,BB⟩:=hrel
    have C0:=hid BB
    have ROWc:=hid hrow
    clear BB hrow
    by_cases hlt:k<n
    · have hk1:(k:Int)<(n:Int):=by omega
      have hk0:0<=(k:Int):=by omega
      have szw:=C0.out.size
      have NX:=hid (show ivs (fun k=>(k:Int)) (k+1)=ivs (fun k=>(k:Int)) k ++ [.int .i64 (k:Int)] from rfl)
      go_wp2_with (at_builtin;(refine wpList_append_own _ rfl _ _ 26 rfl w2.heap.size 3 i0 (.int .i64 0) 1 8 Tryz.underlying26 HI.out HZ0.out HZ1.out HZ2.out rfl (by decide) _ k (ivs (fun k=>(k:Int)) k) rfl (ROWc.out.alloc _) ⟨_,0,none⟩ 1 1 [.int .i64 (k:Int)] rfl rfl (one_new' _ _ _ _ (by simp)) (by intro u hu;simp at hu;subst hu;rfl) (by unfold maxLen;omega) (by omega) (by simp;omega) ?_);intro v' w7 hown' hgrow _;have OW:=hid hown';have GR:=hid hgrow;clear hown' hgrow)
      have BG:=(C0.out.alloc szw _).grown GR.out (by simp;omega) (fun gg hg=>(ROWc.out.lt gg hg).1)
      go_roundw
      case rel=>exact ⟨k+1,by omega,by go_num,by rw [NX.out];exact OW.out,BG⟩
      case measure=>simp [intOf];omega
    · obtain rfl:k=n:=by omega
      obtain ⟨d,cd,rfl,hd,hcd,hx⟩:=owX_of ROWc.out h0
      have VR:=hid ((C0.out.cell (p:=⟨w1.heap.size,0,none⟩) z2).trans V2.out)
      have RR:=hid (row_below R2.out C0.out)
      have szw:=C0.out.size
      have l2:q<w1.heap.size:=lq
      have SO:=hid (srt7_any d k cd w1.heap.size (cq7 pl ph) wr hx (by omega) (by omega) (hid fun W i j S hi hj=>lfc_any w1.heap.size q k cq i j pl ph W ((sf_cell S (by omega) (by omega)).trans VR.out) (sf_row S (by omega) RR.out) hi hj))
      have BF:=hid (B2.out.trans (C0.out.mono B2.out.size))
      clear V2 R2 HI HZ0 HZ1 HZ2 hx
      go_wp2_with fail
      with_reducible refine SO.out.mono ?_
      rintro e w5 ⟨rfl,o5,s5⟩
      have O5:=hid o5
      have B5:=hid (BF.out.trans (s5.1.mono (by omega)))
      clear o5 s5 SO VR RR
      go_wp2
      go_ret
      exact ⟨d,cd,rfl,by omega,hcd,O5.out,B5.out⟩
end Go.Proofs.YtbcjiigmbcfkeaaGreat
