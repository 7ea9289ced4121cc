import Derived.Test.YtbcjiigmbcfkeaaGreatHoMg
import Derived.Deep.RegionLaw
import Derived.RegionTactic
import Derived.Laws.CopyOwn
import Derived.Deep.OwnRows
import Derived.StillTailTactics
namespace Go.Proofs.YtbcjiigmbcfkeaaGreat
open Go.Lib (hid)
set_option maxRecDepth 100000
set_option maxHeartbeats 4000000
open Go.ChangeShapes Go.WideShapes Go.RowKit
open Sh
attribute [local go_sem 1000000] q7run_hi1 q7run_lo1
def Sk (w:World) (p g1 c1 g2 c2 n:Nat) (r:Int) (wf:(Nat->Int)->Int) (W0 tr:Int):Prop:=∃ q cap c,Sst w p (.slice (some ⟨g1,0,none⟩) n c1) (.slice (some ⟨g2,0,none⟩) n c2) r (.slice (some ⟨q,0,none⟩) n cap) (wf c) tr/\RowI w q 0 n c/\q ≠ p/\(∀ i,i<n->0<=c i/\c i<=100)/\wf c<=W0
theorem sk_below {w w1:World} {p g1 c1 g2 c2 n:Nat} {r W0 tr:Int} {wf:(Nat->Int)->Int} (h:Sk w p g1 c1 g2 c2 n r wf W0 tr) (hb:Below w.heap.size w w1):Sk w1 p g1 c1 g2 c2 n r wf W0 tr:=by
  obtain ⟨q,cap,c,a1,a2,a3,a4,a5⟩:=h
  exact ⟨q,cap,c,sst_below a1 hb,rowI_below a2 hb,a3,a4,a5⟩
def Pn (w0 w':World) (e:Ending) (p n:Nat) (wf:(Nat->Int)->Int) (W0:Int):Prop:=∃ q cap c,e=.panicked (pan7 (.slice (some ⟨q,0,none⟩) n cap))/\RowI w' q 0 n c/\(∀ i,i<n->0<=c i/\c i<=100)/\wf c<=W0/\Sf p w0 w'
theorem htr_any (p n g1 c1 g2 c2:Nat) (r W0 tr step:Int) (wf:(Nat->Int)->Int) (w0 w:World) (fb fo m fc:Nat) (S:Sk w p g1 c1 g2 c2 n r wf W0 tr) (S0:Sf p w0 w) (t1:0<=tr) (t2:tr<=1000) (h0:0<n) (hn:n<=96) (rf:RowX w fb fo m n) (fp:fb ≠ p) (hm:m<=96) (s1:-32<=step) (s2:step<=32) (WB:Hid (∀ c:Nat->Int,-4611686018427387904<=wf c/\wf c<=9223372036854775807)) (WD:Hid (∀ W b cp c',Sf p w0 W->RowI W b 0 n c'->(∀ i,i<n->0<=c' i/\c' i<=100)->Calls Tryz.prog 130 #[bdv g1 c1 g2 c2 n r,.slice (some ⟨b,0,none⟩) n cp] W fun e w'=>e=.returned (.int .i64 (wf c'))/\Below W.heap.size W w')) :
    Calls Tryz.prog 181 #[.pointer (some ⟨p,0,none⟩),.slice (some ⟨fb,fo,none⟩) m fc,.int .i64 step] w fun e w'=>Pn w0 w' e p n wf W0∨(∃ v,e=.returned (.bool v))/\1<=tr/\Sf p w0 w'/\Sf p w w'/\Sk w' p g1 c1 g2 c2 n r wf W0 (tr - 1):=by
  obtain ⟨q,cap,c,a1,a2,a3,a4,a5⟩:=S
  by_cases z:tr=0
  · subst z
    refine (htr_0 p q n cap fb fo m fc _ _ r (wf c) step w a1).mono ?_
    rintro e w' ⟨rfl,rfl⟩
    exact .inl ⟨q,cap,c,rfl,a2,a4,a5,S0⟩
  · refine (htr_s p q n cap fb fo m fc g1 c1 g2 c2 r tr step c wf w a1 a2 a3 a4 (by omega) t2 h0 hn rf fp hm s1 s2 (WB.out c) (hid fun W b cp c' h=>WD.out W b cp c' (sf_trans S0 h))).mono ?_
    rintro e w' ⟨hv,hs,q',cap',c',b1,b2,b3,b4,b5⟩
    exact .inr ⟨hv,by omega,sf_trans S0 hs,hs,q',cap',c',b1,b2,b3,b4,by omega⟩
theorem rowX_sub {w:World} {d lo m n:Nat} (h:RowX w d 0 n n) (hl:lo+m<=n):RowX w d lo m n:=⟨h.1,fun k hk=>by
  obtain ⟨v,hv,hc⟩:=h.2 (lo+k) (by omega)
  rw [Nat.zero_add] at hc
  exact ⟨v,hv,hc⟩⟩
theorem hps_any (p n g1 c1 g2 c2:Nat) (r W0 tr step:Int) (wf:(Nat->Int)->Int) (w0 w:World) (S:Sk w p g1 c1 g2 c2 n r wf W0 tr) (S0:Sf p w0 w) (lp:p<w0.heap.size) (t1:0<=tr) (t2:tr<=1000) (h0:0<n) (hn:n<=19) (s1:-32<=step) (s2:step<=32) (WB:Hid (∀ c:Nat->Int,-4611686018427387904<=wf c/\wf c<=9223372036854775807)) (WD:Hid (∀ W b cp c',Sf p w0 W->RowI W b 0 n c'->(∀ i,i<n->0<=c' i/\c' i<=100)->Calls Tryz.prog 130 #[bdv g1 c1 g2 c2 n r,.slice (some ⟨b,0,none⟩) n cp] W fun e w'=>e=.returned (.int .i64 (wf c'))/\Below W.heap.size W w')) (LF:Hid (∀ W b cp c',Sf p w0 W->RowI W b 0 n c'->(∀ i,i<n->0<=c' i/\c' i<=100)->Calls Tryz.prog 180 #[bdv g1 c1 g2 c2 n r,.slice (some ⟨b,0,none⟩) n cp] W fun e w'=>∃ d cap,e=.returned (.slice (some ⟨d,0,none⟩) n cap)/\W.heap.size<=d/\n<=cap/\OwX w' d n/\Below W.heap.size W w')) :
    Calls Tryz.prog 132 #[.pointer (some ⟨p,0,none⟩),.int .i64 step] w fun e w'=>Pn w0 w' e p n wf W0∨∃ v tr',e=.returned (.bool v)/\0<=tr'/\tr'<tr/\Sf p w0 w'/\Sk w' p g1 c1 g2 c2 n r wf W0 tr':=by
  have hn':(n:Int)<=19:=by omega
  have SX:=hid S
  have S00:=hid S0
  obtain ⟨q,cap,c,a1,a2,a3,a4,a5⟩:=S
  have LF1:=hid (LF.out w.drew q cap c (sf_drew S0) a2 a4)
  have LF2:=hid (LF.out w q cap c S0 a2 a4)
  obtain ⟨m0,m1,m2,m3,m4,m5,f3,f4,f5,l⟩:=a1
  clear a2 a3 a4 a5 S0
  go_enter Tryz.func132,Tryz.ntmps132
  go_wp2
  go_region_held3 (fun w'=>w'.cell? ⟨p,0,none⟩=some (.slice (some ⟨g1,0,none⟩) n c1)/\w'.cell? ⟨p,1,none⟩=some (.slice (some ⟨g2,0,none⟩) n c2)/\w'.cell? ⟨p,2,none⟩=some (.int .i64 r)/\w'.cell? ⟨p,3,none⟩=some (.slice (some ⟨q,0,none⟩) n cap))
    (first|exact ⟨m0,m1,m2,m3⟩|(with_reducible exact k3)|fail)
    (first|(go_at_call 180;(with_reducible refine LF1.out.mono ?_);rintro e w1 ⟨d,cd,rfl,hd,hcd,hx,hb1⟩;have k3:=(⟨(hb1.cell (p:=⟨p,0,none⟩) l).trans m0,(hb1.cell (p:=⟨p,1,none⟩) l).trans m1,(hb1.cell (p:=⟨p,2,none⟩) l).trans m2,(hb1.cell (p:=⟨p,3,none⟩) l).trans m3⟩:w1.cell? ⟨p,0,none⟩=some (.slice (some ⟨g1,0,none⟩) n c1)/\w1.cell? ⟨p,1,none⟩=some (.slice (some ⟨g2,0,none⟩) n c2)/\w1.cell? ⟨p,2,none⟩=some (.int .i64 r)/\w1.cell? ⟨p,3,none⟩=some (.slice (some ⟨q,0,none⟩) n cap)))|fail)
  have SK1:=hid (sk_below SX.out (show Below w.heap.size w w1 from q7below_of_drew hb1))
  have SF1:=hid (sf_step S00.out lp (show Below w.heap.size w w1 from q7below_of_drew hb1))
  have RX1:=hid (show RowX w1 d 0 n n from ⟨hx.1,fun k hk=>by rw [Nat.zero_add];exact (hx.2 k hk).1⟩)
  have dp:d ≠ p:=by
    have e:w.heap.size<=d:=hd
    omega
  clear m0 m1 m2 m3 m4 m5 f3 f4 f5 hb1 hx hd k3 SX S00 LF1 LF2 LF
  go_wp2
  go_loopw [5,21] (fun hv kv wr=>∃ (k:Nat) (t':Int),k<=n/\kv=.int .i64 k/\(∃ b,hv=.bool b)/\RowX wr d 0 n n/\Sf p w0 wr/\Sk wr p g1 c1 g2 c2 n r wf W0 t'/\0<=t'/\t'<=tr/\(1<=k->t'<tr)) (fun _ kv _=>n - (intOf kv).toNat)
  case atStart=>exact ⟨0,tr,Nat.zero_le _,rfl,⟨_,rfl⟩,RX1.out,SF1.out,SK1.out,t1,Int.le_refl _,fun h=>absurd h (by omega)⟩
  case round =>
    obtain ⟨k,t',hk,rfl,⟨hb,rfl⟩,rx,sf,sk,u1,u2,u3⟩:=hrel
    have RK:=hid rx
    have FK:=hid sf
    have SK:=hid sk
    clear rx sf sk SK1 SF1 RX1
    by_cases hlt:k<n
    · have hk1:(k:Int)<(n:Int):=by omega
      have hk0:0<=(k:Int):=by omega
      have hc1:(k:Int)+1<=(cd:Int):=by omega
      have i0:∀ w,(Instr.index 200 (.agg #[.slice (some ⟨d,0,none⟩) (k+1) cd,.slice (some ⟨d,k,none⟩) 1 (cd - k)]) (.int .i64 0)).run Tryz.prog w=.ok (.slice (some ⟨d,0,none⟩) (k+1) cd) w:=fun _=>by kernel_rfl
      have i1:∀ w,(Instr.index 200 (.agg #[.slice (some ⟨d,0,none⟩) (k+1) cd,.slice (some ⟨d,k,none⟩) 1 (cd - k)]) (.int .i64 1)).run Tryz.prog w=.ok (.slice (some ⟨d,k,none⟩) 1 (cd - k)) w:=fun _=>by kernel_rfl
      go_wp2_with fail
      go_quiet (fail)
      go_wp2
      go_loopw [5,34] (fun hv mv wr'=>∃ (m:Int) (t2':Int),0<=m/\m<=2/\mv=.int .i64 m/\(∃ b,hv=.bool b)/\RowX wr' d 0 n n/\Sf p w0 wr'/\Sk wr' p g1 c1 g2 c2 n r wf W0 t2'/\0<=t2'/\t2'<=t'/\(1<=m->t2'<t')) (fun _ mv _=>2 - (intOf mv).toNat)
      case atStart=>exact ⟨0,t',by omega,by omega,rfl,⟨_,rfl⟩,RK.out,sf_drewN FK.out nq,SK.out,u1,Int.le_refl _,fun h=>absurd h (by omega)⟩
      case round =>
        obtain ⟨m,t2',hm0,hm,rfl,⟨hb2,rfl⟩,rx,sf,sk,z1,z2,z3⟩:=hrel
        have RM:=hid rx
        have FM:=hid sf
        have SM:=hid sk
        clear rx sf sk RK FK SK
        have hm3:m=0∨m=1∨m=2:=by omega
        rcases hm3 with rfl|rfl|rfl
        · skip
          have TR1:=hid (htr_any p n g1 c1 g2 c2 r W0 t2' step wf w0 wr d 0 (k+1) cd SM.out FM.out z1 (by omega) h0 (by omega) (rowX_sub RM.out (by omega)) dp (by omega) s1 s2 WB WD)
          go_wp2_with fail
          with_reducible refine TR1.out.mono ?_
          rintro e w5 (⟨q',cap',c',rfl,y1,y2,y3,y4⟩|⟨⟨v,rfl⟩,y1,y2,y3,y4⟩)
          · go_wp2
            exact ⟨rfl,.inl ⟨q',cap',c',rfl,y1,y2,y3,y4⟩⟩
          · have RM5:=hid (rowX_sf y3 dp RM.out)
            have FM5:=hid y2
            have SM5:=hid y4
            clear y2 y3 y4 TR1
            cases v with
           |true =>
              go_wp2
              go_roundw
              case rel=>exact ⟨1,t2' - 1,by omega,by omega,by go_num,⟨_,rfl⟩,RM5.out,FM5.out,SM5.out,by omega,by omega,fun _=>by omega⟩
              case measure=>simp [intOf]
           |false =>
              have TR2:=hid (htr_any p n g1 c1 g2 c2 r W0 (t2' - 1) (-step) wf w0 w5 d 0 (k+1) cd SM5.out FM5.out (by omega) (by omega) h0 (by omega) (rowX_sub RM5.out (by omega)) dp (by omega) (by omega) (by omega) WB WD)
              go_wp2_with fail
              with_reducible refine TR2.out.mono ?_
              rintro e w6 (⟨q',cap',c',rfl,x1,x2,x3,x4⟩|⟨⟨v,rfl⟩,x1,x2,x3,x4⟩)
              · go_wp2
                exact ⟨rfl,.inl ⟨q',cap',c',rfl,x1,x2,x3,x4⟩⟩
              · have RM6:=hid (rowX_sf x3 dp RM5.out)
                have FM6:=hid x2
                have SM6:=hid x4
                clear x2 x3 x4 TR2
                cases v with
               |true =>
                  go_wp2
                  go_roundw
                  case rel=>exact ⟨1,t2' - 1 - 1,by omega,by omega,by go_num,⟨_,rfl⟩,RM6.out,FM6.out,SM6.out,by omega,by omega,fun _=>by omega⟩
                  case measure=>simp [intOf]
               |false =>
                  go_wp2
                  go_roundw
                  case rel=>exact ⟨1,t2' - 1 - 1,by omega,by omega,by go_num,⟨_,rfl⟩,RM6.out,FM6.out,SM6.out,by omega,by omega,fun _=>by omega⟩
                  case measure=>simp [intOf]
        · skip
          have TR1:=hid (htr_any p n g1 c1 g2 c2 r W0 t2' step wf w0 wr d k (1) (cd - k) SM.out FM.out z1 (by omega) h0 (by omega) (rowX_sub RM.out (by omega)) dp (by omega) s1 s2 WB WD)
          go_wp2_with fail
          with_reducible refine TR1.out.mono ?_
          rintro e w5 (⟨q',cap',c',rfl,y1,y2,y3,y4⟩|⟨⟨v,rfl⟩,y1,y2,y3,y4⟩)
          · go_wp2
            exact ⟨rfl,.inl ⟨q',cap',c',rfl,y1,y2,y3,y4⟩⟩
          · have RM5:=hid (rowX_sf y3 dp RM.out)
            have FM5:=hid y2
            have SM5:=hid y4
            clear y2 y3 y4 TR1
            cases v with
           |true =>
              go_wp2
              go_roundw
              case rel=>exact ⟨2,t2' - 1,by omega,by omega,by go_num,⟨_,rfl⟩,RM5.out,FM5.out,SM5.out,by omega,by omega,fun _=>by omega⟩
              case measure=>simp [intOf]
           |false =>
              have TR2:=hid (htr_any p n g1 c1 g2 c2 r W0 (t2' - 1) (-step) wf w0 w5 d k (1) (cd - k) SM5.out FM5.out (by omega) (by omega) h0 (by omega) (rowX_sub RM5.out (by omega)) dp (by omega) (by omega) (by omega) WB WD)
              go_wp2_with fail
              with_reducible refine TR2.out.mono ?_
              rintro e w6 (⟨q',cap',c',rfl,x1,x2,x3,x4⟩|⟨⟨v,rfl⟩,x1,x2,x3,x4⟩)
              · go_wp2
                exact ⟨rfl,.inl ⟨q',cap',c',rfl,x1,x2,x3,x4⟩⟩
              · have RM6:=hid (rowX_sf x3 dp RM5.out)
                have FM6:=hid x2
                have SM6:=hid x4
                clear x2 x3 x4 TR2
                cases v with
               |true =>
                  go_wp2
                  go_roundw
                  case rel=>exact ⟨2,t2' - 1 - 1,by omega,by omega,by go_num,⟨_,rfl⟩,RM6.out,FM6.out,SM6.out,by omega,by omega,fun _=>by omega⟩
                  case measure=>simp [intOf]
               |false =>
                  go_wp2
                  go_roundw
                  case rel=>exact ⟨2,t2' - 1 - 1,by omega,by omega,by go_num,⟨_,rfl⟩,RM6.out,FM6.out,SM6.out,by omega,by omega,fun _=>by omega⟩
                  case measure=>simp [intOf]
        · go_wp2
          go_roundw
          case rel=>exact ⟨k+1,t2',by omega,by go_num,⟨_,rfl⟩,RM.out,FM.out,SM.out,z1,by omega,fun _=>by have:=z3 (by omega);omega⟩
          case measure=>simp [intOf];omega
    · obtain rfl:k=n:=by omega
      go_wp2
      go_ret
      exact .inr ⟨_,t',rfl,u1,u3 (by omega),FK.out,SK.out⟩
end Go.Proofs.YtbcjiigmbcfkeaaGreat
namespace Go.Proofs.YtbcjiigmbcfkeaaGreat
open Go.Lib (hid)
set_option maxRecDepth 100000
set_option maxHeartbeats 4000000
open Go.ChangeShapes Go.WideShapes Go.RowKit
open Sh
def trOf (w:World) (p:Nat):Nat:=match w.cell? ⟨p,5,none⟩ with|some v=>(intOf v).toNat|none=>0
theorem trOf_sk {w:World} {p g1 c1 g2 c2 n:Nat} {r W0 tr:Int} {wf:(Nat->Int)->Int} (h:Sk w p g1 c1 g2 c2 n r wf W0 tr):trOf w p=tr.toNat:=by
  obtain ⟨q,cap,c,a1,_⟩:=h
  unfold trOf
  rw [a1.2.2.2.2.2.1]
  rfl
theorem hrn_any (p n g1 c1 g2 c2:Nat) (r W0 tr:Int) (wf:(Nat->Int)->Int) (w0 w:World) (S:Sk w p g1 c1 g2 c2 n r wf W0 tr) (S0:Sf p w0 w) (lp:p<w0.heap.size) (t1:0<=tr) (t2:tr<=1000) (h0:0<n) (hn:n<=19) (WB:Hid (∀ c:Nat->Int,-4611686018427387904<=wf c/\wf c<=9223372036854775807)) (WD:Hid (∀ W b cp c',Sf p w0 W->RowI W b 0 n c'->(∀ i,i<n->0<=c' i/\c' i<=100)->Calls Tryz.prog 130 #[bdv g1 c1 g2 c2 n r,.slice (some ⟨b,0,none⟩) n cp] W fun e w'=>e=.returned (.int .i64 (wf c'))/\Below W.heap.size W w')) (LF:Hid (∀ W b cp c',Sf p w0 W->RowI W b 0 n c'->(∀ i,i<n->0<=c' i/\c' i<=100)->Calls Tryz.prog 180 #[bdv g1 c1 g2 c2 n r,.slice (some ⟨b,0,none⟩) n cp] W fun e w'=>∃ d cap,e=.returned (.slice (some ⟨d,0,none⟩) n cap)/\W.heap.size<=d/\n<=cap/\OwX w' d n/\Below W.heap.size W w')) :
    Calls Tryz.prog 83 #[.pointer (some ⟨p,0,none⟩)] w fun e w'=>Pn w0 w' e p n wf W0:=by
  have SX:=hid S
  have S00:=hid S0
  clear S S0
  go_enter Tryz.func83,Tryz.ntmps83
  go_wp2
  go_loopw [2] (fun sv wr=>∃ st t':Int,sv=.int .i64 st/\0<=st/\st<=32/\Sk wr p g1 c1 g2 c2 n r wf W0 t'/\0<=t'/\t'<=1000/\Sf p w0 wr) (fun sv _=>(intOf sv).toNat)
  case atStart=>exact ⟨32,tr,rfl,by omega,by omega,SX.out,t1,t2,S00.out⟩
  case round =>
    obtain ⟨st,t',rfl,a0,a1,sk,u1,u2,sf⟩:=hrel
    have SK:=hid sk
    have FK:=hid sf
    clear sk sf SX S00
    by_cases hlt:(0:Int)<st
    · go_wp2
      go_loopw [9] (fun _ wr=>∃ t2':Int,Sk wr p g1 c1 g2 c2 n r wf W0 t2'/\0<=t2'/\t2'<=1000/\Sf p w0 wr) (fun _ wr=>trOf wr p)
      case atStart=>exact ⟨t',SK.out,u1,u2,FK.out⟩
      case round =>
        obtain ⟨t2',sk,z1,z2,sf⟩:=hrel
        have SM:=hid sk
        have FM:=hid sf
        have TO:=hid (trOf_sk sk)
        have PS:=hid (hps_any p n g1 c1 g2 c2 r W0 t2' st wf w0 _ sk sf lp z1 z2 h0 hn (by omega) a1 WB WD LF)
        clear sk sf SK FK
        go_wp2_with fail
        with_reducible refine PS.out.mono ?_
        rintro e w5 (⟨q',cap',c',rfl,y1,y2,y3,y4⟩|⟨v,t3,rfl,y1,y2,y3,y4⟩)
        · go_wp2
          exact ⟨rfl,q',cap',c',rfl,y1,y2,y3,y4⟩
        · have F5:=hid y3
          have S5:=hid y4
          have T5':=hid (trOf_sk y4)
          clear y3 y4
          cases v with
         |true =>
            go_wp2
            go_roundw
            case rel=>exact ⟨t3,S5.out,y1,by omega,F5.out⟩
            case measure=>rw [T5'.out,TO.out];omega
         |false =>
            go_wp2
            go_roundw
            case rel=>exact ⟨_,t3,by go_num,by omega,by omega,S5.out,y1,by omega,F5.out⟩
            case measure=>simp [intOf];omega
    · have FK':=FK.out
      obtain ⟨q,cap,c,b1,b2,b3,b4,b5⟩:=SK.out
      have ST:=hid (hst_any p q n cap _ _ r (wf c) t' _ b1)
      clear b1 SK FK
      go_wp2_with fail
      with_reducible refine ST.out.mono ?_
      rintro e w5 ⟨rfl,rfl⟩
      go_wp2
      exact ⟨rfl,q,cap,c,rfl,b2,b4,b5,FK'⟩
attribute [local go_sem 1000000] q7run_hi1 q7run_lo1
def e9rep7 (vv:Int) (m n:Nat):List Value:=List.replicate m (.int .i64 vv) ++ List.replicate (n - m) (.int .i64 0)
theorem e9rep7_at {vv:Int} {m n k:Nat} (hk:k<m):(e9rep7 vv m n)[k]?=some (.int .i64 vv):=by
  unfold e9rep7
  rw [List.getElem?_append_left (by simpa using hk)]
  simp [hk]
theorem e9rep7_splice {vv:Int} (m n k:Nat):splice (e9rep7 vv m n) m (List.replicate k (.int .i64 vv))=e9rep7 vv (m+k) n:=by
  unfold splice e9rep7
  rw [List.take_left' (by simp),List.length_replicate,List.drop_append]
  simp only [List.length_replicate,List.drop_replicate]
  rw [show m - (m+k)=0 by omega,show m+k - m=k by omega,List.replicate_zero,List.nil_append,← List.append_assoc,List.replicate_append_replicate,show n - m - k=n - (m+k) by omega]
theorem e9ones_one {vv:Int} {k:Nat}:∀ v ∈ List.replicate k (Value.int .i64 vv),v.oneCell'=true:=fun v hv=>by
  obtain rfl:=(List.mem_replicate.1 hv).2
  rfl
def e9Bk7 (vv:Int) (w:World) (g m n:Nat):Prop:=w.heap[g]?=some (.cells (e9rep7 vv m n).toArray 3 (0,0))
theorem e9bk7_lt {vv:Int} {w:World} {g m n:Nat} (h:e9Bk7 vv w g m n):g<w.heap.size:=(Array.getElem?_eq_some_iff.1 h).1
theorem e9bk7_cell {vv:Int} {w:World} {g m n k:Nat} (h:e9Bk7 vv w g m n) (hk:k<m):w.cell? ⟨g,k,none⟩=some (.int .i64 vv):=by
  unfold World.cell?
  rw [show w.heap[(⟨g,k,none⟩:Addr).block]?=w.heap[g]? from rfl,h]
  have:=e9rep7_at (vv:=vv) (n:=n) hk
  simp [this]
theorem e9bk7_row {vv:Int} {w:World} {g n:Nat} (h:e9Bk7 vv w g n n):RowI w g 0 n (fun _=>vv):=⟨e9bk7_lt h,fun k hk=>by rw [Nat.zero_add];exact e9bk7_cell h hk⟩
theorem e9bk7_src {vv:Int} {w:World} {g m n k:Nat} (h:e9Bk7 vv w g m n) (hk:k<=m):∀ j v,(List.replicate k (Value.int .i64 vv))[j]?=some v->w.cell? ((⟨g,0,none⟩:Addr).add j)=some v:=fun j v hv=>by
  have hj:j<k:=by
    rcases Nat.lt_or_ge j k with x|x
    · exact x
    · rw [List.getElem?_eq_none (by simpa using x)] at hv;cases hv
  have e:(⟨g,0,none⟩:Addr).add j=⟨g,j,none⟩:=by
    unfold Addr.add
    split
    · rename_i e;subst e;rfl
    · simp
  rw [e,e9bk7_cell h (by omega)]
  simp [hj] at hv
  exact congrArg some hv
theorem e9cpy7 {vv:Int} (W:World) (g q n:Nat) (h:e9Bk7 vv W g 0 n) (hq:W.cell? ⟨q,0,none⟩=some (.int .i64 vv)) :
    ∃ w3,(Builtin.copy_ #[26,26] 3 #[.slice (some ⟨g,0,none⟩) n n,.slice (some ⟨q,0,none⟩) 1 1]).run Tryz.prog W=.ok (.int .i64 ((min 1 n:Nat):Int)) w3/\e9Bk7 vv w3 g (min 1 n) n/\Below g W w3:=by
  rcases Nat.eq_zero_or_pos n with e|e
  · subst e
    exact ⟨W,run_copy_none (P:=Tryz.prog) W 26 26 3 _ (some ⟨g,0,none⟩) (some ⟨q,0,none⟩) 0 0 1 1 Tryz.underlying26 q7szI rfl,h,Below.refl _ _⟩
  · have e1:min 1 n=1:=by omega
    have hrun:=run_copy_row (P:=Tryz.prog) W 26 26 3 _ g 0 n n ⟨q,0,none⟩ 1 1 (e9rep7 vv 0 n).toArray 3 [.int .i64 vv] Tryz.underlying26 q7szI h (by show 1=min 1 n;omega) (fun j v hv=>by
      cases j with
     |zero=>simp at hv;subst hv;exact hq
      | succ j=>simp at hv) (by simp [e9rep7]<;>omega) (fun v hv=>by simp at hv;subst hv;rfl)
    rw [e1]
    refine ⟨_,hrun,?_,below_setRow (Below.refl _ _) (Nat.le_refl _) _⟩
    have:=e9rep7_splice (vv:=vv) 0 n 1
    unfold e9Bk7
    rw [Nat.zero_add] at this
    rw [← this]
    simpa [splice] using setRow_heap W g _ _ 3 _ h
theorem e9cpy7b {vv:Int} (W:World) (g m n:Nat) (h:e9Bk7 vv W g m n) (hm:m<n) :
    ∃ w3,(Builtin.copy_ #[26,26] 3 #[.slice (q7cutA (some ⟨g,0,none⟩) m n) (n - m) (n - m),.slice (some ⟨g,0,none⟩) m n]).run Tryz.prog W=.ok (.int .i64 ((min m (n - m):Nat):Int)) w3/\e9Bk7 vv w3 g (m+min m (n - m)) n/\Below g W w3:=by
  have hrun:=run_copy_row (P:=Tryz.prog) W 26 26 3 _ g m (n - m) (n - m) ⟨g,0,none⟩ m n (e9rep7 vv m n).toArray 3 (List.replicate (min m (n - m)) (.int .i64 vv)) Tryz.underlying26 q7szI h List.length_replicate (e9bk7_src h (by omega)) (by rw [List.length_replicate];simp [e9rep7]<;>omega) e9ones_one
  rw [q7cutA_some (by omega),Nat.zero_add]
  rw [List.length_replicate] at hrun
  refine ⟨_,hrun,?_,below_setRow (Below.refl _ _) (Nat.le_refl _) _⟩
  have:=e9rep7_splice (vv:=vv) m n (min m (n - m))
  unfold e9Bk7
  rw [← this]
  simpa [splice] using setRow_heap W g _ _ 3 _ h
theorem e9bk7_make {vv:Int} (w:World) (n:Nat):e9Bk7 vv (w.alloc (.cells (madeCells #[.int .i64 0] n) 3)) w.heap.size 0 n:=by
  unfold e9Bk7
  rw [heap_alloc_new]
  congr 2
  apply Array.ext'
  rw [toList_madeCells_one]
  simp [e9rep7]
theorem e9rpt_any {vv:Int} (q n:Nat) (w:World) (hq:w.cell? ⟨q,0,none⟩=some (.int .i64 vv)) (hn:n<=1000) :
    Calls Tryz.prog 129 #[.slice (some ⟨q,0,none⟩) 1 1,.int .i64 (n:Int)] w fun e w'=>∃ g,e=.returned (.slice (some ⟨g,0,none⟩) n n)/\w.heap.size<=g/\RowI w' g 0 n (fun _=>vv)/\Below w.heap.size w w':=by
  have hn':(n:Int)<=1000:=by omega
  have HQ:=hid hq
  have hql:q<w.heap.size:=by
    unfold World.cell? at hq
    split at hq
    · rename_i e;exact (Array.getElem?_eq_some_iff.1 e).1
    · cases hq
  have BM:Hid (∀ W,Calls Tryz.prog 179 #[.int .u64 1,.int .u64 (n:Int)] W fun e w'=>e=.returned (.tuple #[.int .u64 0,.int .u64 (n:Int)])/\w'=W):=hid fun W=>by
    have:=Tryz.bits_Mul 1 n (by omega) (by omega) W
    rw [Nat.one_mul,Nat.div_eq_of_lt (by omega),Nat.mod_eq_of_lt (by omega)] at this
    exact this
  have hmk:=run_make_row' (P:=Tryz.prog) 26 3 (.int .i64 0) 8 Tryz.underlying26 q7infoI rfl .i64 .i64 n (by omega) (by omega)
  have BK:=hid (e9bk7_make (vv:=vv) w n)
  have BB:=hid (show Below w.heap.size w (w.alloc (.cells (madeCells #[.int .i64 0] n) 3)) from balloc (Below.refl _ w) _)
  have SZ:=hid (World.size_alloc w (.cells (madeCells #[.int .i64 0] n) 3))
  have h0:0<=(n:Int):=by omega
  obtain ⟨w3,hcp,bk3,bl3⟩:=e9cpy7 (vv:=vv) (w.alloc (.cells (madeCells #[.int .i64 0] n) 3)) w.heap.size q n BK.out (by go_simp)
  have B3:=hid bk3
  have BW:=hid (BB.out.trans bl3)
  clear bk3 bl3
  clear hq
  go_enter Tryz.func129,Tryz.ntmps129
  go_wp2_with fail
  with_reducible refine (BM.out _).mono ?_
  rintro e w1 ⟨rfl,rfl⟩
  go_wp2
  clear hmk hcp BK BB SZ
  go_loopw [8] (fun kv wr=>∃ m:Nat,m<=n/\(1<=m∨n=0)/\kv=.int .i64 (m:Int)/\e9Bk7 vv wr w1.heap.size m n/\Below w1.heap.size w1 wr) (fun kv _=>n - (intOf kv).toNat)
  case atStart=>exact ⟨min 1 n,by omega,by omega,by first|rfl|simp,B3.out,BW.out⟩
  case round =>
    obtain ⟨m,hm,hm1,rfl,bk,bb⟩:=hrel
    have BK:=hid bk
    have BB:=hid bb
    have BD:=hid (show e9Bk7 vv wr.drew w1.heap.size m n from bk)
    clear bk bb B3 BW
    by_cases hlt:m<n
    · have hk1:(m:Int)<(n:Int):=by omega
      have hk0:0<=(m:Int):=by omega
      have hk2:(m:Int)<=(n:Int):=by omega
      obtain ⟨w4,hcp2,bk4,bl4⟩:=e9cpy7b (vv:=vv) wr.drew w1.heap.size m n BD.out hlt
      have B5:=hid bk4
      have B6:=hid (BB.out.trans (q7below_of_drew bl4))
      clear bk4 bl4
      go_wp2
      go_region
      all_goals
        clear hcp2
        go_wp2
        go_roundw
        case rel=>exact ⟨m+min m (n - m),by omega,by omega,by go_num,B5.out,B6.out⟩
        case measure=>simp [intOf];omega
    · obtain rfl:m=n:=by omega
      have hB:=BB.out
      go_wp2
      go_ret
      exact ⟨w1.heap.size,rfl,Nat.le_refl _,e9bk7_row BK.out,hB⟩
theorem e9evn_any {vv:Int} (n:Nat) (w:World) (hn:n<=1000):Calls Tryz.prog 79 #[.int .i64 (n:Int),.int .i64 vv] w fun e w'=>∃ g,e=.returned (.slice (some ⟨g,0,none⟩) n n)/\w.heap.size<=g/\RowI w' g 0 n (fun _=>vv)/\Below w.heap.size w w':=by
  have RP:=hid (e9rpt_any (vv:=vv) w.heap.size n (w.alloc (.cells #[.int .i64 vv] 3)) (by go_simp) hn)
  go_enter Tryz.func79,Tryz.ntmps79
  go_wp2_with fail
  with_reducible refine RP.out.mono ?_
  rintro e w1 ⟨g,rfl,lg,rr,hb1⟩
  have RR:=hid rr
  have hB:=bstep (balloc (Below.refl _ w) _) hb1
  clear rr hb1
  go_wp2
  go_ret
  exact ⟨g,rfl,(by simp at lg;omega),RR.out,hB⟩
end Go.Proofs.YtbcjiigmbcfkeaaGreat
namespace Go.Proofs.YtbcjiigmbcfkeaaGreat
open Go.Lib (hid)
set_option maxRecDepth 100000
set_option maxHeartbeats 4000000
open Go.ChangeShapes Go.WideShapes Go.RowKit
open Sh
theorem ow3_cells {w:World} {b:Nat} {x y z:Value} (h:Ow3 w b x y z):w.cell? ⟨b,0,none⟩=some x/\w.cell? ⟨b,1,none⟩=some y/\w.cell? ⟨b,2,none⟩=some z:=⟨h.1,h.2.1,h.2.2.1⟩
theorem sst_new (w:World) (t1 t2 best:Value) (r wd tr:Int) (T:TypeId):Sst (w.alloc (.cells #[t1,t2,.int .i64 r,best,.int .i64 wd,.int .i64 tr] T)) w.heap.size t1 t2 r best wd tr:=⟨by go_simp,by go_simp,by go_simp,by go_simp,by go_simp,by go_simp,by go_simp,by go_simp,by go_simp,by simp⟩
theorem hsi_any (n g1 c1 g2 c2:Nat) (r:Int) (wf:(Nat->Int)->Int) (w:World) (h0:0<n) (hn:n<=19) (WD:Hid (∀ W b cp c',Below w.heap.size w W->RowI W b 0 n c'->(∀ i,i<n->0<=c' i/\c' i<=100)->Calls Tryz.prog 130 #[bdv g1 c1 g2 c2 n r,.slice (some ⟨b,0,none⟩) n cp] W fun e w'=>e=.returned (.int .i64 (wf c'))/\Below W.heap.size W w')) :
    Calls Tryz.prog 82 #[bdv g1 c1 g2 c2 n r] w fun e w'=>∃ p,e=.returned (.pointer (some ⟨p,0,none⟩))/\w.heap.size<=p/\Sk w' p g1 c1 g2 c2 n r wf (wf (fun _=>1)) 1000/\Below w.heap.size w w':=by
  have hn':(n:Int)<=19:=by omega
  have M0:=hid (ow3_new w (.slice (some ⟨g1,0,none⟩) n c1) (.slice (some ⟨g2,0,none⟩) n c2) (.int .i64 r) 91)
  have B0:=hid (show Below w.heap.size w (w.alloc (.cells #[.slice (some ⟨g1,0,none⟩) n c1,.slice (some ⟨g2,0,none⟩) n c2,.int .i64 r] 91)) from balloc (Below.refl _ w) _)
  have EV:=hid (fun W=>e9evn_any (vv:=1) n W (by omega))
  obtain ⟨m0,m1,m2,m3,m4,m5,m6⟩:=M0.out
  go_enter Tryz.func82,Tryz.ntmps82
  go_wp2_with fail
  with_reducible refine (EV.out _).mono ?_
  rintro e w1 ⟨q,rfl,_,rr,hb1⟩
  have M1:=hid (ow3_below M0.out hb1)
  have B1:=hid (bstep B0.out hb1)
  have WD1:=hid (WD.out w1.drew q n (fun _=>1) (Below.drew B1.out) rr (fun _ _=>by decide))
  have RR:=hid rr
  clear hb1 rr m0 m1 m2 m3 m4 m5 m6 M0 B0
  go_wp2
  have i0:Ow3 w1.drew w.heap.size _ _ _:=M1.out
  go_region_held3 (fun w'=>w'.cell? ⟨w.heap.size,0,none⟩=some (.slice (some ⟨g1,0,none⟩) n c1)/\w'.cell? ⟨w.heap.size,1,none⟩=some (.slice (some ⟨g2,0,none⟩) n c2)/\w'.cell? ⟨w.heap.size,2,none⟩=some (.int .i64 r))
    (first|(with_reducible exact ow3_cells i0)|(with_reducible exact ow3_cells i1)|(with_reducible exact ow3_cells (ow3_alloc i1 _))|fail)
    (first|(go_at_call 130;(with_reducible refine WD1.out.mono ?_);rintro e w2 ⟨rfl,hb2⟩;have i1:=ow3_below i0 hb2)|fail)
  have RD:=hid (show RowI w1.drew q 0 n (fun _=>1) from RR.out)
  have lq:q<w1.heap.size:=RR.out.1
  have B2:=hid (bstep (Below.drew B1.out) hb2)
  have sz2:w1.heap.size<=w2.heap.size:=hb2.size
  have RW:=hid (rowI_below (rowI_below RD.out hb2) ((Below.refl w2.heap.size w2).alloc (Nat.le_refl _) (.cells #[.slice (some ⟨g1,0,none⟩) n c1,.slice (some ⟨g2,0,none⟩) n c2,.int .i64 r,.slice (some ⟨q,0,none⟩) n n,.int .i64 (wf fun _=>1),.int .i64 1000] 162)))
  have SN:=hid (sst_new w2 (.slice (some ⟨g1,0,none⟩) n c1) (.slice (some ⟨g2,0,none⟩) n c2) (.slice (some ⟨q,0,none⟩) n n) r (wf fun _=>1) 1000 162)
  have B3:=hid (balloc B2.out (.cells #[.slice (some ⟨g1,0,none⟩) n c1,.slice (some ⟨g2,0,none⟩) n c2,.int .i64 r,.slice (some ⟨q,0,none⟩) n n,.int .i64 (wf fun _=>1),.int .i64 1000] 162))
  have lp3:w2.heap.size<(w2.alloc (.cells #[.slice (some ⟨g1,0,none⟩) n c1,.slice (some ⟨g2,0,none⟩) n c2,.int .i64 r,.slice (some ⟨q,0,none⟩) n n,.int .i64 (wf fun _=>1),.int .i64 1000] 162)).heap.size:=by simp
  have lwp:w.heap.size<=w2.heap.size:=B2.out.size
  go_wp2
  generalize w2.alloc (.cells #[.slice (some ⟨g1,0,none⟩) n c1,.slice (some ⟨g2,0,none⟩) n c2,.int .i64 r,.slice (some ⟨q,0,none⟩) n n,.int .i64 (wf fun _=>1),.int .i64 1000] 162)=w3 at *
  clear hb2 i0 i1 M1 B1 B2 RD RR WD1 EV
  obtain ⟨p,hp⟩:∃ p,w2.heap.size=p:=⟨_,rfl⟩
  rw [hp] at SN lp3 lwp sz2
  have K3:=hid (show Sk w3 p g1 c1 g2 c2 n r wf (wf fun _=>1) 1000 from ⟨q,n,fun _=>1,SN.out,RW.out,by omega,(fun _ _=>show (0:Int)<=1/\(1:Int)<=100 by decide),Int.le_refl _⟩)
  rw [hp]
  clear hp SN RW
  go_loopw [6] (fun kv wr=>∃ ch:Int,kv=.int .i64 ch/\1<=ch/\ch<=50/\Sk wr p g1 c1 g2 c2 n r wf (wf fun _=>1) 1000/\Sf p w3 wr) (fun kv _=>(intOf kv).toNat)
  case atStart=>exact ⟨50,rfl,by omega,by omega,K3.out,sf_refl _ _⟩
  case round =>
    obtain ⟨ch,rfl,a1,a2,⟨qc,capc,c',sc,rc,cp5,ok',le'⟩,sf⟩:=hrel
    have SS:=hid sc
    have RC:=hid rc
    have FK:=hid sf
    have B4:=hid (B3.out.trans (sf.1.mono lwp))
    have sz4:w.heap.size<=wr.heap.size:=B4.out.size
    have EV2:=hid (fun W=>e9evn_any (vv:=ch) n W (by omega))
    clear sc rc sf K3
    by_cases hlt:(1:Int)<ch
    · by_cases hw:wf (fun _=>ch)<=wf c'
      · skip
        have OF:=hid (fun W q2 (h:Below wr.heap.size wr W) (r2:RowI W q2 0 n (fun _=>ch))=>hof_yes p g1 c1 g2 c2 n q2 0 n r (wf c') 1000 (wf c') (wf fun _=>ch) _ W (sst_below SS.out h) (hid fun W' B'=>WD.out W' q2 n (fun _=>ch) (B4.out.trans ((h.mono sz4).trans (B'.mono (Nat.le_trans sz4 h.size)))) (rowI_below r2 B') (fun _ _=>show (0:Int)<=ch/\ch<=100 by omega)) (by omega))
        obtain ⟨h0',h1,h2,h3,h4,h5,f3,f4,f5,l4⟩:=SS.out
        have lpw:p<wr.heap.size:=l4
        go_wp2_with fail
        go_region_with (first
         |(go_at_call 79;(with_reducible refine (EV2.out _).mono ?_);rintro e v1 ⟨q2,rfl,lq2,r2,hv⟩;have k4:=(hv.cell (p:=⟨p,4,none⟩) l4).trans h4;have R2:=hid r2;have HV:=hid (show Below wr.heap.size wr v1 from q7below_of_drew hv);have OF1:=hid (OF.out v1 q2 HV.out r2);have q2p:q2 ≠ p:=(by have e:wr.heap.size<=q2:=lq2;omega);clear hv r2)
         |(go_at_call 131;(with_reducible refine OF1.out.mono ?_);rintro e v2 ⟨rfl,s5,y5⟩;have S5:=hid s5;have Y5:=hid (sf_trans (sf_of HV.out (Nat.le_of_lt lpw)) y5);have R5:=hid (sf_rowI y5 q2p R2.out);clear s5 y5)
          | fail)
        all_goals
          have B5:=hid (B4.out.trans (Y5.out.1.mono lwp))
          go_wp2
          go_ret
          exact ⟨p,rfl,lwp,⟨q2,n,fun _=>ch,S5.out,R5.out,q2p,(fun _ _=>show (0:Int)<=ch/\ch<=100 by omega),by omega⟩,B5.out⟩
      · skip
        have OF:=hid (fun W q2 (h:Below wr.heap.size wr W) (r2:RowI W q2 0 n (fun _=>ch))=>hof_no p g1 c1 g2 c2 n q2 0 n r (wf c') 1000 (wf c') (wf fun _=>ch) _ W (sst_below SS.out h) (hid fun W' B'=>WD.out W' q2 n (fun _=>ch) (B4.out.trans ((h.mono sz4).trans (B'.mono (Nat.le_trans sz4 h.size)))) (rowI_below r2 B') (fun _ _=>show (0:Int)<=ch/\ch<=100 by omega)) (by omega))
        obtain ⟨h0',h1,h2,h3,h4,h5,f3,f4,f5,l4⟩:=SS.out
        have lpw:p<wr.heap.size:=l4
        go_wp2_with fail
        go_region_with (first
         |(go_at_call 79;(with_reducible refine (EV2.out _).mono ?_);rintro e v1 ⟨q2,rfl,lq2,r2,hv⟩;have k4:=(hv.cell (p:=⟨p,4,none⟩) l4).trans h4;have R2:=hid r2;have HV:=hid (show Below wr.heap.size wr v1 from q7below_of_drew hv);have OF1:=hid (OF.out v1 q2 HV.out r2);have q2p:q2 ≠ p:=(by have e:wr.heap.size<=q2:=lq2;omega);clear hv r2)
         |(go_at_call 131;(with_reducible refine OF1.out.mono ?_);rintro e v2 ⟨rfl,s5,y5⟩;have S5:=hid s5;have Y5:=hid (sf_trans (sf_of HV.out (Nat.le_of_lt lpw)) y5);have R5:=hid (sf_rowI y5 q2p R2.out);clear s5 y5)
          | fail)
        all_goals
          have B5:=hid (B4.out.trans (Y5.out.1.mono lwp))
          go_wp2
          go_roundw
          case rel=>exact ⟨ch - 1,by go_num,by omega,by omega,⟨qc,capc,c',S5.out,sf_rowI Y5.out cp5 RC.out,cp5,ok',le'⟩,sf_trans FK.out Y5.out⟩
          case measure=>simp [intOf];omega
    · go_wp2
      go_ret
      exact ⟨p,rfl,lwp,⟨qc,capc,c',SS.out,RC.out,cp5,ok',le'⟩,B4.out⟩
end Go.Proofs.YtbcjiigmbcfkeaaGreat
