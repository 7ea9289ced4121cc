import Derived.Test.YtbcjiigmbcfkeaaGreatHo43
import Derived.Test.YtbcjiigmbcfkeaaGreatHo44
namespace Go.Proofs.YtbcjiigmbcfkeaaGreat
open Go.Lib (hid)
set_option maxRecDepth 100000
set_option maxHeartbeats 4000000
open Go.ChangeShapes Go.WideShapes Go.RowKit
open Sh
def OneC (w:World) (b:Nat) (v:Value):Prop:=w.cell? ⟨b,0,none⟩=some v/\w.frozen? ⟨b,0,none⟩=false/\b<w.heap.size
theorem onec_in {w w1:World} {b g:Nat} {v:Value} (h:OneC w b v) (hb:Below g w w1) (k:b<g):OneC w1 b v:=⟨(hb.cell (p:=⟨b,0,none⟩) k).trans h.1,(hb.frozen (p:=⟨b,0,none⟩) k).trans h.2.1,Nat.lt_of_lt_of_le h.2.2 hb.size⟩
theorem onec_below {w w1:World} {b:Nat} {v:Value} (h:OneC w b v) (hb:Below w.heap.size w w1):OneC w1 b v:=onec_in h hb h.2.2
theorem onec_new (w:World) (v:Value) (t:TypeId):OneC (w.alloc (.cells #[v] t)) w.heap.size v:=⟨by go_simp,by go_simp,by simp⟩
theorem onec_alloc {w:World} {b:Nat} {v:Value} (h:OneC w b v) (o:Obj):OneC (w.alloc o) b v:=onec_below h ((Below.refl _ w).alloc (Nat.le_refl _) o)
theorem onec_set {w:World} {b:Nat} {v:Value} (h:OneC w b v) (x:Value):OneC (w.setCell ⟨b,0,none⟩ x) b x:=by
  obtain ⟨h1,h2,h3⟩:=h
  exact ⟨by go_simp,by go_simp,by simp<;>exact h3⟩
theorem onec_other {w:World} {b d:Nat} {v:Value} (h:OneC w b v) (k:d ≠ b) (x:Value):OneC (w.setCell ⟨d,0,none⟩ x) b v:=by
  obtain ⟨h1,h2,h3⟩:=h
  exact ⟨by go_simp,by go_simp,by simp<;>exact h3⟩
theorem rowI_setO {w:World} {q n b:Nat} {c:Nat->Int} (h:RowI w q 0 n c) (k:b ≠ q) (v:Value):RowI (w.setCell ⟨b,0,none⟩ v) q 0 n c:=by
  refine ⟨by simp<;>exact h.1,fun i hi=>?_⟩
  have a:=h.2 i hi
  rw [Nat.zero_add] at a ⊢
  go_simp
theorem cell_same {w:World} {b:Nat} {v:Value} (o:OneC w b v) (p:Addr):(w.setCell ⟨b,0,none⟩ v).cell? p=w.cell? p:=by
  by_cases k:(⟨b,0,none⟩:Addr)=p
  · subst k
    rw [World.cell?_setCell_same (h:=o.1),o.1]
  · exact World.cell?_setCell_other _ _ _ _ k
theorem rowI_setS {w:World} {q n b:Nat} {c:Nat->Int} {v:Value} (h:RowI w q 0 n c) (o:OneC w b v):RowI (w.setCell ⟨b,0,none⟩ v) q 0 n c:=⟨by simpa using h.1,fun k hk=>(cell_same o _).trans (h.2 k hk)⟩
theorem tabM_same {w:World} {g n b:Nat} {f:Nat->Nat->Int × Int} {v:Value} (h:TabM w g n f) (o:OneC w b v):TabM (w.setCell ⟨b,0,none⟩ v) g n f:=by
  refine ⟨by simpa using h.1,fun j hj=>?_⟩
  obtain ⟨d,cap,l,e,r1,r2⟩:=h.2 j hj
  exact ⟨d,cap,l,(cell_same o _).trans e,by simpa using r1,fun k hk=>⟨(cell_same o _).trans (r2 k hk).1,(cell_same o _).trans (r2 k hk).2⟩⟩
theorem rowI_no {w:World} {q n b:Nat} {c:Nat->Int} {x:Option Addr} {u v:Nat} (h:RowI w q 0 n c) (h0:0<n) (o:OneC w b (.slice x u v)):b ≠ q:=by
  rintro rfl
  have a:=h.2 0 h0
  rw [Nat.zero_add,o.1] at a
  exact absurd a (by simp)
theorem him_v (a:Option Addr) (np c:Nat) (a':Option Addr) (nf c':Nat) (D dc:Int) (w:World) (CK:Hid (∀ W,Below w.heap.size w W->Calls Tryz.prog 45 #[msv a np c a' nf c',.int .i64 D] W fun e w'=>e=.returned (.int .i64 dc)/\Below W.heap.size W w')) (z:(dc != 0)=true):Calls Tryz.prog 36 #[msv a np c a' nf c',.int .i64 D] w fun e w'=>e=.returned (.tuple #[.slice none 0 0,.int .i64 dc])/\Below w.heap.size w w':=by
  have M0:=hid (mes_below (mes_below (mes_new w a np c a' nf c' 25) ((Below.refl _ _).alloc (Nat.le_refl _) (.cells #[.slice none 0 0] 26))) ((Below.refl _ _).alloc (Nat.le_refl _) (.cells #[.int .i64 0] 29)))
  have R0:=hid (onec_alloc (onec_new (w.alloc (msc a np c a' nf c' 25)) (.slice none 0 0) 26) (.cells #[.int .i64 0] 29))
  have E0:=hid (onec_new ((w.alloc (msc a np c a' nf c' 25)).alloc (.cells #[.slice none 0 0] 26)) (.int .i64 0) 29)
  simp only [World.size_alloc] at R0 E0
  have B0:=hid (show Below w.heap.size w (((w.alloc (msc a np c a' nf c' 25)).alloc (.cells #[.slice none 0 0] 26)).alloc (.cells #[.int .i64 0] 29)) from balloc (balloc (balloc (Below.refl _ w) _) _) _)
  obtain ⟨m0,m1,ml⟩:=M0.out
  go_enter_defers Tryz.func36,Tryz.ntmps36
  go_wp2_with fail
  with_reducible refine (CK.out _ B0.out).mono ?_
  rintro e w1 ⟨rfl,hb1⟩
  have R1:=hid (onec_below R0.out hb1)
  have E1:=hid (onec_below E0.out hb1)
  have B1:=hid (bstep B0.out hb1)
  clear hb1 m0 m1 ml M0 R0 E0 B0
  obtain ⟨r0,r1,r2⟩:=R1.out
  obtain ⟨e0,e1,e2⟩:=E1.out
  have hB:=B1.out
  clear R1 E1 B1
  go_wp2
  refine ⟨.tuple #[.slice none 0 0,.int .i64 dc],?_,rfl,?_⟩
  · simp [results,Tryz.results36,go_sem,r0,e0]
  · (repeat' (first|with_reducible exact hB|with_reducible refine Below.drew ?_|(with_reducible refine balloc ?_ _)|(with_reducible refine Below.setCell ?_ (by simp<;>omega) _)))
theorem him_ok (a:Option Addr) (np c:Nat) (a':Option Addr) (nf c':Nat) (D r W0:Int) (f1 f2:Nat->Nat->Int × Int) (wf:(Nat->Int)->Int) (w:World) (h0:0<nf) (CK:Hid (∀ W,Below w.heap.size w W->Calls Tryz.prog 45 #[msv a np c a' nf c',.int .i64 D] W fun e w'=>e=.returned (.int .i64 0)/\Below W.heap.size W w')) (BO:Hid (∀ W,Below w.heap.size w W->Calls Tryz.prog 76 #[msv a np c a' nf c',.int .i64 D] W fun e w'=>∃ g1 c1 g2 c2,e=.returned (.tuple #[bdv g1 c1 g2 c2 nf r,.int .i64 0])/\TabM w' g1 nf f1/\TabM w' g2 nf f2/\Below W.heap.size W w')) (SE:Hid (∀ g1 c1 g2 c2 W,TabM W g1 nf f1->TabM W g2 nf f2->Calls Tryz.prog 82 #[bdv g1 c1 g2 c2 nf r] W fun e w'=>∃ p,e=.returned (.pointer (some ⟨p,0,none⟩))/\W.heap.size<=p/\Sk w' p g1 c1 g2 c2 nf r wf W0 1000/\Below W.heap.size W w')) (RU:Hid (∀ g1 c1 g2 c2 p V W,TabM V g1 nf f1->TabM V g2 nf f2->Below V.heap.size V W->V.heap.size<=p->Sk W p g1 c1 g2 c2 nf r wf W0 1000->Calls Tryz.prog 83 #[.pointer (some ⟨p,0,none⟩)] W fun e w'=>Pn W w' e p nf wf W0)) :
    Calls Tryz.prog 36 #[msv a np c a' nf c',.int .i64 D] w fun e w'=>∃ q cap ch,e=.returned (.tuple #[.slice (some ⟨q,0,none⟩) nf cap,.int .i64 0])/\RowI w' q 0 nf ch/\(∀ i,i<nf->0<=ch i/\ch i<=100)/\wf ch<=W0/\Below w.heap.size w w':=by
  have hmf:∀ (fn:Fn) (first cap:Array Value) (w:World),(Instr.makeFunc fn first cap).run Tryz.prog w=.ok (.func fn first cap) w:=fun _ _ _ _=>rfl
  have M0:=hid (mes_below (mes_below (mes_new w a np c a' nf c' 25) ((Below.refl _ _).alloc (Nat.le_refl _) (.cells #[.slice none 0 0] 26))) ((Below.refl _ _).alloc (Nat.le_refl _) (.cells #[.int .i64 0] 29)))
  have R0:=hid (onec_alloc (onec_new (w.alloc (msc a np c a' nf c' 25)) (.slice none 0 0) 26) (.cells #[.int .i64 0] 29))
  have E0:=hid (onec_new ((w.alloc (msc a np c a' nf c' 25)).alloc (.cells #[.slice none 0 0] 26)) (.int .i64 0) 29)
  simp only [World.size_alloc] at R0 E0
  have B0:=hid (show Below w.heap.size w (((w.alloc (msc a np c a' nf c' 25)).alloc (.cells #[.slice none 0 0] 26)).alloc (.cells #[.int .i64 0] 29)) from balloc (balloc (balloc (Below.refl _ w) _) _) _)
  obtain ⟨m0,m1,ml⟩:=M0.out
  go_enter_defers Tryz.func36,Tryz.ntmps36
  go_wp2_with fail
  with_reducible refine (CK.out _ B0.out).mono ?_
  rintro e w1 ⟨rfl,hb1⟩
  have M1:=hid (mes_below M0.out hb1)
  have R1:=hid (onec_below R0.out hb1)
  have E1:=hid (onec_below E0.out hb1)
  have B1:=hid (bstep B0.out hb1)
  clear hb1 m0 m1 ml M0 R0 E0 B0
  obtain ⟨m0,m1,ml⟩:=M1.out
  go_wp2_with fail
  with_reducible refine (BO.out _ B1.out).mono ?_
  rintro e w2 ⟨g1,c1,g2,c2,rfl,t1,t2,hb2⟩
  have T1:=hid t1
  have T2:=hid t2
  have R2:=hid (onec_below R1.out hb2)
  have E2:=hid (onec_below E1.out hb2)
  have B2:=hid (bstep B1.out hb2)
  clear hb2 t1 t2 m0 m1 ml M1 R1 E1 B1
  obtain ⟨e0,e1,e2⟩:=E2.out
  have BW:=hid (show Below w2.heap.size (w2.setCell ⟨w.heap.size+1+1,0,none⟩ (.int .i64 0)) ((w2.setCell ⟨w.heap.size+1+1,0,none⟩ (.int .i64 0)).alloc (.cells #[.slice (some ⟨g1,0,none⟩) nf c1,.slice (some ⟨g2,0,none⟩) nf c2,.int .i64 r] 91)) from (Below.refl _ _).alloc (by simp) _)
  have T13:=hid (tabM_below (tabM_same T1.out E2.out) (by simpa using BW.out))
  have T23:=hid (tabM_below (tabM_same T2.out E2.out) (by simpa using BW.out))
  have R3:=hid (onec_alloc (onec_other R2.out (show w.heap.size+1+1 ≠ w.heap.size+1 by omega) (.int .i64 0)) (.cells #[.slice (some ⟨g1,0,none⟩) nf c1,.slice (some ⟨g2,0,none⟩) nf c2,.int .i64 r] 91))
  have E3:=hid (onec_alloc (onec_set E2.out (.int .i64 0)) (.cells #[.slice (some ⟨g1,0,none⟩) nf c1,.slice (some ⟨g2,0,none⟩) nf c2,.int .i64 r] 91))
  have B3:=hid (balloc (Below.setCell B2.out (p:=⟨w.heap.size+1+1,0,none⟩) (show w.heap.size<=w.heap.size+1+1 by omega) (.int .i64 0)) (.cells #[.slice (some ⟨g1,0,none⟩) nf c1,.slice (some ⟨g2,0,none⟩) nf c2,.int .i64 r] 91))
  go_wp2_with fail
  clear BW T1 T2 R2 E2 B2 e0 e1 e2
  generalize (w2.setCell ⟨w.heap.size+1+1,0,none⟩ (.int .i64 0)).alloc (.cells #[.slice (some ⟨g1,0,none⟩) nf c1,.slice (some ⟨g2,0,none⟩) nf c2,.int .i64 r] 91)=w3 at *
  with_reducible refine (SE.out g1 c1 g2 c2 _ T13.out T23.out).mono ?_
  rintro e w4 ⟨p,rfl,lp,sk,hb4⟩
  have SK:=hid sk
  have RU1:=hid (RU.out g1 c1 g2 c2 p w3 w4 T13.out T23.out hb4 lp sk)
  have R4:=hid (onec_below R3.out hb4)
  have E4:=hid (onec_below E3.out hb4)
  have B4:=hid (bstep B3.out hb4)
  have lr:w.heap.size+1<p:=Nat.lt_of_lt_of_le R3.out.2.2 lp
  have le:w.heap.size+1+1<p:=Nat.lt_of_lt_of_le E3.out.2.2 lp
  clear hb4 sk T13 T23 R3 E3 B3
  go_wp2_with fail
  with_reducible refine RU1.out.mono ?_
  rintro e w5 ⟨q,cap,ch,rfl,rr,ok,wl,sf⟩
  have RR:=hid rr
  have R5:=hid (onec_in R4.out sf.1 lr)
  have E5:=hid (onec_in E4.out sf.1 le)
  have B5:=hid (B4.out.trans (sf.1.mono (by omega)))
  clear rr sf R4 E4 B4 SK RU1
  go_wp2
  refine leaves_cons (f:=81) (args:=#[.pointer (some ⟨w.heap.size+1,0,none⟩),.pointer (some ⟨w.heap.size+1+1,0,none⟩)]) (by simp) (by simp [go_sem]) ?_
  refine (him_catch (w.heap.size+1) (w.heap.size+1+1) q nf cap _ _ w5 R5.out.1 E5.out.1 R5.out.2.1 E5.out.2.1 R5.out.2.2 E5.out.2.2 (by omega)).mono ?_
  rintro e u' w' ⟨rfl,rfl,rfl⟩
  have o:Obj:=.cells #[.slice (some ⟨q,0,none⟩) nf cap] 98
  have nq:w.heap.size+1 ≠ q:=rowI_no RR.out h0 R5.out
  have R6:=onec_set (onec_alloc R5.out (.cells #[.slice (some ⟨q,0,none⟩) nf cap] 98)) (.slice (some ⟨q,0,none⟩) nf cap)
  have E6:=onec_other (onec_alloc E5.out (.cells #[.slice (some ⟨q,0,none⟩) nf cap] 98)) (show w.heap.size+1 ≠ w.heap.size+1+1 by omega) (.slice (some ⟨q,0,none⟩) nf cap)
  have Q6:=rowI_setO (rowI_below RR.out ((Below.refl w5.heap.size w5).alloc (Nat.le_refl _) (.cells #[.slice (some ⟨q,0,none⟩) nf cap] 98))) nq (.slice (some ⟨q,0,none⟩) nf cap)
  have R7:=onec_other R6 (show w.heap.size+1+1 ≠ w.heap.size+1 by omega) (.int .i64 0)
  have E7:=onec_set E6 (.int .i64 0)
  have Q7:=rowI_setS Q6 E6
  have B7:=Below.setCell (Below.setCell (balloc B5.out (.cells #[.slice (some ⟨q,0,none⟩) nf cap] 98)) (p:=⟨w.heap.size+1,0,none⟩) (show w.heap.size<=w.heap.size+1 by omega) (.slice (some ⟨q,0,none⟩) nf cap)) (p:=⟨w.heap.size+1+1,0,none⟩) (show w.heap.size<=w.heap.size+1+1 by omega) (.int .i64 0)
  generalize ((w5.alloc (.cells #[.slice (some ⟨q,0,none⟩) nf cap] 98)).setCell ⟨w.heap.size+1,0,none⟩ (.slice (some ⟨q,0,none⟩) nf cap)).setCell ⟨w.heap.size+1+1,0,none⟩ (.int .i64 0)=w7 at *
  obtain ⟨r0,r1,r2⟩:=R7
  obtain ⟨e0,e1,e2⟩:=E7
  refine ⟨.tuple #[.slice (some ⟨q,0,none⟩) nf cap,.int .i64 0],?_,q,cap,ch,rfl,Q7,ok,wl,B7⟩
  simp [results,Tryz.results36,go_sem,r0,e0]
theorem him_err (a:Option Addr) (np c:Nat) (a':Option Addr) (nf c':Nat) (D:Int) (P F:Nat->P3) (w:World) (rp:Lst w a np P) (rf:Lst w a' nf F) (hn:np<=1000000) (hm:nf<=1000000) (z:¬ dpc (vcode ⟨np,nf,P,F⟩) D=0) :
    Calls Tryz.prog 36 #[msv a np c a' nf c',.int .i64 D] w fun e w'=>e=.returned (.tuple #[.slice none 0 0,.int .i64 (dpc (vcode ⟨np,nf,P,F⟩) D)])/\Below w.heap.size w w' :=
  him_v a np c a' nf c' D _ w (hid fun W B=>ckd_any a np c a' nf c' D P F W (lst_below rp B) (lst_below rf B) hn hm) (bne_iff_ne.2 z)
theorem him_any (a:Option Addr) (np c:Nat) (a':Option Addr) (nf c':Nat) (D:Int) (P F:Nat->P3) (w:World) (rp:Lst w a np P) (rf:Lst w a' nf F) (hn:np<=1000000) (h14:nf<=14) (z:dpc (vcode ⟨np,nf,P,F⟩) D=0) :
    Calls Tryz.prog 36 #[msv a np c a' nf c',.int .i64 D] w fun e w'=>∃ q cap ch,e=.returned (.tuple #[.slice (some ⟨q,0,none⟩) nf cap,.int .i64 0])/\RowI w' q 0 nf ch/\(∀ i,i<nf->0<=ch i/\ch i<=100) /\
      wF (btT (Tr P F) D) (mtT (Tr P F) D) nf (ballR 0 np P (mid (lo3 P np) (hi3 P np))).1 ch<=wF (btT (Tr P F) D) (mtT (Tr P F) D) nf (ballR 0 np P (mid (lo3 P np) (hi3 P np))).1 (fun _=>1)/\Below w.heap.size w w':=by
  have CK:=fun W (B:Below w.heap.size w W)=>ckd_any a np c a' nf c' D P F W (lst_below rp B) (lst_below rf B) hn (show nf<=1000000 by omega)
  rw [z] at CK
  obtain ⟨z1,d0,d2⟩:=dpc_ok z
  have h0:=(vcode_rows z1).2.2.1
  have tb1:=bt_tb z1 d0 d2
  have tb2:=mt_tb z1 d0 d2
  have hr:=ball_rng z1
  have WDG:∀ g1 c1 g2 c2 w0,TabM w0 g1 nf (btT (Tr P F) D)->TabM w0 g2 nf (mtT (Tr P F) D)->∀ b cp ch,RowI w0 b 0 nf ch->(∀ i,i<nf->0<=ch i/\ch i<=100)->Calls Tryz.prog 130 #[bdv g1 c1 g2 c2 nf (ballR 0 np P (mid (lo3 P np) (hi3 P np))).1,.slice (some ⟨b,0,none⟩) nf cp] w0 fun e w'=>e=.returned (.int .i64 (wF (btT (Tr P F) D) (mtT (Tr P F) D) nf (ballR 0 np P (mid (lo3 P np) (hi3 P np))).1 ch))/\Below w0.heap.size w0 w':=by
    intro g1 c1 g2 c2 w0 t1 t2 b cp ch rr ok
    rw [wF_in ok]
    have g:=bdW_rng h0 (by omega) tb1 tb2 hr ok
    exact hwd_any g1 c1 g2 c2 b 0 cp nf _ _ w0 (hid fun W B=>hbw_all g1 c1 g2 c2 b 0 cp nf _ _ _ ch W (tabM_below t1 B) (tabM_below t2 B) (rowI_below rr B) h0 (by omega) tb1 tb2 ok) ⟨by omega,by omega,by omega,by omega⟩
  refine him_ok a np c a' nf c' D _ _ _ _ _ w h0 (hid CK) (hid fun W B=>hbo_any a np c a' nf c' D P F W (lst_below rp B) (lst_below rf B) hn (by omega) z1 d0 d2)
    (hid fun g1 c1 g2 c2 W t1 t2=>hsi_any nf g1 c1 g2 c2 _ _ W h0 (by omega) (hid fun V b cp ch B rr ok=>WDG g1 c1 g2 c2 V (tabM_below t1 B) (tabM_below t2 B) b cp ch rr ok))
    (hid fun g1 c1 g2 c2 p V W t1 t2 bv lp sk=>?_)
  have lw:p<W.heap.size:=by
    obtain ⟨_,_,_,a1,_⟩:=sk
    exact a1.2.2.2.2.2.2.2.2.2
  have BS:∀ {W'},Sf p W W'->Below V.heap.size V W':=fun sf=>bv.trans (sf.1.mono lp)
  exact hrn_any p nf g1 c1 g2 c2 _ _ 1000 _ W W sk (sf_refl _ _) lw (by decide) (by decide) h0 (by omega) (hid fun c=>wF_rng h0 (by omega) tb1 tb2 hr c)
    (hid fun U b cp ch sf rr ok=>WDG g1 c1 g2 c2 U (tabM_below t1 (BS sf)) (tabM_below t2 (BS sf)) b cp ch rr ok)
    (hid fun U b cp ch sf rr ok=>lof_any g1 c1 g2 c2 b 0 cp nf _ _ _ U h0 (by omega) (hid fun X B=>hpt_any g1 c1 b 0 cp nf _ ch X (tabM_below (tabM_below t1 (BS sf)) B) (rowI_below rr B) h0 (by omega) tb1 ok))
end Go.Proofs.YtbcjiigmbcfkeaaGreat
