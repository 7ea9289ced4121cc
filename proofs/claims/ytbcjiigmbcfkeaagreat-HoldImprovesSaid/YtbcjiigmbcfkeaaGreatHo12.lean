import Derived.Test.YtbcjiigmbcfkeaaGreatHoMb
namespace Go.Proofs.YtbcjiigmbcfkeaaGreat
open Go.Lib (hid)
set_option maxRecDepth 100000
set_option maxHeartbeats 4000000
open Go.ChangeShapes Go.WideShapes Go.RowKit
open Sh
attribute [local go_sem 1000000] run_min_mn run_max_mx
def bdR (f1 f2:Nat->Nat->Int × Int) (c:Nat->Int) (n:Nat) (r:Int):Sp.R :=
  if (enR f2 c n).2=0 then ((Sp.mx (lowN (sm c n) (mxl (ptH f1 c n) n)) (thoN (sm c n) (enH f2 c n)),Sp.mn (abvN (sm c n) (mnl (ptL f1 c n) n)) r),0) else ((0,0),(enR f2 c n).2)
section
variable {n:Nat} {f:Nat->Nat->Int × Int} {c:Nat->Int} (t:TB n f) (h0:0<n) (hn:n<=96) (hc:∀ i,i<n->0<=c i/\c i<=100)
include t h0 hn hc
theorem bd_hi:sm c n<=mxl (ptH f c n) n/\mxl (ptH f c n) n<=1099511627776:=by
  have a:=pt_lo t hc h0
  have b:=pt_le t hc h0
  have d:=mxl_ge (ptH f c n) h0
  exact ⟨by omega,mxl_le (by decide) fun k hk=>by have:=pt_ok t hn hc hk;omega⟩
end
theorem bd_lo {n:Nat} {f:Nat->Nat->Int × Int} {c:Nat->Int} (t:TB n f) (hn:n<=96) (hc:∀ i,i<n->0<=c i/\c i<=100):sm c n<=mnl (ptL f c n) n/\mnl (ptL f c n) n<=1099511627776 :=
  ⟨mnl_ge (by have:=ch_sm hn hc;omega) fun _ hk=>pt_lo t hc hk,mnl_top _ _⟩
theorem en_ok {f:Nat->Nat->Int × Int} {c:Nat->Int} {n:Nat} (h:(enR f c n).2=0):enR f c n=((enL f c n,enH f c n),0)/\enH f c n<=1099511627776:=by
  unfold enR Sp.told at h ⊢
  by_cases v:Sp.vldB (enL f c n) (enH f c n)=true
  · rw [if_pos v];exact ⟨rfl,(Sp.vld_iff.1 v).2.2⟩
  · rw [if_neg v] at h;exact absurd h (by decide)
theorem en_no {f:Nat->Nat->Int × Int} {c:Nat->Int} {n:Nat} (h:(enR f c n).2 ≠ 0):enR f c n=((0,0),4):=by
  unfold enR Sp.told at h ⊢
  by_cases v:Sp.vldB (enL f c n) (enH f c n)=true
  · rw [if_pos v] at h;exact absurd rfl h
  · rw [if_neg v]
theorem hbd_no (g1 c1 g2 c2 b1 off1 cap1 n:Nat) (r S lw l h:Int) (pl ph:Nat->Int) (w:World) (SU:Hid (∀ W,Below w.heap.size w W->Calls Tryz.prog 51 #[.slice (some ⟨b1,off1,none⟩) n cap1] W fun e w'=>e=.returned (.int .i64 S)/\Below W.heap.size W w')) (PT:Hid (∀ W,Below w.heap.size w W->Calls Tryz.prog 56 #[.slice (some ⟨g1,0,none⟩) n c1,.slice (some ⟨b1,off1,none⟩) n cap1] W fun e w'=>∃ q cap,e=.returned (.tuple #[.slice (some ⟨q,0,none⟩) n cap,.int .i64 0])/\Row w' q 0 n pl ph/\Below W.heap.size W w')) (LO:Hid (∀ q cap W,Row W q 0 n pl ph->Calls Tryz.prog 65 #[.int .i64 S,.slice (some ⟨q,0,none⟩) n cap] W fun e w'=>e=.returned (.tuple #[.int .i64 lw,.int .i64 0])/\Below W.heap.size W w')) (EN:Hid (∀ W,Below w.heap.size w W->Calls Tryz.prog 63 #[.slice (some ⟨g2,0,none⟩) n c2,.slice (some ⟨b1,off1,none⟩) n cap1] W fun e w'=>e=.returned (spr ((l,h),4))/\Below W.heap.size W w')) :
    Calls Tryz.prog 77 #[bdv g1 c1 g2 c2 n r,.slice (some ⟨b1,off1,none⟩) n cap1] w fun e w'=>e=.returned (spr ((0,0),4))/\Below w.heap.size w w':=by
  have M0:=hid (ow3_alloc (ow3_new w (.slice (some ⟨g1,0,none⟩) n c1) (.slice (some ⟨g2,0,none⟩) n c2) (.int .i64 r) 91) (.cells #[.int .i64 0,.int .i64 0] 39))
  have R0:=hid (pair_new (w.alloc (.cells #[.slice (some ⟨g1,0,none⟩) n c1,.slice (some ⟨g2,0,none⟩) n c2,.int .i64 r] 91)) 0 0 39)
  simp only [World.size_alloc] at R0
  have B0:=hid (show Below w.heap.size w ((w.alloc (.cells #[.slice (some ⟨g1,0,none⟩) n c1,.slice (some ⟨g2,0,none⟩) n c2,.int .i64 r] 91)).alloc (.cells #[.int .i64 0,.int .i64 0] 39)) from balloc (balloc (Below.refl _ w) _) _)
  obtain ⟨m0,m1,m2,m3,m4,m5,m6⟩:=M0.out
  go_enter Tryz.func77,Tryz.ntmps77
  go_wp2_with fail
  with_reducible refine (SU.out _ B0.out).mono ?_
  rintro e w1 ⟨rfl,hb1⟩
  have M1:=hid (ow3_below M0.out hb1)
  have R1:=hid (pair_below R0.out hb1)
  have B1:=hid (bstep B0.out hb1)
  clear hb1 m0 m1 m2 m3 m4 m5 m6 M0 R0 B0
  obtain ⟨m0,m1,m2,m3,m4,m5,m6⟩:=M1.out
  go_wp2_with fail
  with_reducible refine (PT.out _ B1.out).mono ?_
  rintro e w2 ⟨q,cap,rfl,rw2,hb2⟩
  have W2:=hid rw2
  clear rw2
  have M2:=hid (ow3_below M1.out hb2)
  have R2:=hid (pair_below R1.out hb2)
  have B2:=hid (bstep B1.out hb2)
  clear hb2 m0 m1 m2 m3 m4 m5 m6 M1 R1 B1
  obtain ⟨m0,m1,m2,m3,m4,m5,m6⟩:=M2.out
  go_wp2_with fail
  with_reducible refine (LO.out q cap _ W2.out).mono ?_
  rintro e w3 ⟨rfl,hb3⟩
  have M3:=hid (ow3_below M2.out hb3)
  have R3:=hid (pair_below R2.out hb3)
  have B3:=hid (bstep B2.out hb3)
  have W3:=hid (row_below W2.out hb3)
  clear hb3 m0 m1 m2 m3 m4 m5 m6 M2 R2 B2 W2
  obtain ⟨m0,m1,m2,m3,m4,m5,m6⟩:=M3.out
  go_wp2_with fail
  with_reducible refine (EN.out _ B3.out).mono ?_
  rintro e w4 ⟨rfl,hb4⟩
  have M4:=hid (ow3_below M3.out hb4)
  have R4:=hid (pair_below R3.out hb4)
  have B4:=hid (bstep B3.out hb4)
  have W4:=hid (row_below W3.out hb4)
  clear hb4 m0 m1 m2 m3 m4 m5 m6 M3 R3 B3 W3
  obtain ⟨m0,m1,m2,m3,m4,m5,m6⟩:=M4.out
  obtain ⟨z0,z1,z2,z3,z4⟩:=pair_alloc R4.out (.cells #[.int .i64 l,.int .i64 h] 39)
  have hB:=balloc B4.out (.cells #[.int .i64 l,.int .i64 h] 39)
  clear m0 m1 m2 m3 m4 m5 m6
  go_wp2
  refine bodyPost_ret (v:=spr ((0,0),4)) (by rw [results_cell_tmp rfl];go_simp) rfl ⟨rfl,?_⟩
  (repeat' (first|with_reducible exact hB|with_reducible refine Below.drew ?_|(with_reducible refine balloc ?_ _)|(with_reducible refine Below.setCell ?_ (by simp<;>omega) _)))
theorem hbd_ok (g1 c1 g2 c2 b1 off1 cap1 n:Nat) (r S lw l h th ab:Int) (pl ph:Nat->Int) (w:World) (SU:Hid (∀ W,Below w.heap.size w W->Calls Tryz.prog 51 #[.slice (some ⟨b1,off1,none⟩) n cap1] W fun e w'=>e=.returned (.int .i64 S)/\Below W.heap.size W w')) (PT:Hid (∀ W,Below w.heap.size w W->Calls Tryz.prog 56 #[.slice (some ⟨g1,0,none⟩) n c1,.slice (some ⟨b1,off1,none⟩) n cap1] W fun e w'=>∃ q cap,e=.returned (.tuple #[.slice (some ⟨q,0,none⟩) n cap,.int .i64 0])/\Row w' q 0 n pl ph/\Below W.heap.size W w')) (LO:Hid (∀ q cap W,Row W q 0 n pl ph->Calls Tryz.prog 65 #[.int .i64 S,.slice (some ⟨q,0,none⟩) n cap] W fun e w'=>e=.returned (.tuple #[.int .i64 lw,.int .i64 0])/\Below W.heap.size W w')) (EN:Hid (∀ W,Below w.heap.size w W->Calls Tryz.prog 63 #[.slice (some ⟨g2,0,none⟩) n c2,.slice (some ⟨b1,off1,none⟩) n cap1] W fun e w'=>e=.returned (spr ((l,h),0))/\Below W.heap.size W w')) (TH:Hid (∀ W,Calls Tryz.prog 68 #[.int .i64 S,.agg #[.int .i64 l,.int .i64 h]] W fun e w'=>e=.returned (.tuple #[.int .i64 th,.int .i64 0])/\Below W.heap.size W w')) (AB:Hid (∀ q cap W,Row W q 0 n pl ph->Calls Tryz.prog 67 #[.int .i64 S,.slice (some ⟨q,0,none⟩) n cap] W fun e w'=>e=.returned (.tuple #[.int .i64 ab,.int .i64 0])/\Below W.heap.size W w')) :
    Calls Tryz.prog 77 #[bdv g1 c1 g2 c2 n r,.slice (some ⟨b1,off1,none⟩) n cap1] w fun e w'=>e=.returned (spr ((Sp.mx lw th,Sp.mn ab r),0))/\Below w.heap.size w w':=by
  have M0:=hid (ow3_alloc (ow3_new w (.slice (some ⟨g1,0,none⟩) n c1) (.slice (some ⟨g2,0,none⟩) n c2) (.int .i64 r) 91) (.cells #[.int .i64 0,.int .i64 0] 39))
  have R0:=hid (pair_new (w.alloc (.cells #[.slice (some ⟨g1,0,none⟩) n c1,.slice (some ⟨g2,0,none⟩) n c2,.int .i64 r] 91)) 0 0 39)
  simp only [World.size_alloc] at R0
  have B0:=hid (show Below w.heap.size w ((w.alloc (.cells #[.slice (some ⟨g1,0,none⟩) n c1,.slice (some ⟨g2,0,none⟩) n c2,.int .i64 r] 91)).alloc (.cells #[.int .i64 0,.int .i64 0] 39)) from balloc (balloc (Below.refl _ w) _) _)
  obtain ⟨m0,m1,m2,m3,m4,m5,m6⟩:=M0.out
  go_enter Tryz.func77,Tryz.ntmps77
  go_wp2_with fail
  with_reducible refine (SU.out _ B0.out).mono ?_
  rintro e w1 ⟨rfl,hb1⟩
  have M1:=hid (ow3_below M0.out hb1)
  have R1:=hid (pair_below R0.out hb1)
  have B1:=hid (bstep B0.out hb1)
  clear hb1 m0 m1 m2 m3 m4 m5 m6 M0 R0 B0
  obtain ⟨m0,m1,m2,m3,m4,m5,m6⟩:=M1.out
  go_wp2_with fail
  with_reducible refine (PT.out _ B1.out).mono ?_
  rintro e w2 ⟨q,cap,rfl,rw2,hb2⟩
  have W2:=hid rw2
  clear rw2
  have M2:=hid (ow3_below M1.out hb2)
  have R2:=hid (pair_below R1.out hb2)
  have B2:=hid (bstep B1.out hb2)
  clear hb2 m0 m1 m2 m3 m4 m5 m6 M1 R1 B1
  obtain ⟨m0,m1,m2,m3,m4,m5,m6⟩:=M2.out
  go_wp2_with fail
  with_reducible refine (LO.out q cap _ W2.out).mono ?_
  rintro e w3 ⟨rfl,hb3⟩
  have M3:=hid (ow3_below M2.out hb3)
  have R3:=hid (pair_below R2.out hb3)
  have B3:=hid (bstep B2.out hb3)
  have W3:=hid (row_below W2.out hb3)
  clear hb3 m0 m1 m2 m3 m4 m5 m6 M2 R2 B2 W2
  obtain ⟨m0,m1,m2,m3,m4,m5,m6⟩:=M3.out
  go_wp2_with fail
  with_reducible refine (EN.out _ B3.out).mono ?_
  rintro e w4 ⟨rfl,hb4⟩
  have M4:=hid (ow3_below M3.out hb4)
  have R4:=hid (pair_below R3.out hb4)
  have B4:=hid (bstep B3.out hb4)
  have W4:=hid (row_below W3.out hb4)
  clear hb4 m0 m1 m2 m3 m4 m5 m6 M3 R3 B3 W3
  obtain ⟨m0,m1,m2,m3,m4,m5,m6⟩:=M4.out
  go_wp2_with fail
  with_reducible refine (TH.out _).mono ?_
  rintro e w5 ⟨rfl,hb5⟩
  have ZB:=hid (((Below.refl w4.heap.size w4).alloc (Nat.le_refl _) (.cells #[.int .i64 l,.int .i64 h] 39)).trans (hb5.mono (by simp)))
  clear hb5
  have M5:=hid (ow3_below M4.out ZB.out)
  have R5:=hid (pair_below R4.out ZB.out)
  have B5:=hid (bstep B4.out ZB.out)
  have W5:=hid (row_below W4.out ZB.out)
  clear m0 m1 m2 m3 m4 m5 m6 M4 R4 B4 W4 ZB
  obtain ⟨m0,m1,m2,m3,m4,m5,m6⟩:=M5.out
  go_wp2_with fail
  with_reducible refine (AB.out q cap _ W5.out).mono ?_
  rintro e w6 ⟨rfl,hb6⟩
  have M6:=hid (ow3_below M5.out hb6)
  have R6:=hid (pair_below R5.out hb6)
  have B6:=hid (bstep B5.out hb6)
  have W6:=hid (row_below W5.out hb6)
  clear hb6 m0 m1 m2 m3 m4 m5 m6 M5 R5 B5 W5
  obtain ⟨m0,m1,m2,m3,m4,m5,m6⟩:=M6.out
  obtain ⟨z0,z1,z2,z3,z4⟩:=R6.out
  have hB:=B6.out
  go_wp2
  refine bodyPost_ret (v:=spr ((Sp.mx lw th,Sp.mn ab r),0)) (by rw [results_cell_tmp rfl];go_simp) rfl ⟨rfl,?_⟩
  (repeat' (first|with_reducible exact hB|with_reducible refine Below.drew ?_|(with_reducible refine balloc ?_ _)|(with_reducible refine Below.setCell ?_ (by simp<;>omega) _)))
theorem hbd_any (g1 c1 g2 c2 b1 off1 cap1 n:Nat) (r:Int) (f1 f2:Nat->Nat->Int × Int) (c:Nat->Int) (w:World) (t1:TabM w g1 n f1) (t2:TabM w g2 n f2) (rc:RowI w b1 off1 n c) (h0:0<n) (hn:n<=96) (tb1:TB n f1) (tb2:TB n f2) (hc:∀ i,i<n->0<=c i/\c i<=100) (s1:1<=sm c n) :
    Calls Tryz.prog 77 #[bdv g1 c1 g2 c2 n r,.slice (some ⟨b1,off1,none⟩) n cap1] w fun e w'=>e=.returned (spr (bdR f1 f2 c n r))/\Below w.heap.size w w':=by
  have s2:=(ch_sm hn hc).2
  have q1:=bd_hi tb1 h0 hn hc
  have q2:=bd_lo tb1 hn hc
  have SU:=hid (fun W (B:Below w.heap.size w W)=>hsum_any (some ⟨b1,off1,none⟩) n cap1 c W (lstI_below (fun _=>⟨b1,off1,rfl,rc⟩) B) (by omega) hc)
  have PT:=hid (fun W (B:Below w.heap.size w W)=>hpt_any g1 c1 b1 off1 cap1 n f1 c W (tabM_below t1 B) (rowI_below rc B) h0 hn tb1 hc)
  have LO:=hid (fun q cap W (R:Row W q 0 n (ptL f1 c n) (ptH f1 c n))=>hlo_any q cap n (sm c n) _ _ W R hn s1 s2 q1.1 q1.2)
  have EN:=hid (fun W (B:Below w.heap.size w W)=>hen_any g2 c2 b1 off1 cap1 n f2 c W (tabM_below t2 B) (rowI_below rc B) h0 hn tb2 hc)
  unfold bdR
  by_cases e:(enR f2 c n).2=0
  · obtain ⟨e1,e2⟩:=en_ok e
    rw [if_pos e]
    rw [e1] at EN
    exact hbd_ok g1 c1 g2 c2 b1 off1 cap1 n r _ _ _ _ _ _ _ _ w SU PT LO EN (hid fun W=>hth_any _ _ _ W s1 s2 (en_lo tb2 hc) (en_le tb2 hc) e2) (hid fun q cap W R=>hab_any q cap n (sm c n) _ _ W R hn s1 s2 q2.1 q2.2)
  · have e1:=en_no e
    rw [if_neg e,e1]
    rw [e1] at EN
    exact hbd_no g1 c1 g2 c2 b1 off1 cap1 n r _ _ _ _ _ _ w SU PT LO EN
theorem hbn_v (a:Option Addr) (np c:Nat) (a':Option Addr) (nf c':Nat) (b:Option Addr) (n cap:Nat) (D vc:Int) (w:World) (V:Hid (∀ W,Below w.heap.size w W->Calls Tryz.prog 53 #[msv a np c a' nf c',.slice b n cap,.int .i64 D] W fun e w'=>e=.returned (.int .i64 vc)/\Below W.heap.size W w')) (z:(vc != 0)=true):Calls Tryz.prog 32 #[msv a np c a' nf c',.slice b n cap,.int .i64 D] w fun e w'=>e=.returned (spr ((0,0),vc))/\Below w.heap.size w w':=by
  have M0:=hid (mes_alloc (mes_new w a np c a' nf c' 25) (.cells #[.int .i64 0,.int .i64 0] 39))
  have R0:=hid (pair_new (w.alloc (msc a np c a' nf c' 25)) 0 0 39)
  simp only [World.size_alloc] at R0
  have B0:=hid (show Below w.heap.size w ((w.alloc (msc a np c a' nf c' 25)).alloc (.cells #[.int .i64 0,.int .i64 0] 39)) from balloc (balloc (Below.refl _ w) _) _)
  obtain ⟨m0,m1,ml⟩:=M0.out
  go_enter Tryz.func32,Tryz.ntmps32
  go_wp2_with fail
  with_reducible refine (V.out _ B0.out).mono ?_
  rintro e w1 ⟨rfl,hb1⟩
  obtain ⟨z0,z1,z2,z3,z4⟩:=pair_below R0.out hb1
  have hB:=bstep B0.out hb1
  clear m0 m1 ml hb1
  go_wp2
  refine bodyPost_ret (v:=spr ((0,0),vc)) (by rw [results_cell_tmp rfl];go_simp) rfl ⟨rfl,?_⟩
  (repeat' (first|with_reducible exact hB|with_reducible refine Below.drew ?_|(with_reducible refine balloc ?_ _)|(with_reducible refine Below.setCell ?_ (by simp<;>omega) _)))
theorem hbn_ok (a:Option Addr) (np c:Nat) (a':Option Addr) (nf c':Nat) (b:Option Addr) (n cap:Nat) (D vc r:Int) (f1 f2:Nat->Nat->Int × Int) (R:Sp.R) (w:World) (V:Hid (∀ W,Below w.heap.size w W->Calls Tryz.prog 53 #[msv a np c a' nf c',.slice b n cap,.int .i64 D] W fun e w'=>e=.returned (.int .i64 vc)/\Below W.heap.size W w')) (z:vc=0)
    (BO:Hid (∀ W,Below w.heap.size w W->Calls Tryz.prog 76 #[msv a np c a' nf c',.int .i64 D] W fun e w'=>∃ g1 c1 g2 c2,e=.returned (.tuple #[bdv g1 c1 g2 c2 n r,.int .i64 0])/\TabM w' g1 n f1/\TabM w' g2 n f2/\Below W.heap.size W w'))
    (BD:Hid (∀ g1 c1 g2 c2 W,Below w.heap.size w W->TabM W g1 n f1->TabM W g2 n f2->Calls Tryz.prog 77 #[bdv g1 c1 g2 c2 n r,.slice b n cap] W fun e w'=>e=.returned (spr R)/\Below W.heap.size W w')) :
    Calls Tryz.prog 32 #[msv a np c a' nf c',.slice b n cap,.int .i64 D] w fun e w'=>e=.returned (spr R)/\Below w.heap.size w w':=by
  subst z
  have M0:=hid (mes_alloc (mes_new w a np c a' nf c' 25) (.cells #[.int .i64 0,.int .i64 0] 39))
  have R0:=hid (pair_new (w.alloc (msc a np c a' nf c' 25)) 0 0 39)
  simp only [World.size_alloc] at R0
  have B0:=hid (show Below w.heap.size w ((w.alloc (msc a np c a' nf c' 25)).alloc (.cells #[.int .i64 0,.int .i64 0] 39)) from balloc (balloc (Below.refl _ w) _) _)
  obtain ⟨m0,m1,ml⟩:=M0.out
  obtain ⟨⟨ru,rv⟩,rz⟩:=R
  go_enter Tryz.func32,Tryz.ntmps32
  go_wp2_with fail
  with_reducible refine (V.out _ B0.out).mono ?_
  rintro e w1 ⟨rfl,hb1⟩
  have M1:=hid (mes_below M0.out hb1)
  have R1:=hid (pair_below R0.out hb1)
  have B1:=hid (bstep B0.out hb1)
  clear m0 m1 ml hb1 M0 R0 B0
  obtain ⟨m0,m1,ml⟩:=M1.out
  go_wp2_with fail
  with_reducible refine (BO.out _ B1.out).mono ?_
  rintro e w2 ⟨g1,c1,g2,c2,rfl,t1,t2,hb2⟩
  have R2:=hid (pair_alloc (pair_below R1.out hb2) (.cells #[.slice (some ⟨g1,0,none⟩) n c1,.slice (some ⟨g2,0,none⟩) n c2,.int .i64 r] 91))
  have B2:=hid (balloc (bstep B1.out hb2) (.cells #[.slice (some ⟨g1,0,none⟩) n c1,.slice (some ⟨g2,0,none⟩) n c2,.int .i64 r] 91))
  have BD2:=hid (BD.out g1 c1 g2 c2 _ B2.out (tabM_below t1 ((Below.refl _ _).alloc (Nat.le_refl _) _)) (tabM_below t2 ((Below.refl _ _).alloc (Nat.le_refl _) _)))
  clear m0 m1 ml hb2 t1 t2 BD BO
  go_wp2_with fail
  with_reducible refine BD2.out.mono ?_
  rintro e w3 ⟨rfl,hb3⟩
  obtain ⟨z0,z1,z2,z3,z4⟩:=pair_below R2.out hb3
  have hB:=bstep B2.out hb3
  clear hb3 BD2
  go_wp2
  refine bodyPost_ret (v:=spr ((ru,rv),rz)) (by rw [results_cell_tmp rfl];go_simp) rfl ⟨rfl,?_⟩
  (repeat' (first|with_reducible exact hB|with_reducible refine Below.drew ?_|(with_reducible refine balloc ?_ _)|(with_reducible refine Below.setCell ?_ (by simp<;>omega) _)))
def bndR (np nf:Nat) (P F:Nat->P3) (n:Nat) (c:Nat->Int) (D:Int):Sp.R :=
  if gvc (vcode ⟨np,nf,P,F⟩) nf n c D=0 then bdR (btT (Tr P F) D) (mtT (Tr P F) D) c n (ballR 0 np P (mid (lo3 P np) (hi3 P np))).1 else ((0,0),gvc (vcode ⟨np,nf,P,F⟩) nf n c D)
theorem lo3_64 {P:Nat->P3}:∀ {n:Nat},0<n->(∀ k,k<n->BdP 64 (P k))->BdP 64 (lo3 P n)/\BdP 64 (hi3 P n)
 |1,_,h=>by
    have:=h 0 (by omega)
    show BdP 64 (Sp.mn (P 0).1 (P 0).1,Sp.mn (P 0).2.1 (P 0).2.1,Sp.mn (P 0).2.2 (P 0).2.2)/\BdP 64 (Sp.mx (P 0).1 (P 0).1,Sp.mx (P 0).2.1 (P 0).2.1,Sp.mx (P 0).2.2 (P 0).2.2)
    simp only [BdP,Sp.mn_eq,Sp.mx_eq] at *
    omega
 |n+2,_,h=>by
    obtain ⟨a,b⟩:=lo3_64 (n:=n+1) (by omega) fun k hk=>h k (by omega)
    have:=h (n+1) (by omega)
    show BdP 64 (Sp.mn (lo3 P (n+1)).1 (P (n+1)).1,Sp.mn (lo3 P (n+1)).2.1 (P (n+1)).2.1,Sp.mn (lo3 P (n+1)).2.2 (P (n+1)).2.2)/\BdP 64 (Sp.mx (hi3 P (n+1)).1 (P (n+1)).1,Sp.mx (hi3 P (n+1)).2.1 (P (n+1)).2.1,Sp.mx (hi3 P (n+1)).2.2 (P (n+1)).2.2)
    simp only [BdP,Sp.mn_eq,Sp.mx_eq] at *
    omega
theorem ball_mid {np nf:Nat} {P F:Nat->P3} (z:vcode ⟨np,nf,P,F⟩=0):BdP 64 (lo3 P np)/\BdP 64 (hi3 P np)/\ballR (vcode ⟨np,nf,P,F⟩) np P (mid (lo3 P np) (hi3 P np))=((ballR 0 np P (mid (lo3 P np) (hi3 P np))).1,0):=by
  obtain ⟨h1,h2,h3,h4,h5⟩:=vcode_ok z
  have hP:∀ k,k<np->BdP 64 (P k):=fun k hk=>inP_iff.1 (pts_in h4 k hk)
  obtain ⟨a,b⟩:=lo3_64 (vcode_rows z).1 hP
  have m:=mid_bd a b
  have l:=len_ok (m:=mxl (dsq P (mid (lo3 P np) (hi3 P np))) np) (mxl_nn _ _) (mxl_le (by decide) fun k hk=>(dsq_bd hP m hk).2)
  refine ⟨a,b,?_⟩
  rw [z]
  unfold ballR
  rw [if_pos rfl,if_pos (inP_iff.2 m),l.1]
theorem hbo_any (a:Option Addr) (np c:Nat) (a':Option Addr) (nf c':Nat) (D:Int) (P F:Nat->P3) (w:World) (rp:Lst w a np P) (rf:Lst w a' nf F) (hn:np<=1000000) (hm:nf<=1000000) (z:vcode ⟨np,nf,P,F⟩=0) (d0:0<=D) (d2:D<=2) :
    Calls Tryz.prog 76 #[msv a np c a' nf c',.int .i64 D] w fun e w'=>∃ g1 c1 g2 c2,e=.returned (.tuple #[bdv g1 c1 g2 c2 nf (ballR 0 np P (mid (lo3 P np) (hi3 P np))).1,.int .i64 0])/\TabM w' g1 nf (btT (Tr P F) D)/\TabM w' g2 nf (mtT (Tr P F) D)/\Below w.heap.size w w':=by
  obtain ⟨_,_,h0,h96,_⟩:=vcode_rows z
  obtain ⟨l64,h64,bm⟩:=ball_mid z
  have PP:=fun W (B:Below w.heap.size w W)=>(spans_any a np c a' nf c' P F W (lst_below rp B) (lst_below rf B) hn hm).mono (by
    rintro e w' ⟨a1,n1,cap,rfl,hn1,hl,hb⟩
    rw [if_pos z] at hn1
    subst hn1
    obtain ⟨g,rfl,r9⟩:=hl h0
    exact ⟨g,cap,by rw [z],r9,hb⟩:∀ e w',Pans (Tr P F) nf (vcode ⟨np,nf,P,F⟩) W e w'->∃ q cap,e=.returned (.tuple #[.slice (some ⟨q,0,none⟩) nf cap,.int .i64 0])/\Row9 w' q nf (Tr P F)/\Below W.heap.size W w')
  have BX:=hid (fun W (B:Below w.heap.size w W)=>sbox_any a np c a' nf c' P F W (lst_below rp B) (lst_below rf B) hn hm)
  rw [if_pos z,if_pos z,z] at BX
  have BA:=hid (fun W (B:Below w.heap.size w W)=>hbl_any a np c a' nf c' (mid (lo3 P np) (hi3 P np)) P F W (lst_below rp B) (lst_below rf B) hn hm)
  rw [bm] at BA
  exact hbo_ok a np c a' nf c' D nf _ _ _ _ _ _ w
    (hid fun W B=>htb_any a np c a' nf c' D nf (Tr P F) _ W h0 h96 (hid fun V B'=>PP V (bstep B B')) (hid fun i j hi hj V=>bt_e z d0 d2 hi hj ▸ bet_any (Tr P F i) (Tr P F j) D V))
    (hid fun W B=>htm_any a np c a' nf c' D nf (Tr P F) _ W h0 h96 (hid fun V B'=>PP V (bstep B B')) (hid fun i j hi hj V=>mt_e z d0 d2 hi hj ▸ mut_any (Tr P F i) (Tr P F j) D V))
    BX (hid fun W=>hmid_any _ _ W l64 h64) BA
theorem hbn_any (a:Option Addr) (np c:Nat) (a':Option Addr) (nf c':Nat) (b:Option Addr) (n cap:Nat) (D:Int) (P F:Nat->P3) (ch:Nat->Int) (w:World) (rp:Lst w a np P) (rf:Lst w a' nf F) (rc:LstI w b n ch) (hn:np<=1000000) (hm:nf<=1000000) (hk:n<=9223372036854775807) :
    Calls Tryz.prog 32 #[msv a np c a' nf c',.slice b n cap,.int .i64 D] w fun e w'=>e=.returned (spr (bndR np nf P F n ch D))/\Below w.heap.size w w':=by
  have V:=hid (fun W (B:Below w.heap.size w W)=>ckc_any a np c a' nf c' b n cap D P F ch W (lst_below rp B) (lst_below rf B) (lstI_below rc B) hn hm hk)
  unfold bndR
  by_cases y:gvc (vcode ⟨np,nf,P,F⟩) nf n ch D=0
  · rw [if_pos y]
    obtain ⟨y1,d0,d2⟩:=gvc_ok y
    obtain ⟨z,rfl,hc,s1⟩:=chc_ok y1
    obtain ⟨_,_,h0,h96,_⟩:=vcode_rows z
    obtain ⟨b1,off1,rfl,rc1⟩:=rc h0
    exact hbn_ok a np c a' n c' (some ⟨b1,off1,none⟩) n cap D _ _ _ _ _ w V y (hid fun W B=>hbo_any a np c a' n c' D P F W (lst_below rp B) (lst_below rf B) hn hm z d0 d2)
      (hid fun g1 c1 g2 c2 W B t1 t2=>hbd_any g1 c1 g2 c2 b1 off1 cap n _ _ _ ch W t1 t2 (rowI_below rc1 B) h0 h96 (bt_tb z d0 d2) (mt_tb z d0 d2) hc s1)
  · rw [if_neg y]
    exact hbn_v a np c a' nf c' b n cap D _ w V (bne_iff_ne.2 y)
end Go.Proofs.YtbcjiigmbcfkeaaGreat
