import Derived.Test.YtbcjiigmbcfkeaaGreatHoMf
import Derived.Test.YtbcjiigmbcfkeaaGreatHoMc
import Derived.OwnWalk
namespace Go.Proofs.YtbcjiigmbcfkeaaGreat
open Go.Lib (hid)
set_option maxRecDepth 100000
set_option maxHeartbeats 4000000
open Go.ChangeShapes Go.WideShapes Go.RowKit
open Sh
attribute [local go_sem 1000000] run_min_mn run_max_mx
theorem rmd_any (b off np c:Nat) (a':Option Addr) (nf c':Nat) (P:Nat->P3) (w:World) (rp:Row3 w b off np P) (h0:0<np) (hn:np<=64) (hP:∀ k,k<np->BdP 64 (P k)) :
    Calls Tryz.prog 78 #[msv (some ⟨b,off,none⟩) np c a' nf c'] w fun e w'=>e=.returned (ptv (mid (lo3 P np) (hi3 P np)))/\Below w.heap.size w w':=by
  have hb:b<w.heap.size:=rp.1
  have RP:=hid rp
  have hn':(np:Int)<=64:=by omega
  have p0:(0:Int)<(np:Int):=by omega
  have LB:=hid (lo3_64 h0 hP)
  have ME:=hid (mes_alloc (mes_new w (some ⟨b,off,none⟩) np c a' nf c' 25) (ptc (0,0,0) 44))
  have G:=hid (own_new (w.alloc (msc (some ⟨b,off,none⟩) np c a' nf c' 25)) (0,0,0) 44)
  simp only [World.size_alloc] at G
  have B0:=hid (show Below w.heap.size w ((w.alloc (msc (some ⟨b,off,none⟩) np c a' nf c' 25)).alloc (ptc (0,0,0) 44)) from balloc (balloc (Below.refl _ w) _) _)
  obtain ⟨q,hq⟩:∃ q,P 0=q:=⟨_,rfl⟩
  have HQ:=hid hq
  obtain ⟨c1,c2,c3⟩:=(row3_in RP.out B0.out hb).2 0 h0
  have r5:=(row3_in RP.out B0.out hb).1
  simp only [Nat.zero_mul,Nat.add_zero] at c1 c2 c3
  rw [hq] at c1 c2 c3
  obtain ⟨m0,m1,ml⟩:=ME.out
  clear rp hq hP
  go_enter Tryz.func78,Tryz.ntmps78
  go_upto_region 1 with fail
  generalize (w.alloc (msc (some ⟨b,off,none⟩) np c a' nf c' 25)).alloc (ptc (0,0,0) 44)=w4 at *
  have gl:=G.out.2.2.2.2.2.2
  have r6:b<w4.heap.size:=r5
  go_cut [3,4] (fun t3 t4 wx=>∃ bl bh:Nat,t3=.pointer (some ⟨bl,0,none⟩)/\t4=.pointer (some ⟨bh,0,none⟩)/\bl ≠ bh/\w4.heap.size<=bl/\w4.heap.size<=bh/\Own wx bl q/\Own wx bh q/\Below w4.heap.size w4 wx)
  case first =>
    go_region
    all_goals
      go_wp2
      go_meet
      refine ⟨_,_,rfl,rfl,by simp<;>omega,by simp<;>omega,by simp<;>omega,⟨by go_simp,by go_simp,by go_simp,by go_simp,by go_simp,by go_simp,by simp<;>omega⟩,⟨by go_simp,by go_simp,by go_simp,by go_simp,by go_simp,by go_simp,by simp<;>omega⟩,?_⟩
      (repeat' (first|exact Below.refl _ _|refine Below.setCell ?_ (by simp<;>omega) _|refine balloc ?_ _|refine Below.drew ?_|refine bdrewN ?_ _))
  case rest =>
    obtain ⟨bl,bh,rfl,rfl,n1,n2,n3,ol,oh,hB⟩:=hcut
    have B1:=hid (bstep B0.out hB)
    have M1:=hid (mes_below ME.out hB)
    have G1:=hid (own_below G.out hB)
    have e0:∀ x:Int,Sp.mn x x=x:=fun x=>by unfold Sp.mn;split<;>rfl
    have e1:∀ x:Int,Sp.mx x x=x:=fun x=>by unfold Sp.mx;split<;>rfl
    have L1:=hid (show lo3 P 1=q by
      have h:=HQ.out
      show (Sp.mn (P 0).1 (P 0).1,Sp.mn (P 0).2.1 (P 0).2.1,Sp.mn (P 0).2.2 (P 0).2.2)=q
      rw [h,e0,e0,e0])
    have H1:=hid (show hi3 P 1=q by
      have h:=HQ.out
      show (Sp.mx (P 0).1 (P 0).1,Sp.mx (P 0).2.1 (P 0).2.1,Sp.mx (P 0).2.2 (P 0).2.2)=q
      rw [h,e1,e1,e1])
    have OL:=hid ol
    have OH:=hid oh
    have BB:=hid hB
    clear e0 e1 hB ol oh m0 m1 ml c1 c2 c3
    go_wp2
    go_loopw [5] (fun kv wr=>∃ k:Nat,1<=k/\k<=np/\kv=.int .i64 k/\Own wr bl (lo3 P k)/\Own wr bh (hi3 P k)/\Below w4.heap.size w4 wr) (fun kv _=>np - (intOf kv).toNat)
    case atStart=>exact ⟨1,Nat.le_refl _,h0,rfl,by rw [L1.out];exact OL.out,by rw [H1.out];exact OH.out,BB.out⟩
    case round =>
      obtain ⟨k,hk1,hk,rfl,hg,hh,hB⟩:=hrel
      have G0:=hid hg
      have K0:=hid hh
      have C0:=hid hB
      have B2:=hid (bstep B0.out hB)
      obtain ⟨m0,m1,ml⟩:=mes_below ME.out hB
      have GR:=hid (own_below G.out hB)
      clear hg hh hB L1 H1 OL OH BB B1 M1 G1
      by_cases hlt:k<np
      · have k1':(k:Int)<(np:Int):=by omega
        have r2:=row3_in RP.out B2.out hb
        obtain ⟨c1,c2,c3⟩:=r2.2 k hlt
        have r5:=r2.1
        clear r2
        have E1:=hid (show lo3 P (k+1)=sh_mn3 (lo3 P k) (P k) from rfl)
        have E2:=hid (show hi3 P (k+1)=sh_mx3 (hi3 P k) (P k) from rfl)
        generalize lo3 P k=l at *
        generalize hi3 P k=h at *
        obtain ⟨p,hp⟩:∃ p,P k=p:=⟨_,rfl⟩
        rw [hp] at c1 c2 c3 E1 E2
        clear hp
        obtain ⟨g1,g2,g3,g4,g5,g6,g7⟩:=G0.out
        obtain ⟨k1,k2,k3,k4,k5,k6,k7⟩:=K0.out
        go_wp2
        go_roundw
        case rel =>
          refine ⟨k+1,by omega,by omega,by go_num,?_,?_,?_⟩
          · rw [E1.out];exact own_alloc (own_put3 (sh_own_put G0.out (sh_mn3 l p)) (by omega)) _
          · rw [E2.out];exact own_alloc (sh_own_put (own_put3 K0.out (by omega)) (sh_mx3 h p)) _
          · exact balloc (below_put3 (below_put3 C0.out (by omega)) (by omega)) _
        case measure=>simp [intOf];omega
      · obtain rfl:k=np:=by omega
        have S:=LB.out
        obtain ⟨g1,g2,g3,g4,g5,g6,g7⟩:=G0.out
        obtain ⟨k1,k2,k3,k4,k5,k6,k7⟩:=K0.out
        obtain ⟨z1,z2,z3,z4,z5,z6,z7⟩:=GR.out
        obtain ⟨⟨s1,s2,s3,s4,s5,s6⟩,⟨t1,t2,t3,t4,t5,t6⟩⟩:=S
        have hB:=B2.out
        go_wp2
        refine bodyPost_ret (v:=ptv (mid (lo3 P k) (hi3 P k))) (by rw [results_cell rfl];go_simp;exact ⟨rfl,rfl,rfl⟩) rfl ⟨rfl,?_⟩
        (repeat' (first|with_reducible exact hB|with_reducible refine Below.drew ?_|(with_reducible refine balloc ?_ _)|(with_reducible refine Below.setCell ?_ (by simp<;>omega) _)))
end Go.Proofs.YtbcjiigmbcfkeaaGreat
namespace Go.Proofs.YtbcjiigmbcfkeaaGreat
open Go.Lib (hid)
set_option maxRecDepth 100000
set_option maxHeartbeats 4000000
open Go.ChangeShapes Go.WideShapes Go.RowKit
open Sh
attribute [local go_sem 1000000] run_min_mn run_max_mx
theorem rbn_v (a:Option Addr) (np c:Nat) (a':Option Addr) (nf c':Nat) (b:Option Addr) (n cap:Nat) (D vc:Int) (w:World) (V:Hid (∀ W,Below w.heap.size w W->Calls Tryz.prog 25 #[msv a np c a' nf c',.slice b n cap,.int .i64 D] W fun e w'=>e=.returned (.tuple #[.int .i64 0,.int .i64 vc])/\Below W.heap.size W w')) (z:(vc != 0)=true):Calls Tryz.prog 33 #[msv a np c a' nf c',.slice b n cap,.int .i64 D] w fun e w'=>e=.returned (spr ((0,0),vc))/\Below w.heap.size w w':=by
  have M0:=hid (mes_alloc (mes_new w a np c a' nf c' 25) (.cells #[.int .i64 0,.int .i64 0] 39))
  have R0:=hid (pair_new (w.alloc (msc a np c a' nf c' 25)) 0 0 39)
  simp only [World.size_alloc] at R0
  have B0:=hid (show Below w.heap.size w ((w.alloc (msc a np c a' nf c' 25)).alloc (.cells #[.int .i64 0,.int .i64 0] 39)) from balloc (balloc (Below.refl _ w) _) _)
  obtain ⟨m0,m1,ml⟩:=M0.out
  go_enter Tryz.func33,Tryz.ntmps33
  go_wp2_with fail
  with_reducible refine (V.out _ B0.out).mono ?_
  rintro e w1 ⟨rfl,hb1⟩
  have M1:=hid (mes_below M0.out hb1)
  have R1:=hid (pair_below R0.out hb1)
  have B1:=hid (bstep B0.out hb1)
  clear hb1 m0 m1 ml M0 R0 B0
  obtain ⟨m0,m1,ml⟩:=M1.out
  obtain ⟨z0,z1,z2,z3,z4⟩:=R1.out
  have hB:=B1.out
  clear m0 m1 ml
  go_wp2
  refine bodyPost_ret (v:=spr ((0,0),vc)) (by rw [results_cell_tmp rfl];go_simp) rfl ⟨rfl,?_⟩
  (repeat' (first|with_reducible exact hB|with_reducible refine Below.drew ?_|(with_reducible refine balloc ?_ _)|(with_reducible refine Below.setCell ?_ (by simp<;>omega) _)))
theorem rbn_t (a:Option Addr) (np c:Nat) (a':Option Addr) (nf c':Nat) (b:Option Addr) (n cap:Nat) (D x vc:Int) (w:World) (V:Hid (∀ W,Below w.heap.size w W->Calls Tryz.prog 25 #[msv a np c a' nf c',.slice b n cap,.int .i64 D] W fun e w'=>e=.returned (.tuple #[.int .i64 x,.int .i64 0])/\Below W.heap.size W w')) (T:Hid (∀ W,Below w.heap.size w W->Calls Tryz.prog 29 #[msv a np c a' nf c',.slice b n cap,.int .i64 D] W fun e w'=>e=.returned (.tuple #[.int .i64 0,.int .i64 vc])/\Below W.heap.size W w')) (z:(vc != 0)=true):Calls Tryz.prog 33 #[msv a np c a' nf c',.slice b n cap,.int .i64 D] w fun e w'=>e=.returned (spr ((0,0),vc))/\Below w.heap.size w w':=by
  have M0:=hid (mes_alloc (mes_new w a np c a' nf c' 25) (.cells #[.int .i64 0,.int .i64 0] 39))
  have R0:=hid (pair_new (w.alloc (msc a np c a' nf c' 25)) 0 0 39)
  simp only [World.size_alloc] at R0
  have B0:=hid (show Below w.heap.size w ((w.alloc (msc a np c a' nf c' 25)).alloc (.cells #[.int .i64 0,.int .i64 0] 39)) from balloc (balloc (Below.refl _ w) _) _)
  obtain ⟨m0,m1,ml⟩:=M0.out
  go_enter Tryz.func33,Tryz.ntmps33
  go_wp2_with fail
  with_reducible refine (V.out _ B0.out).mono ?_
  rintro e w1 ⟨rfl,hb1⟩
  have M1:=hid (mes_below M0.out hb1)
  have R1:=hid (pair_below R0.out hb1)
  have B1:=hid (bstep B0.out hb1)
  clear hb1 m0 m1 ml M0 R0 B0
  obtain ⟨m0,m1,ml⟩:=M1.out
  go_wp2_with fail
  with_reducible refine (T.out _ B1.out).mono ?_
  rintro e w2 ⟨rfl,hb2⟩
  have M2:=hid (mes_below M1.out hb2)
  have R2:=hid (pair_below R1.out hb2)
  have B2:=hid (bstep B1.out hb2)
  clear hb2 m0 m1 ml M1 R1 B1
  obtain ⟨m0,m1,ml⟩:=M2.out
  obtain ⟨z0,z1,z2,z3,z4⟩:=R2.out
  have hB:=B2.out
  clear m0 m1 ml
  go_wp2
  refine bodyPost_ret (v:=spr ((0,0),vc)) (by rw [results_cell_tmp rfl];go_simp) rfl ⟨rfl,?_⟩
  (repeat' (first|with_reducible exact hB|with_reducible refine Below.drew ?_|(with_reducible refine balloc ?_ _)|(with_reducible refine Below.setCell ?_ (by simp<;>omega) _)))
theorem rbn_ok (a:Option Addr) (np c:Nat) (a':Option Addr) (nf c':Nat) (b:Option Addr) (n cap:Nat) (D x y z r:Int) (ce:P3) (w:World) (V:Hid (∀ W,Below w.heap.size w W->Calls Tryz.prog 25 #[msv a np c a' nf c',.slice b n cap,.int .i64 D] W fun e w'=>e=.returned (.tuple #[.int .i64 x,.int .i64 0])/\Below W.heap.size W w')) (T:Hid (∀ W,Below w.heap.size w W->Calls Tryz.prog 29 #[msv a np c a' nf c',.slice b n cap,.int .i64 D] W fun e w'=>e=.returned (.tuple #[.int .i64 y,.int .i64 0])/\Below W.heap.size W w')) (A:Hid (∀ W,Below w.heap.size w W->Calls Tryz.prog 27 #[msv a np c a' nf c',.slice b n cap,.int .i64 D] W fun e w'=>e=.returned (.tuple #[.int .i64 z,.int .i64 0])/\Below W.heap.size W w')) (MI:Hid (∀ W,Below w.heap.size w W->Calls Tryz.prog 78 #[msv a np c a' nf c'] W fun e w'=>e=.returned (ptv ce)/\Below W.heap.size W w')) (BA:Hid (∀ W,Below w.heap.size w W->Calls Tryz.prog 31 #[msv a np c a' nf c',ptv ce] W fun e w'=>e=.returned (.tuple #[.int .i64 r,.int .i64 0])/\Below W.heap.size W w')):Calls Tryz.prog 33 #[msv a np c a' nf c',.slice b n cap,.int .i64 D] w fun e w'=>e=.returned (spr ((Sp.mx x y,Sp.mn z r),0))/\Below w.heap.size w w':=by
  have M0:=hid (mes_alloc (mes_new w a np c a' nf c' 25) (.cells #[.int .i64 0,.int .i64 0] 39))
  have R0:=hid (pair_new (w.alloc (msc a np c a' nf c' 25)) 0 0 39)
  simp only [World.size_alloc] at R0
  have B0:=hid (show Below w.heap.size w ((w.alloc (msc a np c a' nf c' 25)).alloc (.cells #[.int .i64 0,.int .i64 0] 39)) from balloc (balloc (Below.refl _ w) _) _)
  obtain ⟨m0,m1,ml⟩:=M0.out
  go_enter Tryz.func33,Tryz.ntmps33
  go_wp2_with fail
  with_reducible refine (V.out _ B0.out).mono ?_
  rintro e w1 ⟨rfl,hb1⟩
  have M1:=hid (mes_below M0.out hb1)
  have R1:=hid (pair_below R0.out hb1)
  have B1:=hid (bstep B0.out hb1)
  clear hb1 m0 m1 ml M0 R0 B0
  obtain ⟨m0,m1,ml⟩:=M1.out
  go_wp2_with fail
  with_reducible refine (T.out _ B1.out).mono ?_
  rintro e w2 ⟨rfl,hb2⟩
  have M2:=hid (mes_below M1.out hb2)
  have R2:=hid (pair_below R1.out hb2)
  have B2:=hid (bstep B1.out hb2)
  clear hb2 m0 m1 ml M1 R1 B1
  obtain ⟨m0,m1,ml⟩:=M2.out
  go_wp2_with fail
  with_reducible refine (A.out _ B2.out).mono ?_
  rintro e w3 ⟨rfl,hb3⟩
  have M3:=hid (mes_below M2.out hb3)
  have R3:=hid (pair_below R2.out hb3)
  have B3:=hid (bstep B2.out hb3)
  clear hb3 m0 m1 ml M2 R2 B2
  obtain ⟨m0,m1,ml⟩:=M3.out
  clear V T A m0 m1 ml
  go_wp2
  have i0:Mes w3.drew w.heap.size a np c a' nf c':=M3.out
  have p0:=hid (show Pair w3.drew (w.heap.size+1) 0 0 from R3.out)
  have b0:=hid (show Below w.heap.size w w3.drew from Below.drew B3.out)
  clear M3 R3 B3
  go_region_held3 (fun w'=>w'.cell? ⟨w.heap.size,0,none⟩=some (.slice a np c)/\w'.cell? ⟨w.heap.size,1,none⟩=some (.slice a' nf c'))
    (first|(with_reducible exact ev_cells i0)|(with_reducible exact ev_cells i1)|(with_reducible exact ev_cells i2)|fail)
    (first
     |(go_at_call 78;(with_reducible refine (MI.out _ b0.out).mono ?_);rintro e v1 ⟨rfl,hv⟩;have i1:=mes_below i0 hv;have p1:=hid (pair_below p0.out hv);have b1:=hid (bstep b0.out hv);clear hv)
     |(go_at_call 31;(with_reducible refine (BA.out _ b1.out).mono ?_);rintro e v2 ⟨rfl,hv⟩;have i2:=mes_below i1 hv;have p2:=hid (pair_below p1.out hv);have b2:=hid (bstep b1.out hv);clear hv)
      | fail)
  all_goals
    obtain ⟨z0,z1,z2,z3,z4⟩:=p2.out
    have hB:=b2.out
    go_wp2
    refine bodyPost_ret (v:=spr ((Sp.mx x y,Sp.mn z r),0)) (by rw [results_cell_tmp rfl];go_simp) rfl ⟨rfl,?_⟩
    (repeat' (first|with_reducible exact hB|with_reducible refine Below.drew ?_|(with_reducible refine balloc ?_ _)|(with_reducible refine Below.setCell ?_ (by simp<;>omega) _)))
theorem rbn_any (a:Option Addr) (np c:Nat) (a':Option Addr) (nf c':Nat) (b:Option Addr) (n cap:Nat) (D:Int) (P F:Nat->P3) (ch:Nat->Int) (w:World) (rp:Lst w a np P) (rf:Lst w a' nf F) (rc:LstI w b n ch) (hn:np<=1000000) (hm:nf<=1000000) (hk:n<=9223372036854775807):Calls Tryz.prog 33 #[msv a np c a' nf c',.slice b n cap,.int .i64 D] w fun e w'=>e=.returned (spr (bndR np nf P F n ch D))/\Below w.heap.size w w':=by
  have LO:=(hid fun W B=>rlo_any a np c a' nf c' b n cap D P F ch W (lst_below rp B) (lst_below rf B) (lstI_below rc B) hn hm hk)
  by_cases y:gv7 np nf P F n ch D=0
  · have TH:=(hid fun W B=>rth_any a np c a' nf c' b n cap D P F ch W (lst_below rp B) (lst_below rf B) (lstI_below rc B) hn hm hk)
    have AB:=(hid fun W B=>rab_any a np c a' nf c' b n cap D P F ch W (lst_below rp B) (lst_below rf B) (lstI_below rc B) hn hm hk)
    rw [show bndR np nf P F n ch D=bdR (btT (Tr P F) D) (mtT (Tr P F) D) ch n (ballR 0 np P (mid (lo3 P np) (hi3 P np))).1 from if_pos y]
    rw [show loA np nf P F n ch D=(lowN (sm ch n) (mxl (ptH (btT (Tr P F) D) ch n) n),0) from if_pos y] at LO
    rw [show abA np nf P F n ch D=(abvN (sm ch n) (mnl (ptL (btT (Tr P F) D) ch n) n),0) from if_pos y] at AB
    have e1:enA np nf P F n ch D=enR (mtT (Tr P F) D) ch n:=if_pos y
    unfold bdR
    by_cases x:(enR (mtT (Tr P F) D) ch n).2=0
    · rw [if_pos x]
      rw [show thA np nf P F n ch D=(thoN (sm ch n) (enH (mtT (Tr P F) D) ch n),0) from if_pos (by rw [e1];exact x)] at TH
      obtain ⟨z,_,_⟩:=gvc_ok y
      have zz:=(chc_ok z).1
      have BM:=(ball_mid zz).2.2
      have BA:=hid (fun W (B:Below w.heap.size w W)=>rbl_any a np c a' nf c' (mid (lo3 P np) (hi3 P np)) P F W (lst_below rp B) (lst_below rf B) hn hm)
      rw [BM] at BA
      obtain ⟨hnp,h64,_⟩:=vcode_rows zz
      obtain ⟨_,_,_,h4,_⟩:=vcode_ok zz
      obtain ⟨pb,poff,rfl,rp1⟩:=rp hnp
      have MI:=hid (fun W (B:Below w.heap.size w W)=>rmd_any pb poff np c a' nf c' P W (row3_below rp1 B) hnp h64 (fun k hk=>inP_iff.1 (pts_in h4 k hk)))
      exact rbn_ok (some ⟨pb,poff,none⟩) np c a' nf c' b n cap D _ _ _ _ _ w LO TH AB MI BA
    · rw [if_neg x]
      rw [show thA np nf P F n ch D=(0,(enR (mtT (Tr P F) D) ch n).2) from (if_neg (by rw [e1];exact x)).trans (by rw [e1])] at TH
      exact rbn_t a np c a' nf c' b n cap D _ _ w LO TH (bne_iff_ne.2 x)
  · rw [show bndR np nf P F n ch D=((0,0),gv7 np nf P F n ch D) from if_neg y]
    rw [show loA np nf P F n ch D=(0,gv7 np nf P F n ch D) from if_neg y] at LO
    exact rbn_v a np c a' nf c' b n cap D _ w LO (bne_iff_ne.2 y)
end Go.Proofs.YtbcjiigmbcfkeaaGreat
namespace Go.Proofs.YtbcjiigmbcfkeaaGreat
open Go.Lib (hid)
set_option maxRecDepth 100000
set_option maxHeartbeats 4000000
open Go.ChangeShapes Go.WideShapes Go.RowKit
open Sh
open Go.Shelf
theorem one7_any (a:Option Addr) (np c:Nat) (a':Option Addr) (nf c':Nat) (w:World) (h0:0<nf) (hn:nf<=1000):Calls Tryz.prog 80 #[msv a np c a' nf c'] w fun e w'=>∃ g cap,e=.returned (.slice (some ⟨g,0,none⟩) nf cap)/\RowI w' g 0 nf (fun _=>1)/\Below w.heap.size w w':=by
  obtain ⟨i0,hi,hz0,hz1,hz2⟩:=info_parts infoI1
  have HI:=hid hi
  have HZ0:=hid hz0
  have HZ1:=hid hz1
  have HZ2:=hid hz2
  clear hi hz0 hz1 hz2
  have hn':(nf:Int)<=1000:=by omega
  have M1:=hid (mes_new w a np c a' nf c' 25)
  have B1:=hid (balloc (Below.refl _ w) (msc a np c a' nf c' 25))
  go_enter Tryz.func80,Tryz.ntmps80
  go_wp2
  generalize w.alloc (msc a np c a' nf c' 25)=w1 at *
  go_loopw [3,4] (fun sv kv wr=>∃ k:Nat,k<=nf/\kv=.int .i64 k/\wr.ownsRow w1.heap.size 3 1 sv k (ivs (fun _=>1) k)/\Below w1.heap.size w1 wr) (fun _ kv _=>nf - (intOf kv).toNat)
  case atStart=>exact ⟨0,Nat.zero_le _,rfl,World.ownsRow_nil _ _ _ _,Below.refl _ _⟩
  case round =>
    obtain ⟨k,hk,rfl,hrow,BB⟩:=hrel
    have C0:=hid BB
    have ROWc:=hid hrow
    obtain ⟨m0,m1,ml⟩:=mes_below M1.out BB
    clear BB hrow
    by_cases hlt:k<nf
    · have hk1:(k:Int)<(nf:Int):=by omega
      have hk0:0<=(k:Int):=by omega
      have szw:=C0.out.size
      have NX:=hid (show ivs (fun _=>1) (k+1)=ivs (fun _=>1) k ++ [.int .i64 1] from rfl)
      go_wp2_with (at_builtin;(refine wpList_append_own _ rfl _ _ 26 rfl w1.heap.size 3 i0 (.int .i64 0) 1 8 Tryz.underlying26 HI.out HZ0.out HZ1.out HZ2.out rfl (by decide) _ k (ivs (fun _=>1) k) rfl (ROWc.out.alloc _) ⟨_,0,none⟩ 1 1 [.int .i64 1] rfl rfl (one_new' _ _ _ _ (by simp)) (by intro u hu;simp at hu;subst hu;rfl) (by unfold maxLen;omega) (by omega) (by simp;omega) ?_);intro v' w7 hown' hgrow _;have OW:=hid hown';have GR:=hid hgrow;clear hown' hgrow)
      have BG:=(C0.out.alloc szw _).grown GR.out (by simp;omega) (fun gg hg=>(ROWc.out.lt gg hg).1)
      go_roundw
      case rel=>exact ⟨k+1,by omega,by go_num,by rw [NX.out];exact OW.out,BG⟩
      case measure=>simp [intOf];omega
    · obtain rfl:k=nf:=by omega
      obtain ⟨g,cap,hv,hg,r9⟩:=rwi_of ROWc.out h0
      subst hv
      have R9:=hid r9
      have hB:=bstep B1.out C0.out
      clear r9
      go_wp2
      go_ret
      exact ⟨g,cap,rfl,⟨R9.out.1,fun j hj=>by rw [Nat.zero_add];exact R9.out.2 j hj⟩,hB⟩
theorem rev_v (a:Option Addr) (np c:Nat) (a':Option Addr) (nf c':Nat) (D vc:Int) (w:World) (V:Hid (∀ W,Below w.heap.size w W->Calls Tryz.prog 46 #[msv a np c a' nf c'] W fun e w'=>e=.returned (.int .i64 vc)/\Below W.heap.size W w')) (z:(vc != 0)=true):Calls Tryz.prog 35 #[msv a np c a' nf c',.int .i64 D] w fun e w'=>e=.returned (spr ((0,0),vc))/\Below w.heap.size w w':=by
  have M0:=hid (mes_alloc (mes_new w a np c a' nf c' 25) (.cells #[.int .i64 0,.int .i64 0] 39))
  have R0:=hid (pair_new (w.alloc (msc a np c a' nf c' 25)) 0 0 39)
  simp only [World.size_alloc] at R0
  have B0:=hid (show Below w.heap.size w ((w.alloc (msc a np c a' nf c' 25)).alloc (.cells #[.int .i64 0,.int .i64 0] 39)) from balloc (balloc (Below.refl _ w) _) _)
  obtain ⟨m0,m1,ml⟩:=M0.out
  go_enter Tryz.func35,Tryz.ntmps35
  go_wp2_with fail
  with_reducible refine (V.out _ B0.out).mono ?_
  rintro e w1 ⟨rfl,hb1⟩
  have M1:=hid (mes_below M0.out hb1)
  have R1:=hid (pair_below R0.out hb1)
  have B1:=hid (bstep B0.out hb1)
  clear hb1 m0 m1 ml M0 R0 B0
  obtain ⟨m0,m1,ml⟩:=M1.out
  obtain ⟨z0,z1,z2,z3,z4⟩:=R1.out
  have hB:=B1.out
  clear m0 m1 ml
  go_wp2
  refine bodyPost_ret (v:=spr ((0,0),vc)) (by rw [results_cell_tmp rfl];go_simp) rfl ⟨rfl,?_⟩
  (repeat' (first|with_reducible exact hB|with_reducible refine Below.drew ?_|(with_reducible refine balloc ?_ _)|(with_reducible refine Below.setCell ?_ (by simp<;>omega) _)))
theorem rev_ok (a:Option Addr) (np c:Nat) (a':Option Addr) (nf c':Nat) (D:Int) (R:Sp.R) (w:World) (V:Hid (∀ W,Below w.heap.size w W->Calls Tryz.prog 46 #[msv a np c a' nf c'] W fun e w'=>e=.returned (.int .i64 0)/\Below W.heap.size W w')) (ON:Hid (∀ W,Calls Tryz.prog 80 #[msv a np c a' nf c'] W fun e w'=>∃ g cap,e=.returned (.slice (some ⟨g,0,none⟩) nf cap)/\RowI w' g 0 nf (fun _=>1)/\Below W.heap.size W w'))
    (BN:Hid (∀ g cap W,Below w.heap.size w W->RowI W g 0 nf (fun _=>1)->Calls Tryz.prog 33 #[msv a np c a' nf c',.slice (some ⟨g,0,none⟩) nf cap,.int .i64 D] W fun e w'=>e=.returned (spr R)/\Below W.heap.size W w')):Calls Tryz.prog 35 #[msv a np c a' nf c',.int .i64 D] w fun e w'=>e=.returned (spr R)/\Below w.heap.size w w':=by
  obtain ⟨⟨ru,rv⟩,rz⟩:=R
  have M0:=hid (mes_alloc (mes_new w a np c a' nf c' 25) (.cells #[.int .i64 0,.int .i64 0] 39))
  have R0:=hid (pair_new (w.alloc (msc a np c a' nf c' 25)) 0 0 39)
  simp only [World.size_alloc] at R0
  have B0:=hid (show Below w.heap.size w ((w.alloc (msc a np c a' nf c' 25)).alloc (.cells #[.int .i64 0,.int .i64 0] 39)) from balloc (balloc (Below.refl _ w) _) _)
  obtain ⟨m0,m1,ml⟩:=M0.out
  go_enter Tryz.func35,Tryz.ntmps35
  go_wp2_with fail
  with_reducible refine (V.out _ B0.out).mono ?_
  rintro e w1 ⟨rfl,hb1⟩
  have M1:=hid (mes_below M0.out hb1)
  have R1:=hid (pair_below R0.out hb1)
  have B1:=hid (bstep B0.out hb1)
  clear hb1 m0 m1 ml M0 R0 B0
  obtain ⟨m0,m1,ml⟩:=M1.out
  clear V m0 m1 ml
  go_wp2
  have i0:Mes w1.drew w.heap.size a np c a' nf c':=M1.out
  have p0:=hid (show Pair w1.drew (w.heap.size+1) 0 0 from R1.out)
  have b0:=hid (show Below w.heap.size w w1.drew from Below.drew B1.out)
  have gn:w.heap.size+1 ≠ w.heap.size:=by omega
  clear M1 R1 B1
  go_region_held3 (fun w'=>w'.cell? ⟨w.heap.size,0,none⟩=some (.slice a np c)/\w'.cell? ⟨w.heap.size,1,none⟩=some (.slice a' nf c'))
    (first|(with_reducible exact ev_cells i0)|(with_reducible exact ev_cells i1)|(with_reducible exact ev_cells i2)|(with_reducible exact ev_cells2 i2 gn _ _)|fail)
    (first
     |(go_at_call 80;(with_reducible refine (ON.out _).mono ?_);rintro e v1 ⟨g,cap,rfl,rr,hv⟩;have i1:=mes_below i0 hv;have p1:=hid (pair_below p0.out hv);have b1:=hid (bstep b0.out hv);have BN1:=hid (BN.out g cap v1 b1.out rr);clear hv rr)
     |(go_at_call 33;(with_reducible refine BN1.out.mono ?_);rintro e v2 ⟨rfl,hv⟩;have i2:=mes_below i1 hv;have p2:=pair_below p1.out hv;obtain ⟨z0,z1,z2,z3,z4⟩:=p2;have hB:=bstep b1.out hv;clear hv)
      | fail)
  all_goals
    go_wp2
    refine bodyPost_ret (v:=spr ((ru,rv),rz)) (by rw [results_cell_tmp rfl];go_simp) rfl ⟨rfl,?_⟩
    (repeat' (first|with_reducible exact hB|with_reducible refine Below.drew ?_|(with_reducible refine balloc ?_ _)|(with_reducible refine Below.setCell ?_ (by simp<;>omega) _)))
theorem rev_any (a:Option Addr) (np c:Nat) (a':Option Addr) (nf c':Nat) (D:Int) (P F:Nat->P3) (w:World) (rp:Lst w a np P) (rf:Lst w a' nf F) (hn:np<=1000) (hm:nf<=1000):Calls Tryz.prog 35 #[msv a np c a' nf c',.int .i64 D] w fun e w'=>e=.returned (spr (bndR np nf P F nf (fun _=>1) D))/\Below w.heap.size w w':=by
  have VA:=hid (fun W (B:Below w.heap.size w W)=>rval_any a np c a' nf c' P F W (lst_below rp B) (lst_below rf B) (by omega) (by omega))
  by_cases z:vcode ⟨np,nf,P,F⟩=0
  · rw [z] at VA
    obtain ⟨_,_,h0,_⟩:=vcode_rows z
    exact rev_ok a np c a' nf c' D _ w VA (hid fun W=>one7_any a np c a' nf c' W h0 hm) (hid fun g cap W B r=>rbn_any a np c a' nf c' (some ⟨g,0,none⟩) nf cap D P F (fun _=>1) W (lst_below rp B) (lst_below rf B) (fun _=>⟨g,0,rfl,r⟩) (by omega) (by omega) (by omega))
  · have e:gvc (vcode ⟨np,nf,P,F⟩) nf nf (fun _=>1) D=vcode ⟨np,nf,P,F⟩:=by
      have c:chc (vcode ⟨np,nf,P,F⟩) nf nf (fun _=>1)=vcode ⟨np,nf,P,F⟩:=by unfold chc;rw [if_neg z]
      unfold gvc
      rw [c,if_neg z]
    rw [show bndR np nf P F nf (fun _=>1) D=((0,0),vcode ⟨np,nf,P,F⟩) from (if_neg (by rw [e];exact z)).trans (by rw [e])]
    exact rev_v a np c a' nf c' D _ w VA (bne_iff_ne.2 z)
end Go.Proofs.YtbcjiigmbcfkeaaGreat
