import Derived.Test.YtbcjiigmbcfkeaaGreatHo26
import Derived.Test.YtbcjiigmbcfkeaaGreatHoMc
namespace Go.Proofs.YtbcjiigmbcfkeaaGreat
open Go.ChangeShapes Go.WideShapes Go.RowKit
open Sh
attribute [local go_sem 1000000] run_min_mn run_max_mx
set_option maxRecDepth 100000 in
set_option maxHeartbeats 2000000 in
theorem rbn_v (a:Option Addr) (np c:Nat) (a':Option Addr) (nf c':Nat) (b:Option Addr) (n cap:Nat) (D vc:Int) (w:World) (V:Hid (∀ W,Below w.heap.size w W→Calls Tryz.prog 25 #[msv a np c a' nf c',.slice b n cap,.int .i64 D] W fun e w'=>e=.returned (.tuple #[.int .i64 0,.int .i64 vc])∧Below W.heap.size W w')) (z:(vc != 0)=true):Calls Tryz.prog 33 #[msv a np c a' nf c',.slice b n cap,.int .i64 D] w fun e w'=>e=.returned (spr ((0,0),vc))∧Below w.heap.size w w':=by
  have M0:=Lib.hid (mes_alloc (mes_new w a np c a' nf c' 25) (.cells #[.int .i64 0,.int .i64 0] 39))
  have R0:=Lib.hid (pair_new (w.alloc (msc a np c a' nf c' 25)) 0 0 39)
  simp only [World.size_alloc] at R0
  have B0:=Lib.hid (show Below w.heap.size w ((w.alloc (msc a np c a' nf c' 25)).alloc (.cells #[.int .i64 0,.int .i64 0] 39)) from balloc (balloc (Below.refl _ w) _) _)
  obtain ⟨m0,m1,ml⟩:=M0.out
  go_enter Tryz.func33,Tryz.ntmps33
  go_wp2_with fail
  with_reducible refine (V.out _ B0.out).mono ?_
  rintro e w1 ⟨rfl,hb1⟩
  have M1:=Lib.hid (mes_below M0.out hb1)
  have R1:=Lib.hid (pair_below R0.out hb1)
  have B1:=Lib.hid (bstep B0.out hb1)
  clear hb1 m0 m1 ml M0 R0 B0
  obtain ⟨m0,m1,ml⟩:=M1.out
  obtain ⟨z0,z1,z2,z3,z4⟩:=R1.out
  have hB:=B1.out
  clear m0 m1 ml
  go_wp2
  refine bodyPost_ret (v:=spr ((0,0),vc)) (by rw [results_cell_tmp rfl];go_simp) rfl ⟨rfl,?_⟩
  (repeat' (first|with_reducible exact hB|with_reducible refine Below.drew ?_|(with_reducible refine balloc ?_ _)|(with_reducible refine Below.setCell ?_ (by simp <;> omega) _)))
set_option maxRecDepth 100000 in
set_option maxHeartbeats 2000000 in
theorem rbn_t (a:Option Addr) (np c:Nat) (a':Option Addr) (nf c':Nat) (b:Option Addr) (n cap:Nat) (D x vc:Int) (w:World) (V:Hid (∀ W,Below w.heap.size w W→Calls Tryz.prog 25 #[msv a np c a' nf c',.slice b n cap,.int .i64 D] W fun e w'=>e=.returned (.tuple #[.int .i64 x,.int .i64 0])∧Below W.heap.size W w')) (T:Hid (∀ W,Below w.heap.size w W→Calls Tryz.prog 29 #[msv a np c a' nf c',.slice b n cap,.int .i64 D] W fun e w'=>e=.returned (.tuple #[.int .i64 0,.int .i64 vc])∧Below W.heap.size W w')) (z:(vc != 0)=true):Calls Tryz.prog 33 #[msv a np c a' nf c',.slice b n cap,.int .i64 D] w fun e w'=>e=.returned (spr ((0,0),vc))∧Below w.heap.size w w':=by
  have M0:=Lib.hid (mes_alloc (mes_new w a np c a' nf c' 25) (.cells #[.int .i64 0,.int .i64 0] 39))
  have R0:=Lib.hid (pair_new (w.alloc (msc a np c a' nf c' 25)) 0 0 39)
  simp only [World.size_alloc] at R0
  have B0:=Lib.hid (show Below w.heap.size w ((w.alloc (msc a np c a' nf c' 25)).alloc (.cells #[.int .i64 0,.int .i64 0] 39)) from balloc (balloc (Below.refl _ w) _) _)
  obtain ⟨m0,m1,ml⟩:=M0.out
  go_enter Tryz.func33,Tryz.ntmps33
  go_wp2_with fail
  with_reducible refine (V.out _ B0.out).mono ?_
  rintro e w1 ⟨rfl,hb1⟩
  have M1:=Lib.hid (mes_below M0.out hb1)
  have R1:=Lib.hid (pair_below R0.out hb1)
  have B1:=Lib.hid (bstep B0.out hb1)
  clear hb1 m0 m1 ml M0 R0 B0
  obtain ⟨m0,m1,ml⟩:=M1.out
  go_wp2_with fail
  with_reducible refine (T.out _ B1.out).mono ?_
  rintro e w2 ⟨rfl,hb2⟩
  have M2:=Lib.hid (mes_below M1.out hb2)
  have R2:=Lib.hid (pair_below R1.out hb2)
  have B2:=Lib.hid (bstep B1.out hb2)
  clear hb2 m0 m1 ml M1 R1 B1
  obtain ⟨m0,m1,ml⟩:=M2.out
  obtain ⟨z0,z1,z2,z3,z4⟩:=R2.out
  have hB:=B2.out
  clear m0 m1 ml
  go_wp2
  refine bodyPost_ret (v:=spr ((0,0),vc)) (by rw [results_cell_tmp rfl];go_simp) rfl ⟨rfl,?_⟩
  (repeat' (first|with_reducible exact hB|with_reducible refine Below.drew ?_|(with_reducible refine balloc ?_ _)|(with_reducible refine Below.setCell ?_ (by simp <;> omega) _)))
set_option maxRecDepth 100000 in
set_option maxHeartbeats 4000000 in
theorem rbn_ok (a:Option Addr) (np c:Nat) (a':Option Addr) (nf c':Nat) (b:Option Addr) (n cap:Nat) (D x y z r:Int) (ce:P3) (w:World) (V:Hid (∀ W,Below w.heap.size w W→Calls Tryz.prog 25 #[msv a np c a' nf c',.slice b n cap,.int .i64 D] W fun e w'=>e=.returned (.tuple #[.int .i64 x,.int .i64 0])∧Below W.heap.size W w')) (T:Hid (∀ W,Below w.heap.size w W→Calls Tryz.prog 29 #[msv a np c a' nf c',.slice b n cap,.int .i64 D] W fun e w'=>e=.returned (.tuple #[.int .i64 y,.int .i64 0])∧Below W.heap.size W w')) (A:Hid (∀ W,Below w.heap.size w W→Calls Tryz.prog 27 #[msv a np c a' nf c',.slice b n cap,.int .i64 D] W fun e w'=>e=.returned (.tuple #[.int .i64 z,.int .i64 0])∧Below W.heap.size W w')) (MI:Hid (∀ W,Below w.heap.size w W→Calls Tryz.prog 78 #[msv a np c a' nf c'] W fun e w'=>e=.returned (ptv ce)∧Below W.heap.size W w')) (BA:Hid (∀ W,Below w.heap.size w W→Calls Tryz.prog 31 #[msv a np c a' nf c',ptv ce] W fun e w'=>e=.returned (.tuple #[.int .i64 r,.int .i64 0])∧Below W.heap.size W w')):Calls Tryz.prog 33 #[msv a np c a' nf c',.slice b n cap,.int .i64 D] w fun e w'=>e=.returned (spr ((Sp.mx x y,Sp.mn z r),0))∧Below w.heap.size w w':=by
  have M0:=Lib.hid (mes_alloc (mes_new w a np c a' nf c' 25) (.cells #[.int .i64 0,.int .i64 0] 39))
  have R0:=Lib.hid (pair_new (w.alloc (msc a np c a' nf c' 25)) 0 0 39)
  simp only [World.size_alloc] at R0
  have B0:=Lib.hid (show Below w.heap.size w ((w.alloc (msc a np c a' nf c' 25)).alloc (.cells #[.int .i64 0,.int .i64 0] 39)) from balloc (balloc (Below.refl _ w) _) _)
  obtain ⟨m0,m1,ml⟩:=M0.out
  go_enter Tryz.func33,Tryz.ntmps33
  go_wp2_with fail
  with_reducible refine (V.out _ B0.out).mono ?_
  rintro e w1 ⟨rfl,hb1⟩
  have M1:=Lib.hid (mes_below M0.out hb1)
  have R1:=Lib.hid (pair_below R0.out hb1)
  have B1:=Lib.hid (bstep B0.out hb1)
  clear hb1 m0 m1 ml M0 R0 B0
  obtain ⟨m0,m1,ml⟩:=M1.out
  go_wp2_with fail
  with_reducible refine (T.out _ B1.out).mono ?_
  rintro e w2 ⟨rfl,hb2⟩
  have M2:=Lib.hid (mes_below M1.out hb2)
  have R2:=Lib.hid (pair_below R1.out hb2)
  have B2:=Lib.hid (bstep B1.out hb2)
  clear hb2 m0 m1 ml M1 R1 B1
  obtain ⟨m0,m1,ml⟩:=M2.out
  go_wp2_with fail
  with_reducible refine (A.out _ B2.out).mono ?_
  rintro e w3 ⟨rfl,hb3⟩
  have M3:=Lib.hid (mes_below M2.out hb3)
  have R3:=Lib.hid (pair_below R2.out hb3)
  have B3:=Lib.hid (bstep B2.out hb3)
  clear hb3 m0 m1 ml M2 R2 B2
  obtain ⟨m0,m1,ml⟩:=M3.out
  clear V T A m0 m1 ml
  go_wp2
  have i0:Mes w3.drew w.heap.size a np c a' nf c':=M3.out
  have p0:=Lib.hid (show Pair w3.drew (w.heap.size+1) 0 0 from R3.out)
  have b0:=Lib.hid (show Below w.heap.size w w3.drew from Below.drew B3.out)
  clear M3 R3 B3
  go_region_held3 (fun w'=>w'.cell? ⟨w.heap.size,0,none⟩=some (.slice a np c)∧w'.cell? ⟨w.heap.size,1,none⟩=some (.slice a' nf c'))
    (first|(with_reducible exact ev_cells i0)|(with_reducible exact ev_cells i1)|(with_reducible exact ev_cells i2)|fail)
    (first
      | (go_at_call 78;(with_reducible refine (MI.out _ b0.out).mono ?_);rintro e v1 ⟨rfl,hv⟩;have i1:=mes_below i0 hv;have p1:=Lib.hid (pair_below p0.out hv);have b1:=Lib.hid (bstep b0.out hv);clear hv)
      | (go_at_call 31;(with_reducible refine (BA.out _ b1.out).mono ?_);rintro e v2 ⟨rfl,hv⟩;have i2:=mes_below i1 hv;have p2:=Lib.hid (pair_below p1.out hv);have b2:=Lib.hid (bstep b1.out hv);clear hv)
      | fail)
  all_goals
    obtain ⟨z0,z1,z2,z3,z4⟩:=p2.out
    have hB:=b2.out
    go_wp2
    refine bodyPost_ret (v:=spr ((Sp.mx x y,Sp.mn z r),0)) (by rw [results_cell_tmp rfl];go_simp) rfl ⟨rfl,?_⟩
    (repeat' (first|with_reducible exact hB|with_reducible refine Below.drew ?_|(with_reducible refine balloc ?_ _)|(with_reducible refine Below.setCell ?_ (by simp <;> omega) _)))
theorem rbn_any (a:Option Addr) (np c:Nat) (a':Option Addr) (nf c':Nat) (b:Option Addr) (n cap:Nat) (D:Int) (P F:Nat→P3) (ch:Nat→Int) (w:World) (rp:Lst w a np P) (rf:Lst w a' nf F) (rc:LstI w b n ch) (hn:np≤1000000) (hm:nf≤1000000) (hk:n≤9223372036854775807):Calls Tryz.prog 33 #[msv a np c a' nf c',.slice b n cap,.int .i64 D] w fun e w'=>e=.returned (spr (bndR np nf P F n ch D))∧Below w.heap.size w w':=by
  have LO:=(Lib.hid fun W B=>rlo_any a np c a' nf c' b n cap D P F ch W (lst_below rp B) (lst_below rf B) (lstI_below rc B) hn hm hk)
  by_cases y:gv7 np nf P F n ch D=0
  · have TH:=(Lib.hid fun W B=>rth_any a np c a' nf c' b n cap D P F ch W (lst_below rp B) (lst_below rf B) (lstI_below rc B) hn hm hk)
    have AB:=(Lib.hid fun W B=>rab_any a np c a' nf c' b n cap D P F ch W (lst_below rp B) (lst_below rf B) (lstI_below rc B) hn hm hk)
    rw [show bndR np nf P F n ch D=bdR (btT (Tr P F) D) (mtT (Tr P F) D) ch n (ballR 0 np P (mid (lo3 P np) (hi3 P np))).1 from if_pos y]
    rw [show loA np nf P F n ch D=(lowN (sm ch n) (mxl (ptH (btT (Tr P F) D) ch n) n),0) from if_pos y] at LO
    rw [show abA np nf P F n ch D=(abvN (sm ch n) (mnl (ptL (btT (Tr P F) D) ch n) n),0) from if_pos y] at AB
    have e1:enA np nf P F n ch D=enR (mtT (Tr P F) D) ch n:=if_pos y
    unfold bdR
    by_cases x:(enR (mtT (Tr P F) D) ch n).2=0
    · rw [if_pos x]
      rw [show thA np nf P F n ch D=(thoN (sm ch n) (enH (mtT (Tr P F) D) ch n),0) from if_pos (by rw [e1];exact x)] at TH
      obtain ⟨z,_,_⟩:=gvc_ok y
      have zz:=(chc_ok z).1
      have BM:=(ball_mid zz).2.2
      have BA:=Lib.hid (fun W (B:Below w.heap.size w W)=>rbl_any a np c a' nf c' (mid (lo3 P np) (hi3 P np)) P F W (lst_below rp B) (lst_below rf B) hn hm)
      rw [BM] at BA
      obtain ⟨hnp,h64,_⟩:=vcode_rows zz
      obtain ⟨_,_,_,h4,_⟩:=vcode_ok zz
      obtain ⟨pb,poff,rfl,rp1⟩:=rp hnp
      have MI:=Lib.hid (fun W (B:Below w.heap.size w W)=>rmd_any pb poff np c a' nf c' P W (row3_below rp1 B) hnp h64 (fun k hk=>inP_iff.1 (pts_in h4 k hk)))
      exact rbn_ok (some ⟨pb,poff,none⟩) np c a' nf c' b n cap D _ _ _ _ _ w LO TH AB MI BA
    · rw [if_neg x]
      rw [show thA np nf P F n ch D=(0,(enR (mtT (Tr P F) D) ch n).2) from (if_neg (by rw [e1];exact x)).trans (by rw [e1])] at TH
      exact rbn_t a np c a' nf c' b n cap D _ _ w LO TH (bne_iff_ne.2 x)
  · rw [show bndR np nf P F n ch D=((0,0),gv7 np nf P F n ch D) from if_neg y]
    rw [show loA np nf P F n ch D=(0,gv7 np nf P F n ch D) from if_neg y] at LO
    exact rbn_v a np c a' nf c' b n cap D _ w LO (bne_iff_ne.2 y)
end Go.Proofs.YtbcjiigmbcfkeaaGreat
