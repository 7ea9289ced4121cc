import Derived.OwnWalk
import Derived.Test.YtbcjiigmbcfkeaaGreatHoMc
import Derived.Test.YtbcjiigmbcfkeaaGreatHo27
namespace Go.Proofs.YtbcjiigmbcfkeaaGreat
open Go.ChangeShapes Go.WideShapes Go.RowKit
open Sh
open Go.Shelf
set_option maxRecDepth 100000 in
set_option maxHeartbeats 2000000 in
theorem one7_any (a:Option Addr) (np c:Nat) (a':Option Addr) (nf c':Nat) (w:World) (h0:0<nf) (hn:nf≤1000):Calls Tryz.prog 80 #[msv a np c a' nf c'] w fun e w'=>∃ g cap,e=.returned (.slice (some ⟨g,0,none⟩) nf cap)∧RowI w' g 0 nf (fun _=>1)∧Below w.heap.size w w':=by
  obtain ⟨i0,hi,hz0,hz1,hz2⟩:=info_parts infoI1
  have HI:=Lib.hid hi
  have HZ0:=Lib.hid hz0
  have HZ1:=Lib.hid hz1
  have HZ2:=Lib.hid hz2
  clear hi hz0 hz1 hz2
  have hn':(nf:Int)≤1000:=by omega
  have M1:=Lib.hid (mes_new w a np c a' nf c' 25)
  have B1:=Lib.hid (balloc (Below.refl _ w) (msc a np c a' nf c' 25))
  go_enter Tryz.func80,Tryz.ntmps80
  go_wp2
  generalize w.alloc (msc a np c a' nf c' 25)=w1 at *
  go_loopw [3,4] (fun sv kv wr=>∃ k:Nat,k≤nf∧kv=.int .i64 k∧wr.ownsRow w1.heap.size 3 1 sv k (ivs (fun _=>1) k)∧Below w1.heap.size w1 wr) (fun _ kv _=>nf - (intOf kv).toNat)
  case atStart=>exact ⟨0,Nat.zero_le _,rfl,World.ownsRow_nil _ _ _ _,Below.refl _ _⟩
  case round =>
    obtain ⟨k,hk,rfl,hrow,BB⟩:=hrel
    have C0:=Lib.hid BB
    have ROWc:=Lib.hid hrow
    obtain ⟨m0,m1,ml⟩:=mes_below M1.out BB
    clear BB hrow
    by_cases hlt:k<nf
    · have hk1:(k:Int)<(nf:Int):=by omega
      have hk0:0≤(k:Int):=by omega
      have szw:=C0.out.size
      have NX:=Lib.hid (show ivs (fun _=>1) (k+1)=ivs (fun _=>1) k ++ [.int .i64 1] from rfl)
      go_wp2_with (at_builtin;(refine wpList_append_own _ rfl _ _ 26 rfl w1.heap.size 3 i0 (.int .i64 0) 1 8 Tryz.underlying26 HI.out HZ0.out HZ1.out HZ2.out rfl (by decide) _ k (ivs (fun _=>1) k) rfl (ROWc.out.alloc _) ⟨_,0,none⟩ 1 1 [.int .i64 1] rfl rfl (one_new' _ _ _ _ (by simp)) (by intro u hu;simp at hu;subst hu;rfl) (by unfold maxLen;omega) (by omega) (by simp;omega) ?_);intro v' w7 hown' hgrow _;have OW:=Lib.hid hown';have GR:=Lib.hid hgrow;clear hown' hgrow)
      have BG:=(C0.out.alloc szw _).grown GR.out (by simp;omega) (fun gg hg=>(ROWc.out.lt gg hg).1)
      go_roundw
      case rel=>exact ⟨k+1,by omega,by go_num,by rw [NX.out];exact OW.out,BG⟩
      case measure=>simp [intOf];omega
    · obtain rfl:k=nf:=by omega
      obtain ⟨g,cap,hv,hg,r9⟩:=rwi_of ROWc.out h0
      subst hv
      have R9:=Lib.hid r9
      have hB:=bstep B1.out C0.out
      clear r9
      go_wp2
      go_ret
      exact ⟨g,cap,rfl,⟨R9.out.1,fun j hj=>by rw [Nat.zero_add];exact R9.out.2 j hj⟩,hB⟩
set_option maxRecDepth 100000 in
set_option maxHeartbeats 2000000 in
theorem rev_v (a:Option Addr) (np c:Nat) (a':Option Addr) (nf c':Nat) (D vc:Int) (w:World) (V:Hid (∀ W,Below w.heap.size w W→Calls Tryz.prog 46 #[msv a np c a' nf c'] W fun e w'=>e=.returned (.int .i64 vc)∧Below W.heap.size W w')) (z:(vc != 0)=true):Calls Tryz.prog 35 #[msv a np c a' nf c',.int .i64 D] w fun e w'=>e=.returned (spr ((0,0),vc))∧Below w.heap.size w w':=by
  have M0:=Lib.hid (mes_alloc (mes_new w a np c a' nf c' 25) (.cells #[.int .i64 0,.int .i64 0] 39))
  have R0:=Lib.hid (pair_new (w.alloc (msc a np c a' nf c' 25)) 0 0 39)
  simp only [World.size_alloc] at R0
  have B0:=Lib.hid (show Below w.heap.size w ((w.alloc (msc a np c a' nf c' 25)).alloc (.cells #[.int .i64 0,.int .i64 0] 39)) from balloc (balloc (Below.refl _ w) _) _)
  obtain ⟨m0,m1,ml⟩:=M0.out
  go_enter Tryz.func35,Tryz.ntmps35
  go_wp2_with fail
  with_reducible refine (V.out _ B0.out).mono ?_
  rintro e w1 ⟨rfl,hb1⟩
  have M1:=Lib.hid (mes_below M0.out hb1)
  have R1:=Lib.hid (pair_below R0.out hb1)
  have B1:=Lib.hid (bstep B0.out hb1)
  clear hb1 m0 m1 ml M0 R0 B0
  obtain ⟨m0,m1,ml⟩:=M1.out
  obtain ⟨z0,z1,z2,z3,z4⟩:=R1.out
  have hB:=B1.out
  clear m0 m1 ml
  go_wp2
  refine bodyPost_ret (v:=spr ((0,0),vc)) (by rw [results_cell_tmp rfl];go_simp) rfl ⟨rfl,?_⟩
  (repeat' (first|with_reducible exact hB|with_reducible refine Below.drew ?_|(with_reducible refine balloc ?_ _)|(with_reducible refine Below.setCell ?_ (by simp <;> omega) _)))
set_option maxRecDepth 100000 in
set_option maxHeartbeats 4000000 in
theorem rev_ok (a:Option Addr) (np c:Nat) (a':Option Addr) (nf c':Nat) (D:Int) (R:Sp.R) (w:World) (V:Hid (∀ W,Below w.heap.size w W→Calls Tryz.prog 46 #[msv a np c a' nf c'] W fun e w'=>e=.returned (.int .i64 0)∧Below W.heap.size W w')) (ON:Hid (∀ W,Calls Tryz.prog 80 #[msv a np c a' nf c'] W fun e w'=>∃ g cap,e=.returned (.slice (some ⟨g,0,none⟩) nf cap)∧RowI w' g 0 nf (fun _=>1)∧Below W.heap.size W w'))
    (BN:Hid (∀ g cap W,Below w.heap.size w W→RowI W g 0 nf (fun _=>1)→Calls Tryz.prog 33 #[msv a np c a' nf c',.slice (some ⟨g,0,none⟩) nf cap,.int .i64 D] W fun e w'=>e=.returned (spr R)∧Below W.heap.size W w')):Calls Tryz.prog 35 #[msv a np c a' nf c',.int .i64 D] w fun e w'=>e=.returned (spr R)∧Below w.heap.size w w':=by
  obtain ⟨⟨ru,rv⟩,rz⟩:=R
  have M0:=Lib.hid (mes_alloc (mes_new w a np c a' nf c' 25) (.cells #[.int .i64 0,.int .i64 0] 39))
  have R0:=Lib.hid (pair_new (w.alloc (msc a np c a' nf c' 25)) 0 0 39)
  simp only [World.size_alloc] at R0
  have B0:=Lib.hid (show Below w.heap.size w ((w.alloc (msc a np c a' nf c' 25)).alloc (.cells #[.int .i64 0,.int .i64 0] 39)) from balloc (balloc (Below.refl _ w) _) _)
  obtain ⟨m0,m1,ml⟩:=M0.out
  go_enter Tryz.func35,Tryz.ntmps35
  go_wp2_with fail
  with_reducible refine (V.out _ B0.out).mono ?_
  rintro e w1 ⟨rfl,hb1⟩
  have M1:=Lib.hid (mes_below M0.out hb1)
  have R1:=Lib.hid (pair_below R0.out hb1)
  have B1:=Lib.hid (bstep B0.out hb1)
  clear hb1 m0 m1 ml M0 R0 B0
  obtain ⟨m0,m1,ml⟩:=M1.out
  clear V m0 m1 ml
  go_wp2
  have i0:Mes w1.drew w.heap.size a np c a' nf c':=M1.out
  have p0:=Lib.hid (show Pair w1.drew (w.heap.size+1) 0 0 from R1.out)
  have b0:=Lib.hid (show Below w.heap.size w w1.drew from Below.drew B1.out)
  have gn:w.heap.size+1 ≠ w.heap.size:=by omega
  clear M1 R1 B1
  go_region_held3 (fun w'=>w'.cell? ⟨w.heap.size,0,none⟩=some (.slice a np c)∧w'.cell? ⟨w.heap.size,1,none⟩=some (.slice a' nf c'))
    (first|(with_reducible exact ev_cells i0)|(with_reducible exact ev_cells i1)|(with_reducible exact ev_cells i2)|(with_reducible exact ev_cells2 i2 gn _ _)|fail)
    (first
      | (go_at_call 80;(with_reducible refine (ON.out _).mono ?_);rintro e v1 ⟨g,cap,rfl,rr,hv⟩;have i1:=mes_below i0 hv;have p1:=Lib.hid (pair_below p0.out hv);have b1:=Lib.hid (bstep b0.out hv);have BN1:=Lib.hid (BN.out g cap v1 b1.out rr);clear hv rr)
      | (go_at_call 33;(with_reducible refine BN1.out.mono ?_);rintro e v2 ⟨rfl,hv⟩;have i2:=mes_below i1 hv;have p2:=pair_below p1.out hv;obtain ⟨z0,z1,z2,z3,z4⟩:=p2;have hB:=bstep b1.out hv;clear hv)
      | fail)
  all_goals
    go_wp2
    refine bodyPost_ret (v:=spr ((ru,rv),rz)) (by rw [results_cell_tmp rfl];go_simp) rfl ⟨rfl,?_⟩
    (repeat' (first|with_reducible exact hB|with_reducible refine Below.drew ?_|(with_reducible refine balloc ?_ _)|(with_reducible refine Below.setCell ?_ (by simp <;> omega) _)))
theorem rev_any (a:Option Addr) (np c:Nat) (a':Option Addr) (nf c':Nat) (D:Int) (P F:Nat→P3) (w:World) (rp:Lst w a np P) (rf:Lst w a' nf F) (hn:np≤1000) (hm:nf≤1000):Calls Tryz.prog 35 #[msv a np c a' nf c',.int .i64 D] w fun e w'=>e=.returned (spr (bndR np nf P F nf (fun _=>1) D))∧Below w.heap.size w w':=by
  have VA:=Lib.hid (fun W (B:Below w.heap.size w W)=>rval_any a np c a' nf c' P F W (lst_below rp B) (lst_below rf B) (by omega) (by omega))
  by_cases z:vcode ⟨np,nf,P,F⟩=0
  · rw [z] at VA
    obtain ⟨_,_,h0,_⟩:=vcode_rows z
    exact rev_ok a np c a' nf c' D _ w VA (Lib.hid fun W=>one7_any a np c a' nf c' W h0 hm) (Lib.hid fun g cap W B r=>rbn_any a np c a' nf c' (some ⟨g,0,none⟩) nf cap D P F (fun _=>1) W (lst_below rp B) (lst_below rf B) (fun _=>⟨g,0,rfl,r⟩) (by omega) (by omega) (by omega))
  · have e:gvc (vcode ⟨np,nf,P,F⟩) nf nf (fun _=>1) D=vcode ⟨np,nf,P,F⟩:=by
      have c:chc (vcode ⟨np,nf,P,F⟩) nf nf (fun _=>1)=vcode ⟨np,nf,P,F⟩:=by unfold chc;rw [if_neg z]
      unfold gvc
      rw [c,if_neg z]
    rw [show bndR np nf P F nf (fun _=>1) D=((0,0),vcode ⟨np,nf,P,F⟩) from (if_neg (by rw [e];exact z)).trans (by rw [e])]
    exact rev_v a np c a' nf c' D _ w VA (bne_iff_ne.2 z)
set_option maxRecDepth 100000 in
set_option maxHeartbeats 4000000 in
theorem lwb_w (a:Option Addr) (np c:Nat) (a':Option Addr) (nf c':Nat) (b:Option Addr) (n cap:Nat) (D:Int) (p q r s cd ce:Int) (w:World) (HV:Hid (∀ W,Below w.heap.size w W→Calls Tryz.prog 13 #[msv a np c a' nf c',.int .i64 D] W fun e w'=>∃ v:Bool,e=.returned (.bool v)∧(v=false→np≤200∧nf≤200)∧Below W.heap.size W w')) (SA:Hid (∀ W,Calls Tryz.prog 14 #[] W fun e w'=>e=.returned (.bool true)∧Below W.heap.size W w')) (E1:Hid (np≤200∧nf≤200→¬ (300:Int)<(n:Int)→∀ W,Below w.heap.size w W→Calls Tryz.prog 32 #[msv a np c a' nf c',.slice b n cap,.int .i64 D] W fun e w'=>e=.returned (spr ((p,q),cd))∧Below W.heap.size W w')) (E2:Hid (np≤200∧nf≤200→¬ (300:Int)<(n:Int)→∀ W,Below w.heap.size w W→Calls Tryz.prog 33 #[msv a np c a' nf c',.slice b n cap,.int .i64 D] W fun e w'=>e=.returned (spr ((p,q),cd))∧Below W.heap.size W w')) (E3:Hid (np≤200∧nf≤200→∀ W,Below w.heap.size w W→Calls Tryz.prog 34 #[msv a np c a' nf c',.int .i64 D] W fun e w'=>e=.returned (spr ((r,s),ce))∧Below W.heap.size W w')) (E4:Hid (np≤200∧nf≤200→∀ W,Below w.heap.size w W→Calls Tryz.prog 35 #[msv a np c a' nf c',.int .i64 D] W fun e w'=>e=.returned (spr ((r,s),ce))∧Below W.heap.size W w')) :
    Calls Tryz.prog 8 #[msv a np c a' nf c',.slice b n cap,.int .i64 D] w fun e w'=>e=.returned (.bool true)∧Below w.heap.size w w':=by
  have M0:=Lib.hid (mes_new w a np c a' nf c' 25)
  have B0:=Lib.hid (show Below w.heap.size w (w.alloc (msc a np c a' nf c' 25)) from (Below.refl _ w).alloc (Nat.le_refl _) _)
  obtain ⟨m0,m1,ml⟩:=M0.out
  go_enter Tryz.func8,Tryz.ntmps8
  go_wp2_with fail
  with_reducible refine (HV.out _ B0.out).mono ?_
  rintro e w1 ⟨v,rfl,hv,hb1⟩
  have M1:=Lib.hid (mes_below M0.out hb1)
  have B1:=Lib.hid (bstep B0.out hb1)
  clear hb1 m0 m1 ml M0 B0
  obtain ⟨m0,m1,ml⟩:=M1.out
  cases v with
  | true =>
    go_wp2_with fail
    with_reducible refine (SA.out _).mono ?_
    rintro e wz ⟨rfl,hbz⟩
    have hB:=bstep B1.out hbz
    clear hbz m0 m1 ml
    go_wp2
    go_ret
    exact ⟨rfl,by (repeat' (first|with_reducible exact hB|with_reducible refine Below.drew ?_|(with_reducible refine balloc ?_ _)|(with_reducible refine Below.setCell ?_ (by simp <;> omega) _)))⟩
  | false =>
    by_cases hn:(300:Int)<(n:Int)
    · clear hv
      go_wp2_with fail
      with_reducible refine (SA.out _).mono ?_
      rintro e wz ⟨rfl,hbz⟩
      have hB:=bstep B1.out hbz
      clear hbz m0 m1 ml
      go_wp2
      go_ret
      exact ⟨rfl,by (repeat' (first|with_reducible exact hB|with_reducible refine Below.drew ?_|(with_reducible refine balloc ?_ _)|(with_reducible refine Below.setCell ?_ (by simp <;> omega) _)))⟩
    · have hs:=hv rfl
      clear hv
      go_wp2_with fail
      with_reducible refine (E1.out hs hn _ B1.out).mono ?_
      rintro e w2 ⟨rfl,hb2⟩
      have ZB:=Lib.hid ((Below.refl w2.heap.size w2).alloc (Nat.le_refl _) (.cells #[.int .i64 p,.int .i64 q] 39))
      have M2:=Lib.hid (mes_below (mes_below M1.out hb2) ZB.out)
      have B2:=Lib.hid (balloc (bstep B1.out hb2) (.cells #[.int .i64 p,.int .i64 q] 39))
      have P21:=Lib.hid (pair_new w2 p q 39)
      clear hb2 m0 m1 ml M1 B1 ZB
      obtain ⟨m0,m1,ml⟩:=M2.out
      go_wp2_with fail
      with_reducible refine (E2.out hs hn _ B2.out).mono ?_
      rintro e w3 ⟨rfl,hb3⟩
      have ZB:=Lib.hid ((Below.refl w3.heap.size w3).alloc (Nat.le_refl _) (.cells #[.int .i64 p,.int .i64 q] 39))
      have M3:=Lib.hid (mes_below (mes_below M2.out hb3) ZB.out)
      have B3:=Lib.hid (balloc (bstep B2.out hb3) (.cells #[.int .i64 p,.int .i64 q] 39))
      have P31:=Lib.hid (pair_below (pair_below P21.out hb3) ZB.out)
      have P32:=Lib.hid (pair_new w3 p q 39)
      clear hb3 m0 m1 ml M2 B2 ZB P21
      obtain ⟨m0,m1,ml⟩:=M3.out
      go_wp2_with fail
      with_reducible refine (E3.out hs _ B3.out).mono ?_
      rintro e w4 ⟨rfl,hb4⟩
      have ZB:=Lib.hid ((Below.refl w4.heap.size w4).alloc (Nat.le_refl _) (.cells #[.int .i64 r,.int .i64 s] 39))
      have M4:=Lib.hid (mes_below (mes_below M3.out hb4) ZB.out)
      have B4:=Lib.hid (balloc (bstep B3.out hb4) (.cells #[.int .i64 r,.int .i64 s] 39))
      have P41:=Lib.hid (pair_below (pair_below P31.out hb4) ZB.out)
      have P42:=Lib.hid (pair_below (pair_below P32.out hb4) ZB.out)
      have P43:=Lib.hid (pair_new w4 r s 39)
      clear hb4 m0 m1 ml M3 B3 ZB P31 P32
      obtain ⟨m0,m1,ml⟩:=M4.out
      go_wp2_with fail
      with_reducible refine (E4.out hs _ B4.out).mono ?_
      rintro e w5 ⟨rfl,hb5⟩
      have ZB:=Lib.hid ((Below.refl w5.heap.size w5).alloc (Nat.le_refl _) (.cells #[.int .i64 r,.int .i64 s] 39))
      have M5:=Lib.hid (mes_below (mes_below M4.out hb5) ZB.out)
      have B5:=Lib.hid (balloc (bstep B4.out hb5) (.cells #[.int .i64 r,.int .i64 s] 39))
      have P51:=Lib.hid (pair_below (pair_below P41.out hb5) ZB.out)
      have P52:=Lib.hid (pair_below (pair_below P42.out hb5) ZB.out)
      have P53:=Lib.hid (pair_below (pair_below P43.out hb5) ZB.out)
      have P54:=Lib.hid (pair_new w5 r s 39)
      clear hb5 m0 m1 ml M4 B4 ZB P41 P42 P43
      obtain ⟨m0,m1,ml⟩:=M5.out
      obtain ⟨u10,u11,u12,u13,u14⟩:=P51.out
      obtain ⟨u20,u21,u22,u23,u24⟩:=P52.out
      obtain ⟨u30,u31,u32,u33,u34⟩:=P53.out
      obtain ⟨u40,u41,u42,u43,u44⟩:=P54.out
      go_wp2_with fail
      with_reducible refine (SA.out _).mono ?_
      rintro e wz ⟨rfl,hbz⟩
      have hB:=bstep B5.out hbz
      clear hbz m0 m1 ml u10 u11 u12 u13 u14 u20 u21 u22 u23 u24 u30 u31 u32 u33 u34 u40 u41 u42 u43 u44
      go_wp2
      go_ret
      exact ⟨rfl,by (repeat' (first|with_reducible exact hB|with_reducible refine Below.drew ?_|(with_reducible refine balloc ?_ _)|(with_reducible refine Below.setCell ?_ (by simp <;> omega) _)))⟩
theorem hbounds_walk (a:Option Addr) (np c:Nat) (P:Nat→P3) (a':Option Addr) (nf c':Nat) (F:Nat→P3) (b:Option Addr) (n cap:Nat) (ch:Nat→Int) (D:Int) (w:World) (_:np≤maxLen) (_:nf≤maxLen) (rp:Lst w a np P) (rf:Lst w a' nf F) (_:n≤maxLen) (rc:LstI w b n ch):Calls Tryz.prog 8 #[msv a np c a' nf c',.slice b n cap,.int .i64 D] w fun e w'=>e=.returned (.bool true)∧Below w.heap.size w w':=by
  have E1:=(Lib.hid fun (hs:np≤200∧nf≤200) (h3:¬ (300:Int)<(n:Int)) W (B:Below w.heap.size w W)=>hbn_any a np c a' nf c' b n cap D P F ch W (lst_below rp B) (lst_below rf B) (lstI_below rc B) (by omega) (by omega) (by omega))
  have E2:=(Lib.hid fun (hs:np≤200∧nf≤200) (h3:¬ (300:Int)<(n:Int)) W (B:Below w.heap.size w W)=>rbn_any a np c a' nf c' b n cap D P F ch W (lst_below rp B) (lst_below rf B) (lstI_below rc B) (by omega) (by omega) (by omega))
  have E3:=(Lib.hid fun (hs:np≤200∧nf≤200) W (B:Below w.heap.size w W)=>hev_any a np c a' nf c' D P F W (lst_below rp B) (lst_below rf B) (by omega) (by omega))
  have E4:=(Lib.hid fun (hs:np≤200∧nf≤200) W (B:Below w.heap.size w W)=>rev_any a np c a' nf c' D P F W (lst_below rp B) (lst_below rf B) (by omega) (by omega))
  generalize bndR np nf P F n ch D=t at *
  generalize bndR np nf P F nf (fun _=>1) D=t' at *
  obtain ⟨⟨p,q⟩,cd⟩:=t
  obtain ⟨⟨r,s⟩,ce⟩:=t'
  exact lwb_w a np c a' nf c' b n cap D p q r s cd ce w (Lib.hid fun W B=>hvy_any a np c a' nf c' D P F W (lst_below rp B) (lst_below rf B)) (Lib.hid fun W=>san_any W) E1 E2 E3 E4
end Go.Proofs.YtbcjiigmbcfkeaaGreat
