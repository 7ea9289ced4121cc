import Derived.Test.YtbcjiigmbcfkeaaGreatHo45
import Derived.Test.YtbcjiigmbcfkeaaGreatHoMk
namespace Go.Proofs.YtbcjiigmbcfkeaaGreat
open Go.Lib (hid)
set_option maxRecDepth 100000
set_option maxHeartbeats 4000000
open Go.ChangeShapes Go.WideShapes Go.RowKit
open Sh
theorem lwi_e (a:Option Addr) (np c:Nat) (a':Option Addr) (nf c':Nat) (D:Int) (dc:Int) (w:World) (HV:Hid (∀ W,Below w.heap.size w W->Calls Tryz.prog 13 #[msv a np c a' nf c',.int .i64 D] W fun e w'=>∃ v:Bool,e=.returned (.bool v)/\(v=false->np<=200/\nf<=200)/\Below W.heap.size W w')) (SA:Hid (∀ W,Calls Tryz.prog 14 #[] W fun e w'=>e=.returned (.bool true)/\Below W.heap.size W w')) (dz:(dc != 0)=true) (IM:Hid (np<=200/\nf<=14->∀ W,Below w.heap.size w W->Calls Tryz.prog 36 #[msv a np c a' nf c',.int .i64 D] W fun e w'=>e=.returned (.tuple #[.slice none 0 0,.int .i64 dc])/\Below W.heap.size W w')) (EV:Hid (np<=200/\nf<=14->∀ W,Below w.heap.size w W->Calls Tryz.prog 35 #[msv a np c a' nf c',.int .i64 D] W fun e w'=>e=.returned (spr ((0,0),dc))/\Below W.heap.size W w')) :
    Calls Tryz.prog 9 #[msv a np c a' nf c',.int .i64 D] w fun e w'=>e=.returned (.bool true)/\Below w.heap.size w w':=by
  have M0:=hid (mes_new w a np c a' nf c' 25)
  have B0:=hid (show Below w.heap.size w (w.alloc (msc a np c a' nf c' 25)) from (Below.refl _ w).alloc (Nat.le_refl _) _)
  obtain ⟨m0,m1,ml⟩:=M0.out
  go_enter Tryz.func9,Tryz.ntmps9
  by_cases h14:(14:Int)<(nf:Int)
  · go_wp2_with fail
    with_reducible refine (SA.out _).mono ?_
    rintro e wz ⟨rfl,hbz⟩
    have hB:=bstep B0.out hbz
    clear hbz m0 m1 ml
    go_wp2
    go_ret
    exact ⟨rfl,by (repeat' (first|with_reducible exact hB|with_reducible refine Below.drew ?_|(with_reducible refine balloc ?_ _)|(with_reducible refine Below.setCell ?_ (by simp<;>omega) _)))⟩
  · go_wp2_with fail
    with_reducible refine (HV.out _ B0.out).mono ?_
    rintro e w1 ⟨v,rfl,hv,hb1⟩
    have M1:=hid (mes_below M0.out hb1)
    have B1:=hid (bstep B0.out hb1)
    clear hb1 m0 m1 ml M0 B0
    obtain ⟨m0,m1,ml⟩:=M1.out
    cases v with
   |true =>
      go_wp2_with fail
      with_reducible refine (SA.out _).mono ?_
      rintro e wz ⟨rfl,hbz⟩
      have hB:=bstep B1.out hbz
      clear hbz m0 m1 ml
      go_wp2
      go_ret
      exact ⟨rfl,by (repeat' (first|with_reducible exact hB|with_reducible refine Below.drew ?_|(with_reducible refine balloc ?_ _)|(with_reducible refine Below.setCell ?_ (by simp<;>omega) _)))⟩
   |false =>
      have hs:np<=200/\nf<=14:=⟨(hv rfl).1,by omega⟩
      clear hv
      go_wp2_with fail
      with_reducible refine (IM.out hs _ B1.out).mono ?_
      rintro e w2 ⟨rfl,hb2⟩
      have M2:=hid (mes_below M1.out hb2)
      have B2:=hid (bstep B1.out hb2)
      clear hb2 m0 m1 ml M1 B1
      obtain ⟨m0,m1,ml⟩:=M2.out
      go_wp2_with fail
      with_reducible refine (EV.out hs _ B2.out).mono ?_
      rintro e w3 ⟨rfl,hb3⟩
      have M3:=hid (mes_below M2.out hb3)
      have B3:=hid (bstep B2.out hb3)
      clear hb3 m0 m1 ml M2 B2
      obtain ⟨m0,m1,ml⟩:=M3.out
      go_wp2_with fail
      with_reducible refine (SA.out _).mono ?_
      rintro e wz ⟨rfl,hbz⟩
      have hB:=bstep (balloc B3.out (.cells #[.int .i64 0,.int .i64 0] 39)) hbz
      clear hbz m0 m1 ml
      go_wp2
      go_ret
      exact ⟨rfl,by (repeat' (first|with_reducible exact hB|with_reducible refine Below.drew ?_|(with_reducible refine balloc ?_ _)|(with_reducible refine Below.setCell ?_ (by simp<;>omega) _)))⟩
theorem lwi_o (a:Option Addr) (np c:Nat) (a':Option Addr) (nf c':Nat) (D:Int) (r s:Int) (G:(Nat->Int)->Prop) (w:World) (HV:Hid (∀ W,Below w.heap.size w W->Calls Tryz.prog 13 #[msv a np c a' nf c',.int .i64 D] W fun e w'=>∃ v:Bool,e=.returned (.bool v)/\(v=false->np<=200/\nf<=200)/\Below W.heap.size W w')) (SA:Hid (∀ W,Calls Tryz.prog 14 #[] W fun e w'=>e=.returned (.bool true)/\Below W.heap.size W w')) (r0:0<=r) (r1:r<=1099511627776) (s0:0<=s) (s1:s<=1099511627776) (IM:Hid (np<=200/\nf<=14->∀ W,Below w.heap.size w W->Calls Tryz.prog 36 #[msv a np c a' nf c',.int .i64 D] W fun e w'=>∃ q cap ch,e=.returned (.tuple #[.slice (some ⟨q,0,none⟩) nf cap,.int .i64 0])/\RowI w' q 0 nf ch/\G ch/\Below W.heap.size W w')) (EV:Hid (np<=200/\nf<=14->∀ W,Below w.heap.size w W->Calls Tryz.prog 35 #[msv a np c a' nf c',.int .i64 D] W fun e w'=>e=.returned (spr ((r,s),0))/\Below W.heap.size W w')) (BN:Hid (np<=200/\nf<=14->∀ q cap ch W,Below w.heap.size w W->RowI W q 0 nf ch->G ch->Calls Tryz.prog 33 #[msv a np c a' nf c',.slice (some ⟨q,0,none⟩) nf cap,.int .i64 D] W fun e w'=>∃ x y:Int,e=.returned (spr ((x,y),0))/\y - x<=s - r/\0<=x/\x<=1099511627776/\0<=y/\y<=1099511627776/\Below W.heap.size W w')) :
    Calls Tryz.prog 9 #[msv a np c a' nf c',.int .i64 D] w fun e w'=>e=.returned (.bool true)/\Below w.heap.size w w':=by
  have M0:=hid (mes_new w a np c a' nf c' 25)
  have B0:=hid (show Below w.heap.size w (w.alloc (msc a np c a' nf c' 25)) from (Below.refl _ w).alloc (Nat.le_refl _) _)
  obtain ⟨m0,m1,ml⟩:=M0.out
  go_enter Tryz.func9,Tryz.ntmps9
  by_cases h14:(14:Int)<(nf:Int)
  · go_wp2_with fail
    with_reducible refine (SA.out _).mono ?_
    rintro e wz ⟨rfl,hbz⟩
    have hB:=bstep B0.out hbz
    clear hbz m0 m1 ml
    go_wp2
    go_ret
    exact ⟨rfl,by (repeat' (first|with_reducible exact hB|with_reducible refine Below.drew ?_|(with_reducible refine balloc ?_ _)|(with_reducible refine Below.setCell ?_ (by simp<;>omega) _)))⟩
  · go_wp2_with fail
    with_reducible refine (HV.out _ B0.out).mono ?_
    rintro e w1 ⟨v,rfl,hv,hb1⟩
    have M1:=hid (mes_below M0.out hb1)
    have B1:=hid (bstep B0.out hb1)
    clear hb1 m0 m1 ml M0 B0
    obtain ⟨m0,m1,ml⟩:=M1.out
    cases v with
   |true =>
      go_wp2_with fail
      with_reducible refine (SA.out _).mono ?_
      rintro e wz ⟨rfl,hbz⟩
      have hB:=bstep B1.out hbz
      clear hbz m0 m1 ml
      go_wp2
      go_ret
      exact ⟨rfl,by (repeat' (first|with_reducible exact hB|with_reducible refine Below.drew ?_|(with_reducible refine balloc ?_ _)|(with_reducible refine Below.setCell ?_ (by simp<;>omega) _)))⟩
   |false =>
      have hs:np<=200/\nf<=14:=⟨(hv rfl).1,by omega⟩
      clear hv
      go_wp2_with fail
      with_reducible refine (IM.out hs _ B1.out).mono ?_
      rintro e w2 ⟨q,cap,ch,rfl,rr,gd,hb2⟩
      have RR:=hid rr
      clear rr
      have M2:=hid (mes_below M1.out hb2)
      have B2:=hid (bstep B1.out hb2)
      clear hb2 m0 m1 ml M1 B1
      obtain ⟨m0,m1,ml⟩:=M2.out
      go_wp2_with fail
      with_reducible refine (EV.out hs _ B2.out).mono ?_
      rintro e w3 ⟨rfl,hb3⟩
      have RR3:=hid (rowI_below RR.out hb3)
      have ZB:=hid ((Below.refl w3.heap.size w3).alloc (Nat.le_refl _) (.cells #[.int .i64 r,.int .i64 s] 39))
      have M3:=hid (mes_below (mes_below M2.out hb3) ZB.out)
      have B3:=hid (balloc (bstep B2.out hb3) (.cells #[.int .i64 r,.int .i64 s] 39))
      have RR4:=hid (rowI_below RR3.out ZB.out)
      have P3:=hid (pair_new w3 r s 39)
      clear hb3 m0 m1 ml M2 B2 ZB RR RR3
      obtain ⟨m0,m1,ml⟩:=M3.out
      go_wp2_with fail
      with_reducible refine (BN.out hs q cap ch _ B3.out RR4.out gd).mono ?_
      rintro e w4 ⟨x,y,rfl,le,x0,x1,y0,y1,hb4⟩
      have ZB:=hid ((Below.refl w4.heap.size w4).alloc (Nat.le_refl _) (.cells #[.int .i64 x,.int .i64 y] 39))
      have P5:=hid (pair_below (pair_below P3.out hb4) ZB.out)
      have Q5:=hid (pair_new w4 x y 39)
      have B4:=hid (balloc (bstep B3.out hb4) (.cells #[.int .i64 x,.int .i64 y] 39))
      clear hb4 m0 m1 ml M3 B3 ZB RR4 P3
      obtain ⟨u0,u1,u2,u3,u4⟩:=P5.out
      obtain ⟨v0,v1,v2,v3,v4⟩:=Q5.out
      go_wp2_with fail
      with_reducible refine (SA.out _).mono ?_
      rintro e wz ⟨rfl,hbz⟩
      have hB:=bstep B4.out hbz
      clear hbz u0 u1 u2 u3 u4 v0 v1 v2 v3 v4
      go_wp2
      go_ret
      exact ⟨rfl,by (repeat' (first|with_reducible exact hB|with_reducible refine Below.drew ?_|(with_reducible refine balloc ?_ _)|(with_reducible refine Below.setCell ?_ (by simp<;>omega) _)))⟩
theorem gv_ones (vc D:Int) (nf:Nat) (h:vc=0->0<nf):gvc vc nf nf (fun _=>1) D=dpc vc D:=by
  have e:chc vc nf nf (fun _=>1)=vc:=by
    unfold chc
    by_cases z:vc=0
    · have:=h z
      rw [if_pos z,if_pos ⟨rfl,chB_iff.2 (one_ch nf)⟩,if_neg (by rw [sm_ones];omega),z]
    · rw [if_neg z]
  unfold gvc dpc
  rw [e]
theorem himproves_walk (a:Option Addr) (np c:Nat) (P:Nat->P3) (a':Option Addr) (nf c':Nat) (F:Nat->P3) (D:Int) (w:World) (_:np<=maxLen) (_:nf<=maxLen) (rp:Lst w a np P) (rf:Lst w a' nf F):Calls Tryz.prog 9 #[msv a np c a' nf c',.int .i64 D] w fun e w'=>e=.returned (.bool true)/\Below w.heap.size w w':=by
  have gv:=gv_ones (vcode ⟨np,nf,P,F⟩) D nf (fun z=>(vcode_rows z).2.2.1)
  by_cases z:dpc (vcode ⟨np,nf,P,F⟩) D=0
  · obtain ⟨z1,d0,d2⟩:=dpc_ok z
    have h0:=(vcode_rows z1).2.2.1
    have T1:=bt_tb z1 d0 d2
    have T2:=mt_tb z1 d0 d2
    have BR:=ball_rng z1
    rw [z] at gv
    by_cases h14:nf<=14
    · obtain ⟨o1,o2,o3⟩:=wF_ones h0 h14 T1 T2 BR
      have s1:1<=sm (fun _=>(1:Int)) nf:=by rw [sm_ones];omega
      obtain ⟨g1,g2,g3,g4⟩:=bdR_rng h0 (by omega) T1 T2 BR (one_ch nf) s1
      exact lwi_o a np c a' nf c' D _ _ (fun ch=>(∀ i,i<nf->0<=ch i/\ch i<=100)/\wF (btT (Tr P F) D) (mtT (Tr P F) D) nf (ballR 0 np P (mid (lo3 P np) (hi3 P np))).1 ch<=wF (btT (Tr P F) D) (mtT (Tr P F) D) nf (ballR 0 np P (mid (lo3 P np) (hi3 P np))).1 (fun _=>1)) w (hid fun W B=>hvy_any a np c a' nf c' D P F W (lst_below rp B) (lst_below rf B)) (hid fun W=>san_any W) g1 g2 g3 g4
        (hid fun hs W B=>(him_any a np c a' nf c' D P F W (lst_below rp B) (lst_below rf B) (by omega) hs.2 z).mono (by
          rintro e w' ⟨q,cap,ch,rfl,r1,r2,r3,r4⟩
          exact ⟨q,cap,ch,rfl,r1,⟨r2,r3⟩,r4⟩))
        (hid fun hs W B=>(rev_any a np c a' nf c' D P F W (lst_below rp B) (lst_below rf B) (by omega) (by omega)).mono (by
          rintro e w' ⟨rfl,hb⟩
          refine ⟨?_,hb⟩
          unfold bndR
          rw [if_pos gv]
          exact congrArg (fun t=>Ending.returned (spr t)) (Prod.ext rfl o2)))
        (hid fun hs q cap ch W B rr gd=>(rbn_any a np c a' nf c' (some ⟨q,0,none⟩) nf cap D P F ch W (lst_below rp B) (lst_below rf B) (fun _=>⟨q,0,rfl,rr⟩) (by omega) (by omega) (by omega)).mono (by
          rintro e w' ⟨rfl,hb⟩
          obtain ⟨k1,k2⟩:=gd
          obtain ⟨l1,l2,l3⟩:=wF_le k1 (Int.le_trans k2 o3)
          have sp:=(ch_sm (by omega) k1).1
          obtain ⟨j1,j2,j3,j4⟩:=bdR_rng h0 (by omega) T1 T2 BR k1 (by omega)
          refine ⟨_,_,?_,?_,j1,j2,j3,j4,hb⟩
          · unfold bndR
            rw [if_pos (show gvc (vcode ⟨np,nf,P,F⟩) nf nf ch D=0 by
              have ce:chc (vcode ⟨np,nf,P,F⟩) nf nf ch=0:=by
                unfold chc
                rw [if_pos z1,if_pos ⟨rfl,chB_iff.2 k1⟩,if_neg l1]
              unfold gvc
              rw [if_pos ce,if_pos ⟨d0,d2⟩])]
            exact congrArg (fun t=>Ending.returned (spr t)) (Prod.ext rfl l2)
          · rw [← l3,← o1];exact k2))
    · exact lwi_o a np c a' nf c' D 0 0 (fun _=>True) w (hid fun W B=>hvy_any a np c a' nf c' D P F W (lst_below rp B) (lst_below rf B)) (hid fun W=>san_any W) (by decide) (by decide) (by decide) (by decide) (hid fun hs=>absurd hs.2 h14) (hid fun hs=>absurd hs.2 h14) (hid fun hs=>absurd hs.2 h14)
  · refine lwi_e a np c a' nf c' D _ w (hid fun W B=>hvy_any a np c a' nf c' D P F W (lst_below rp B) (lst_below rf B)) (hid fun W=>san_any W) (bne_iff_ne.2 z)
      (hid fun hs W B=>him_err a np c a' nf c' D P F W (lst_below rp B) (lst_below rf B) (by omega) (by omega) z)
      (hid fun hs W B=>(rev_any a np c a' nf c' D P F W (lst_below rp B) (lst_below rf B) (by omega) (by omega)).mono (by
        rintro e w' ⟨rfl,hb⟩
        refine ⟨?_,hb⟩
        unfold bndR
        rw [if_neg (by rw [gv];exact z),gv]))
end Go.Proofs.YtbcjiigmbcfkeaaGreat
