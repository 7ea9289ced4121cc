import Derived.Test.YtbcjiigmbcfkeaaGreatHo29
namespace Go.Proofs.YtbcjiigmbcfkeaaGreat
open Go.ChangeShapes Go.WideShapes Go.RowKit
open Sh
set_option maxRecDepth 100000 in
set_option maxHeartbeats 4000000 in
theorem lwp_w (a:Option Addr) (np c:Nat) (a':Option Addr) (nf c':Nat) (b:Option Addr) (n cap:Nat) (D:Int) (L H:Nat→Int) (w:World) (HV:Hid (∀ W,Below w.heap.size w W→Calls Tryz.prog 13 #[msv a np c a' nf c',.int .i64 D] W fun e w'=>∃ v:Bool,e=.returned (.bool v)∧(v=false→np≤200∧nf≤200)∧Below W.heap.size W w')) (SA:Hid (∀ W,Calls Tryz.prog 14 #[] W fun e w'=>e=.returned (.bool true)∧Below W.heap.size W w')) (E1:Hid (np≤200∧nf≤200→¬ (300:Int)<(n:Int)→∀ W,Below w.heap.size w W→Calls Tryz.prog 19 #[msv a np c a' nf c',.slice b n cap,.int .i64 D] W fun e w'=>∃ q cap',e=.returned (.tuple #[.slice (some ⟨q,0,none⟩) n cap',.int .i64 0])∧Row w' q 0 n L H∧Below W.heap.size W w')) (E2:Hid (np≤200∧nf≤200→¬ (300:Int)<(n:Int)→∀ W,Below w.heap.size w W→Calls Tryz.prog 20 #[msv a np c a' nf c',.slice b n cap,.int .i64 D] W fun e w'=>∃ q cap',e=.returned (.tuple #[.slice (some ⟨q,0,none⟩) n cap',.int .i64 0])∧Row w' q 0 n L H∧Below W.heap.size W w')) :
    Calls Tryz.prog 4 #[msv a np c a' nf c',.slice b n cap,.int .i64 D] w fun e w'=>e=.returned (.bool true)∧Below w.heap.size w w':=by
  have M0:=Lib.hid (mes_new w a np c a' nf c' 25)
  have B0:=Lib.hid (show Below w.heap.size w (w.alloc (msc a np c a' nf c' 25)) from (Below.refl _ w).alloc (Nat.le_refl _) _)
  obtain ⟨m0,m1,ml⟩:=M0.out
  go_enter Tryz.func4,Tryz.ntmps4
  go_wp2_with fail
  with_reducible refine (HV.out _ B0.out).mono ?_
  rintro e w1 ⟨v,rfl,hv,hb1⟩
  have M1:=Lib.hid (mes_below M0.out hb1)
  have B1:=Lib.hid (bstep B0.out hb1)
  clear hb1 m0 m1 ml M0 B0
  obtain ⟨m0,m1,ml⟩:=M1.out
  cases v with
  | true =>
    go_wp2_with fail
    with_reducible refine (SA.out _).mono ?_
    rintro e wz ⟨rfl,hbz⟩
    have hB:=bstep B1.out hbz
    clear hbz m0 m1 ml
    go_wp2
    go_ret
    exact ⟨rfl,by (repeat' (first|with_reducible exact hB|with_reducible refine Below.drew ?_|(with_reducible refine balloc ?_ _)|(with_reducible refine Below.setCell ?_ (by simp <;> omega) _)))⟩
  | false =>
    by_cases hn:(300:Int)<(n:Int)
    · clear hv
      go_wp2_with fail
      with_reducible refine (SA.out _).mono ?_
      rintro e wz ⟨rfl,hbz⟩
      have hB:=bstep B1.out hbz
      clear hbz m0 m1 ml
      go_wp2
      go_ret
      exact ⟨rfl,by (repeat' (first|with_reducible exact hB|with_reducible refine Below.drew ?_|(with_reducible refine balloc ?_ _)|(with_reducible refine Below.setCell ?_ (by simp <;> omega) _)))⟩
    · have hs:=hv rfl
      clear hv
      go_wp2_with fail
      with_reducible refine (E1.out hs hn _ B1.out).mono ?_
      rintro e w2 ⟨q1,cap1,rfl,r1,hb2⟩
      have R1:=Lib.hid r1
      clear r1
      have M2:=Lib.hid (mes_below M1.out hb2)
      have B2:=Lib.hid (bstep B1.out hb2)
      clear hb2 m0 m1 ml M1 B1
      obtain ⟨m0,m1,ml⟩:=M2.out
      go_wp2_with fail
      with_reducible refine (E2.out hs hn _ B2.out).mono ?_
      rintro e w3 ⟨q2,cap2,rfl,r2,hb3⟩
      have SS:=Lib.hid (h7ssp_row q1 0 q2 0 n cap1 cap2 L H w3 (row_below R1.out hb3) r2 (by omega))
      clear r2 R1
      have M3:=Lib.hid (mes_below M2.out hb3)
      have B3:=Lib.hid (bstep B2.out hb3)
      clear hb3 m0 m1 ml M2 B2
      obtain ⟨m0,m1,ml⟩:=M3.out
      go_wp2_with fail
      with_reducible refine SS.out.mono ?_
      rintro e w4 ⟨rfl,hb4⟩
      have M4:=Lib.hid (mes_below M3.out hb4)
      have B4:=Lib.hid (bstep B3.out hb4)
      clear hb4 m0 m1 ml M3 B3
      obtain ⟨m0,m1,ml⟩:=M4.out
      go_wp2_with fail
      with_reducible refine (SA.out _).mono ?_
      rintro e wz ⟨rfl,hbz⟩
      have hB:=bstep B4.out hbz
      clear hbz m0 m1 ml
      go_wp2
      go_ret
      exact ⟨rfl,by (repeat' (first|with_reducible exact hB|with_reducible refine Below.drew ?_|(with_reducible refine balloc ?_ _)|(with_reducible refine Below.setCell ?_ (by simp <;> omega) _)))⟩
set_option maxRecDepth 100000 in
set_option maxHeartbeats 4000000 in
theorem lwq_w (a:Option Addr) (np c:Nat) (a':Option Addr) (nf c':Nat) (b:Option Addr) (n cap:Nat) (D:Int) (vc:Int) (w:World) (HV:Hid (∀ W,Below w.heap.size w W→Calls Tryz.prog 13 #[msv a np c a' nf c',.int .i64 D] W fun e w'=>∃ v:Bool,e=.returned (.bool v)∧(v=false→np≤200∧nf≤200)∧Below W.heap.size W w')) (SA:Hid (∀ W,Calls Tryz.prog 14 #[] W fun e w'=>e=.returned (.bool true)∧Below W.heap.size W w')) (E1:Hid (np≤200∧nf≤200→¬ (300:Int)<(n:Int)→∀ W,Below w.heap.size w W→Calls Tryz.prog 19 #[msv a np c a' nf c',.slice b n cap,.int .i64 D] W fun e w'=>e=.returned (.tuple #[.slice none 0 0,.int .i64 vc])∧Below W.heap.size W w')) (E2:Hid (np≤200∧nf≤200→¬ (300:Int)<(n:Int)→∀ W,Below w.heap.size w W→Calls Tryz.prog 20 #[msv a np c a' nf c',.slice b n cap,.int .i64 D] W fun e w'=>e=.returned (.tuple #[.slice none 0 0,.int .i64 vc])∧Below W.heap.size W w')) :
    Calls Tryz.prog 4 #[msv a np c a' nf c',.slice b n cap,.int .i64 D] w fun e w'=>e=.returned (.bool true)∧Below w.heap.size w w':=by
  have M0:=Lib.hid (mes_new w a np c a' nf c' 25)
  have B0:=Lib.hid (show Below w.heap.size w (w.alloc (msc a np c a' nf c' 25)) from (Below.refl _ w).alloc (Nat.le_refl _) _)
  obtain ⟨m0,m1,ml⟩:=M0.out
  go_enter Tryz.func4,Tryz.ntmps4
  go_wp2_with fail
  with_reducible refine (HV.out _ B0.out).mono ?_
  rintro e w1 ⟨v,rfl,hv,hb1⟩
  have M1:=Lib.hid (mes_below M0.out hb1)
  have B1:=Lib.hid (bstep B0.out hb1)
  clear hb1 m0 m1 ml M0 B0
  obtain ⟨m0,m1,ml⟩:=M1.out
  cases v with
  | true =>
    go_wp2_with fail
    with_reducible refine (SA.out _).mono ?_
    rintro e wz ⟨rfl,hbz⟩
    have hB:=bstep B1.out hbz
    clear hbz m0 m1 ml
    go_wp2
    go_ret
    exact ⟨rfl,by (repeat' (first|with_reducible exact hB|with_reducible refine Below.drew ?_|(with_reducible refine balloc ?_ _)|(with_reducible refine Below.setCell ?_ (by simp <;> omega) _)))⟩
  | false =>
    by_cases hn:(300:Int)<(n:Int)
    · clear hv
      go_wp2_with fail
      with_reducible refine (SA.out _).mono ?_
      rintro e wz ⟨rfl,hbz⟩
      have hB:=bstep B1.out hbz
      clear hbz m0 m1 ml
      go_wp2
      go_ret
      exact ⟨rfl,by (repeat' (first|with_reducible exact hB|with_reducible refine Below.drew ?_|(with_reducible refine balloc ?_ _)|(with_reducible refine Below.setCell ?_ (by simp <;> omega) _)))⟩
    · have hs:=hv rfl
      clear hv
      go_wp2_with fail
      with_reducible refine (E1.out hs hn _ B1.out).mono ?_
      rintro e w2 ⟨rfl,hb2⟩
      have M2:=Lib.hid (mes_below M1.out hb2)
      have B2:=Lib.hid (bstep B1.out hb2)
      clear hb2 m0 m1 ml M1 B1
      obtain ⟨m0,m1,ml⟩:=M2.out
      go_wp2_with fail
      with_reducible refine (E2.out hs hn _ B2.out).mono ?_
      rintro e w3 ⟨rfl,hb3⟩
      have SS:=Lib.hid (h7ssp_zero none none 0 0 w3)
      have M3:=Lib.hid (mes_below M2.out hb3)
      have B3:=Lib.hid (bstep B2.out hb3)
      clear hb3 m0 m1 ml M2 B2
      obtain ⟨m0,m1,ml⟩:=M3.out
      go_wp2_with fail
      with_reducible refine SS.out.mono ?_
      rintro e w4 ⟨rfl,hb4⟩
      have M4:=Lib.hid (mes_below M3.out hb4)
      have B4:=Lib.hid (bstep B3.out hb4)
      clear hb4 m0 m1 ml M3 B3
      obtain ⟨m0,m1,ml⟩:=M4.out
      go_wp2_with fail
      with_reducible refine (SA.out _).mono ?_
      rintro e wz ⟨rfl,hbz⟩
      have hB:=bstep B4.out hbz
      clear hbz m0 m1 ml
      go_wp2
      go_ret
      exact ⟨rfl,by (repeat' (first|with_reducible exact hB|with_reducible refine Below.drew ?_|(with_reducible refine balloc ?_ _)|(with_reducible refine Below.setCell ?_ (by simp <;> omega) _)))⟩
theorem hpotentials_walk (a:Option Addr) (np c:Nat) (P:Nat→P3) (a':Option Addr) (nf c':Nat) (F:Nat→P3) (b:Option Addr) (n cap:Nat) (ch:Nat→Int) (D:Int) (w:World) (_:np≤maxLen) (_:nf≤maxLen) (rp:Lst w a np P) (rf:Lst w a' nf F) (_:n≤maxLen) (rc:LstI w b n ch):Calls Tryz.prog 4 #[msv a np c a' nf c',.slice b n cap,.int .i64 D] w fun e w'=>e=.returned (.bool true)∧Below w.heap.size w w':=by
  by_cases y:gv7 np nf P F n ch D=0
  · exact lwp_w a np c a' nf c' b n cap D _ _ w (Lib.hid fun W B=>hvy_any a np c a' nf c' D P F W (lst_below rp B) (lst_below rf B)) (Lib.hid fun W=>san_any W) (Lib.hid fun hs h3 W B=>hpo_any a np c a' nf c' b n cap D P F ch W (lst_below rp B) (lst_below rf B) (lstI_below rc B) (by omega) (by omega) (by omega) y) (Lib.hid fun hs h3 W B=>rpo_any a np c a' nf c' b n cap D P F ch W (lst_below rp B) (lst_below rf B) (lstI_below rc B) (by omega) (by omega) (by omega) y)
  · exact lwq_w a np c a' nf c' b n cap D _ w (Lib.hid fun W B=>hvy_any a np c a' nf c' D P F W (lst_below rp B) (lst_below rf B)) (Lib.hid fun W=>san_any W) (Lib.hid fun hs h3 W B=>hpo_v a np c a' nf c' b n cap D _ W (Lib.hid fun W' B'=>ckc_any a np c a' nf c' b n cap D P F ch W' (lst_below rp (bstep B B')) (lst_below rf (bstep B B')) (lstI_below rc (bstep B B')) (by omega) (by omega) (by omega)) (bne_iff_ne.2 y)) (Lib.hid fun hs h3 W B=>rpt_v a np c a' nf c' b n cap D _ W (Lib.hid fun W' B'=>rgv_any a np c a' nf c' b n cap D P F ch W' (lst_below rp (bstep B B')) (lst_below rf (bstep B B')) (lstI_below rc (bstep B B')) (by omega) (by omega) (by omega)) (bne_iff_ne.2 y))
end Go.Proofs.YtbcjiigmbcfkeaaGreat
