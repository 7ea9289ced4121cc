import Derived.Test.YtbcjiigmbcfkeaaGreatHo29
namespace Go.Proofs.YtbcjiigmbcfkeaaGreat
open Go.ChangeShapes Go.WideShapes Go.RowKit
open Sh
set_option maxRecDepth 100000 in
set_option maxHeartbeats 4000000 in
theorem lws_w (a:Option Addr) (np c:Nat) (a':Option Addr) (nf c':Nat) (b:Option Addr) (n cap:Nat) (D:Int) (x1 y1 x2 y2 x3 y3:Int) (w:World) (HV:Hid (∀ W,Below w.heap.size w W→Calls Tryz.prog 13 #[msv a np c a' nf c',.int .i64 D] W fun e w'=>∃ v:Bool,e=.returned (.bool v)∧(v=false→np≤200∧nf≤200)∧Below W.heap.size W w')) (SA:Hid (∀ W,Calls Tryz.prog 14 #[] W fun e w'=>e=.returned (.bool true)∧Below W.heap.size W w')) (A1:Hid (np≤200∧nf≤200→¬ (300:Int)<(n:Int)→∀ W,Below w.heap.size w W→Calls Tryz.prog 24 #[msv a np c a' nf c',.slice b n cap,.int .i64 D] W fun e w'=>e=.returned (.tuple #[.int .i64 x1,.int .i64 y1])∧Below W.heap.size W w')) (A2:Hid (np≤200∧nf≤200→¬ (300:Int)<(n:Int)→∀ W,Below w.heap.size w W→Calls Tryz.prog 25 #[msv a np c a' nf c',.slice b n cap,.int .i64 D] W fun e w'=>e=.returned (.tuple #[.int .i64 x1,.int .i64 y1])∧Below W.heap.size W w')) (A3:Hid (np≤200∧nf≤200→¬ (300:Int)<(n:Int)→∀ W,Below w.heap.size w W→Calls Tryz.prog 26 #[msv a np c a' nf c',.slice b n cap,.int .i64 D] W fun e w'=>e=.returned (.tuple #[.int .i64 x2,.int .i64 y2])∧Below W.heap.size W w')) (A4:Hid (np≤200∧nf≤200→¬ (300:Int)<(n:Int)→∀ W,Below w.heap.size w W→Calls Tryz.prog 27 #[msv a np c a' nf c',.slice b n cap,.int .i64 D] W fun e w'=>e=.returned (.tuple #[.int .i64 x2,.int .i64 y2])∧Below W.heap.size W w')) (A5:Hid (np≤200∧nf≤200→¬ (300:Int)<(n:Int)→∀ W,Below w.heap.size w W→Calls Tryz.prog 28 #[msv a np c a' nf c',.slice b n cap,.int .i64 D] W fun e w'=>e=.returned (.tuple #[.int .i64 x3,.int .i64 y3])∧Below W.heap.size W w')) (A6:Hid (np≤200∧nf≤200→¬ (300:Int)<(n:Int)→∀ W,Below w.heap.size w W→Calls Tryz.prog 29 #[msv a np c a' nf c',.slice b n cap,.int .i64 D] W fun e w'=>e=.returned (.tuple #[.int .i64 x3,.int .i64 y3])∧Below W.heap.size W w')) :
    Calls Tryz.prog 6 #[msv a np c a' nf c',.slice b n cap,.int .i64 D] w fun e w'=>e=.returned (.bool true)∧Below w.heap.size w w':=by
  have M0:=Lib.hid (mes_new w a np c a' nf c' 25)
  have B0:=Lib.hid (show Below w.heap.size w (w.alloc (msc a np c a' nf c' 25)) from (Below.refl _ w).alloc (Nat.le_refl _) _)
  obtain ⟨m0,m1,ml⟩:=M0.out
  go_enter Tryz.func6,Tryz.ntmps6
  go_wp2_with fail
  with_reducible refine (HV.out _ B0.out).mono ?_
  rintro e w1 ⟨v,rfl,hv,hb1⟩
  have M1:=Lib.hid (mes_below M0.out hb1)
  have B1:=Lib.hid (bstep B0.out hb1)
  clear hb1 m0 m1 ml M0 B0
  obtain ⟨m0,m1,ml⟩:=M1.out
  cases v with
  | true =>
    go_wp2_with fail
    with_reducible refine (SA.out _).mono ?_
    rintro e wz ⟨rfl,hbz⟩
    have hB:=bstep B1.out hbz
    clear hbz m0 m1 ml
    go_wp2
    go_ret
    exact ⟨rfl,by (repeat' (first|with_reducible exact hB|with_reducible refine Below.drew ?_|(with_reducible refine balloc ?_ _)|(with_reducible refine Below.setCell ?_ (by simp <;> omega) _)))⟩
  | false =>
    by_cases hn:(300:Int)<(n:Int)
    · clear hv
      go_wp2_with fail
      with_reducible refine (SA.out _).mono ?_
      rintro e wz ⟨rfl,hbz⟩
      have hB:=bstep B1.out hbz
      clear hbz m0 m1 ml
      go_wp2
      go_ret
      exact ⟨rfl,by (repeat' (first|with_reducible exact hB|with_reducible refine Below.drew ?_|(with_reducible refine balloc ?_ _)|(with_reducible refine Below.setCell ?_ (by simp <;> omega) _)))⟩
    · have hs:=hv rfl
      clear hv
      go_wp2_with fail
      with_reducible refine (A1.out hs hn _ B1.out).mono ?_
      rintro e w2 ⟨rfl,hb2⟩
      have M2:=Lib.hid (mes_below M1.out hb2)
      have B2:=Lib.hid (bstep B1.out hb2)
      clear hb2 m0 m1 ml M1 B1
      obtain ⟨m0,m1,ml⟩:=M2.out
      go_wp2_with fail
      with_reducible refine (A2.out hs hn _ B2.out).mono ?_
      rintro e w3 ⟨rfl,hb3⟩
      have M3:=Lib.hid (mes_below M2.out hb3)
      have B3:=Lib.hid (bstep B2.out hb3)
      clear hb3 m0 m1 ml M2 B2
      obtain ⟨m0,m1,ml⟩:=M3.out
      go_wp2_with fail
      with_reducible refine (A3.out hs hn _ B3.out).mono ?_
      rintro e w4 ⟨rfl,hb4⟩
      have M4:=Lib.hid (mes_below M3.out hb4)
      have B4:=Lib.hid (bstep B3.out hb4)
      clear hb4 m0 m1 ml M3 B3
      obtain ⟨m0,m1,ml⟩:=M4.out
      go_wp2_with fail
      with_reducible refine (A4.out hs hn _ B4.out).mono ?_
      rintro e w5 ⟨rfl,hb5⟩
      have M5:=Lib.hid (mes_below M4.out hb5)
      have B5:=Lib.hid (bstep B4.out hb5)
      clear hb5 m0 m1 ml M4 B4
      obtain ⟨m0,m1,ml⟩:=M5.out
      go_wp2_with fail
      with_reducible refine (A5.out hs hn _ B5.out).mono ?_
      rintro e w6 ⟨rfl,hb6⟩
      have M6:=Lib.hid (mes_below M5.out hb6)
      have B6:=Lib.hid (bstep B5.out hb6)
      clear hb6 m0 m1 ml M5 B5
      obtain ⟨m0,m1,ml⟩:=M6.out
      go_wp2_with fail
      with_reducible refine (A6.out hs hn _ B6.out).mono ?_
      rintro e w7 ⟨rfl,hb7⟩
      have M7:=Lib.hid (mes_below M6.out hb7)
      have B7:=Lib.hid (bstep B6.out hb7)
      clear hb7 m0 m1 ml M6 B6
      obtain ⟨m0,m1,ml⟩:=M7.out
      go_wp2_with fail
      with_reducible refine (SA.out _).mono ?_
      rintro e wz ⟨rfl,hbz⟩
      have hB:=bstep B7.out hbz
      clear hbz m0 m1 ml
      go_wp2
      go_ret
      exact ⟨rfl,by (repeat' (first|with_reducible exact hB|with_reducible refine Below.drew ?_|(with_reducible refine balloc ?_ _)|(with_reducible refine Below.setCell ?_ (by simp <;> omega) _)))⟩
theorem hsides_walk (a:Option Addr) (np c:Nat) (P:Nat→P3) (a':Option Addr) (nf c':Nat) (F:Nat→P3) (b:Option Addr) (n cap:Nat) (ch:Nat→Int) (D:Int) (w:World) (_:np≤maxLen) (_:nf≤maxLen) (rp:Lst w a np P) (rf:Lst w a' nf F) (_:n≤maxLen) (rc:LstI w b n ch):Calls Tryz.prog 6 #[msv a np c a' nf c',.slice b n cap,.int .i64 D] w fun e w'=>e=.returned (.bool true)∧Below w.heap.size w w' :=
  lws_w a np c a' nf c' b n cap D _ _ _ _ _ _ w (Lib.hid fun W B=>hvy_any a np c a' nf c' D P F W (lst_below rp B) (lst_below rf B)) (Lib.hid fun W=>san_any W) (Lib.hid fun (hs:np≤200∧nf≤200) (h3:¬ (300:Int)<(n:Int)) W (B:Below w.heap.size w W)=>hbw_any a np c a' nf c' b n cap D P F ch W (lst_below rp B) (lst_below rf B) (lstI_below rc B) (by omega) (by omega) (by omega)) (Lib.hid fun (hs:np≤200∧nf≤200) (h3:¬ (300:Int)<(n:Int)) W (B:Below w.heap.size w W)=>rlo_any a np c a' nf c' b n cap D P F ch W (lst_below rp B) (lst_below rf B) (lstI_below rc B) (by omega) (by omega) (by omega)) (Lib.hid fun (hs:np≤200∧nf≤200) (h3:¬ (300:Int)<(n:Int)) W (B:Below w.heap.size w W)=>hbv_any a np c a' nf c' b n cap D P F ch W (lst_below rp B) (lst_below rf B) (lstI_below rc B) (by omega) (by omega) (by omega)) (Lib.hid fun (hs:np≤200∧nf≤200) (h3:¬ (300:Int)<(n:Int)) W (B:Below w.heap.size w W)=>rab_any a np c a' nf c' b n cap D P F ch W (lst_below rp B) (lst_below rf B) (lstI_below rc B) (by omega) (by omega) (by omega)) (Lib.hid fun (hs:np≤200∧nf≤200) (h3:¬ (300:Int)<(n:Int)) W (B:Below w.heap.size w W)=>hto_any a np c a' nf c' b n cap D P F ch W (lst_below rp B) (lst_below rf B) (lstI_below rc B) (by omega) (by omega) (by omega)) (Lib.hid fun (hs:np≤200∧nf≤200) (h3:¬ (300:Int)<(n:Int)) W (B:Below w.heap.size w W)=>rth_any a np c a' nf c' b n cap D P F ch W (lst_below rp B) (lst_below rf B) (lstI_below rc B) (by omega) (by omega) (by omega))
end Go.Proofs.YtbcjiigmbcfkeaaGreat
