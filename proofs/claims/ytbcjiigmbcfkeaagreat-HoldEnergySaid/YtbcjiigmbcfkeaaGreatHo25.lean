import Derived.Test.YtbcjiigmbcfkeaaGreatHo29
namespace Go.Proofs.YtbcjiigmbcfkeaaGreat
open Go.ChangeShapes Go.WideShapes Go.RowKit
open Sh
set_option maxRecDepth 100000 in
set_option maxHeartbeats 4000000 in
theorem lwe_w (a:Option Addr) (np c:Nat) (a':Option Addr) (nf c':Nat) (b:Option Addr) (n cap:Nat) (D:Int) (p q cd:Int) (w:World) (HV:Hid (∀ W,Below w.heap.size w W→Calls Tryz.prog 13 #[msv a np c a' nf c',.int .i64 D] W fun e w'=>∃ v:Bool,e=.returned (.bool v)∧(v=false→np≤200∧nf≤200)∧Below W.heap.size W w')) (SA:Hid (∀ W,Calls Tryz.prog 14 #[] W fun e w'=>e=.returned (.bool true)∧Below W.heap.size W w')) (E1:Hid (np≤200∧nf≤200→¬ (300:Int)<(n:Int)→∀ W,Below w.heap.size w W→Calls Tryz.prog 22 #[msv a np c a' nf c',.slice b n cap,.int .i64 D] W fun e w'=>e=.returned (spr ((p,q),cd))∧Below W.heap.size W w')) (E2:Hid (np≤200∧nf≤200→¬ (300:Int)<(n:Int)→∀ W,Below w.heap.size w W→Calls Tryz.prog 23 #[msv a np c a' nf c',.slice b n cap,.int .i64 D] W fun e w'=>e=.returned (spr ((p,q),cd))∧Below W.heap.size W w')) :
    Calls Tryz.prog 5 #[msv a np c a' nf c',.slice b n cap,.int .i64 D] w fun e w'=>e=.returned (.bool true)∧Below w.heap.size w w':=by
  have M0:=Lib.hid (mes_new w a np c a' nf c' 25)
  have B0:=Lib.hid (show Below w.heap.size w (w.alloc (msc a np c a' nf c' 25)) from (Below.refl _ w).alloc (Nat.le_refl _) _)
  obtain ⟨m0,m1,ml⟩:=M0.out
  go_enter Tryz.func5,Tryz.ntmps5
  go_wp2_with fail
  with_reducible refine (HV.out _ B0.out).mono ?_
  rintro e w1 ⟨v,rfl,hv,hb1⟩
  have M1:=Lib.hid (mes_below M0.out hb1)
  have B1:=Lib.hid (bstep B0.out hb1)
  clear hb1 m0 m1 ml M0 B0
  obtain ⟨m0,m1,ml⟩:=M1.out
  cases v with
  | true =>
    go_wp2_with fail
    with_reducible refine (SA.out _).mono ?_
    rintro e wz ⟨rfl,hbz⟩
    have hB:=bstep B1.out hbz
    clear hbz m0 m1 ml
    go_wp2
    go_ret
    exact ⟨rfl,by (repeat' (first|with_reducible exact hB|with_reducible refine Below.drew ?_|(with_reducible refine balloc ?_ _)|(with_reducible refine Below.setCell ?_ (by simp <;> omega) _)))⟩
  | false =>
    by_cases hn:(300:Int)<(n:Int)
    · clear hv
      go_wp2_with fail
      with_reducible refine (SA.out _).mono ?_
      rintro e wz ⟨rfl,hbz⟩
      have hB:=bstep B1.out hbz
      clear hbz m0 m1 ml
      go_wp2
      go_ret
      exact ⟨rfl,by (repeat' (first|with_reducible exact hB|with_reducible refine Below.drew ?_|(with_reducible refine balloc ?_ _)|(with_reducible refine Below.setCell ?_ (by simp <;> omega) _)))⟩
    · have hs:=hv rfl
      clear hv
      go_wp2_with fail
      with_reducible refine (E1.out hs hn _ B1.out).mono ?_
      rintro e w2 ⟨rfl,hb2⟩
      have ZB:=Lib.hid ((Below.refl w2.heap.size w2).alloc (Nat.le_refl _) (.cells #[.int .i64 p,.int .i64 q] 39))
      have M2:=Lib.hid (mes_below (mes_below M1.out hb2) ZB.out)
      have B2:=Lib.hid (balloc (bstep B1.out hb2) (.cells #[.int .i64 p,.int .i64 q] 39))
      have P2:=Lib.hid (pair_new w2 p q 39)
      clear hb2 m0 m1 ml M1 B1 ZB
      obtain ⟨m0,m1,ml⟩:=M2.out
      go_wp2_with fail
      with_reducible refine (E2.out hs hn _ B2.out).mono ?_
      rintro e w3 ⟨rfl,hb3⟩
      have B3:=Lib.hid (balloc (bstep B2.out hb3) (.cells #[.int .i64 p,.int .i64 q] 39))
      obtain ⟨u0,u1,u2,u3,u4⟩:=pair_alloc (pair_below P2.out hb3) (.cells #[.int .i64 p,.int .i64 q] 39)
      obtain ⟨v0,v1,v2,v3,v4⟩:=pair_new w3 p q 39
      clear hb3 m0 m1 ml M2 B2
      go_wp2_with fail
      with_reducible refine (SA.out _).mono ?_
      rintro e wz ⟨rfl,hbz⟩
      have hB:=bstep B3.out hbz
      clear hbz u0 u1 u2 u3 u4 v0 v1 v2 v3 v4
      go_wp2
      go_ret
      exact ⟨rfl,by (repeat' (first|with_reducible exact hB|with_reducible refine Below.drew ?_|(with_reducible refine balloc ?_ _)|(with_reducible refine Below.setCell ?_ (by simp <;> omega) _)))⟩
theorem henergy_walk (a:Option Addr) (np c:Nat) (P:Nat→P3) (a':Option Addr) (nf c':Nat) (F:Nat→P3) (b:Option Addr) (n cap:Nat) (ch:Nat→Int) (D:Int) (w:World) (_:np≤maxLen) (_:nf≤maxLen) (rp:Lst w a np P) (rf:Lst w a' nf F) (_:n≤maxLen) (rc:LstI w b n ch):Calls Tryz.prog 5 #[msv a np c a' nf c',.slice b n cap,.int .i64 D] w fun e w'=>e=.returned (.bool true)∧Below w.heap.size w w':=by
  have E1:=(Lib.hid fun (hs:np≤200∧nf≤200) (h3:¬ (300:Int)<(n:Int)) W (B:Below w.heap.size w W)=>hene_any a np c a' nf c' b n cap D P F ch W (lst_below rp B) (lst_below rf B) (lstI_below rc B) (by omega) (by omega) (by omega))
  have E2:=(Lib.hid fun (hs:np≤200∧nf≤200) (h3:¬ (300:Int)<(n:Int)) W (B:Below w.heap.size w W)=>rene_any a np c a' nf c' b n cap D P F ch W (lst_below rp B) (lst_below rf B) (lstI_below rc B) (by omega) (by omega) (by omega))
  generalize enA np nf P F n ch D=r at *
  obtain ⟨⟨p,q⟩,cd⟩:=r
  exact lwe_w a np c a' nf c' b n cap D p q cd w (Lib.hid fun W B=>hvy_any a np c a' nf c' D P F W (lst_below rp B) (lst_below rf B)) (Lib.hid fun W=>san_any W) E1 E2
end Go.Proofs.YtbcjiigmbcfkeaaGreat
