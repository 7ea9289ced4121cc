import Derived.Test.YtbcjiigmbcfkeaaGreatHoMa
import Derived.Test.YtbcjiigmbcfkeaaGreatShN
namespace Go.Proofs.YtbcjiigmbcfkeaaGreat
open Go.ChangeShapes Go.WideShapes Go.RowKit
open Sh
set_option maxRecDepth 100000 in
set_option maxHeartbeats 2000000 in
theorem hvc_v (a:Option Addr) (np c:Nat) (a':Option Addr) (nf c':Nat) (b:Option Addr) (n cap:Nat) (vc:Int) (w:World) (V:Hid (∀ W,Below w.heap.size w W→Calls Tryz.prog 48 #[msv a np c a' nf c'] W fun e w'=>e=.returned (.int .i64 vc)∧Below W.heap.size W w')) (z:(vc != 0)=true):Calls Tryz.prog 17 #[msv a np c a' nf c',.slice b n cap] w fun e w'=>e=.returned (.int .i64 vc)∧Below w.heap.size w w':=by
  have M0:=Lib.hid (mes_new w a np c a' nf c' 25)
  have B0:=Lib.hid (show Below w.heap.size w (w.alloc (msc a np c a' nf c' 25)) from (Below.refl _ w).alloc (Nat.le_refl _) _)
  obtain ⟨m0,m1,ml⟩:=M0.out
  go_enter Tryz.func17,Tryz.ntmps17
  go_wp2_with fail
  with_reducible refine (V.out _ B0.out).mono ?_
  rintro e w1 ⟨rfl,hb1⟩
  have hB:=bstep B0.out hb1
  clear hb1 m0 m1 ml M0 B0
  go_wp2
  go_ret
  exact ⟨rfl,by (repeat' (first|with_reducible exact hB|with_reducible refine Below.drew ?_|(with_reducible refine Below.setCell ?_ (by simp <;> omega) _)))⟩
set_option maxRecDepth 100000 in
set_option maxHeartbeats 2000000 in
theorem hvc_n (a:Option Addr) (np c:Nat) (a':Option Addr) (nf c':Nat) (b:Option Addr) (n cap:Nat) (vc:Int) (w:World) (V:Hid (∀ W,Below w.heap.size w W→Calls Tryz.prog 48 #[msv a np c a' nf c'] W fun e w'=>e=.returned (.int .i64 vc)∧Below W.heap.size W w')) (z:(vc != 0)=false) (y:((n:Int) != (nf:Int))=true):Calls Tryz.prog 17 #[msv a np c a' nf c',.slice b n cap] w fun e w'=>e=.returned (.int .i64 1)∧Below w.heap.size w w':=by
  have M0:=Lib.hid (mes_new w a np c a' nf c' 25)
  have B0:=Lib.hid (show Below w.heap.size w (w.alloc (msc a np c a' nf c' 25)) from (Below.refl _ w).alloc (Nat.le_refl _) _)
  obtain ⟨m0,m1,ml⟩:=M0.out
  go_enter Tryz.func17,Tryz.ntmps17
  go_wp2_with fail
  with_reducible refine (V.out _ B0.out).mono ?_
  rintro e w1 ⟨rfl,hb1⟩
  have M1:=Lib.hid (mes_below M0.out hb1)
  have B1:=Lib.hid (bstep B0.out hb1)
  clear hb1 m0 m1 ml
  obtain ⟨m0,m1,ml⟩:=M1.out
  have hB:=B1.out
  go_wp2
  go_ret
  exact ⟨rfl,by (repeat' (first|with_reducible exact hB|with_reducible refine Below.drew ?_|(with_reducible refine Below.setCell ?_ (by simp <;> omega) _)))⟩
set_option maxRecDepth 100000 in
set_option maxHeartbeats 2000000 in
theorem hvc_c (a:Option Addr) (np c:Nat) (a':Option Addr) (nf c':Nat) (b:Option Addr) (cap:Nat) (vc:Int) (w:World) (V:Hid (∀ W,Below w.heap.size w W→Calls Tryz.prog 48 #[msv a np c a' nf c'] W fun e w'=>e=.returned (.int .i64 vc)∧Below W.heap.size W w')) (v:Bool) (CF:Hid (∀ W,Below w.heap.size w W→Calls Tryz.prog 49 #[.slice b nf cap,.func (.func 50) #[] #[]] W fun e w'=>e=.returned (.bool v)∧Below W.heap.size W w')) (z:(vc != 0)=false) (y:v=true):Calls Tryz.prog 17 #[msv a np c a' nf c',.slice b nf cap] w fun e w'=>e=.returned (.int .i64 1)∧Below w.heap.size w w':=by
  have M0:=Lib.hid (mes_new w a np c a' nf c' 25)
  have B0:=Lib.hid (show Below w.heap.size w (w.alloc (msc a np c a' nf c' 25)) from (Below.refl _ w).alloc (Nat.le_refl _) _)
  obtain ⟨m0,m1,ml⟩:=M0.out
  subst y
  go_enter Tryz.func17,Tryz.ntmps17
  go_wp2_with fail
  with_reducible refine (V.out _ B0.out).mono ?_
  rintro e w1 ⟨rfl,hb1⟩
  have M1:=Lib.hid (mes_below M0.out hb1)
  have B1:=Lib.hid (bstep B0.out hb1)
  clear hb1 m0 m1 ml
  obtain ⟨m0,m1,ml⟩:=M1.out
  go_wp2_with fail
  with_reducible refine (CF.out _ B1.out).mono ?_
  rintro e w2 ⟨rfl,hb2⟩
  have hB:=bstep B1.out hb2
  clear hb2 m0 m1 ml
  go_wp2
  go_ret
  exact ⟨rfl,by (repeat' (first|with_reducible exact hB|with_reducible refine Below.drew ?_|(with_reducible refine Below.setCell ?_ (by simp <;> omega) _)))⟩
set_option maxRecDepth 100000 in
set_option maxHeartbeats 2000000 in
theorem hvc_z (a:Option Addr) (np c:Nat) (a':Option Addr) (nf c':Nat) (b:Option Addr) (cap:Nat) (vc:Int) (w:World) (V:Hid (∀ W,Below w.heap.size w W→Calls Tryz.prog 48 #[msv a np c a' nf c'] W fun e w'=>e=.returned (.int .i64 vc)∧Below W.heap.size W w')) (v:Bool) (s:Int) (CF:Hid (∀ W,Below w.heap.size w W→Calls Tryz.prog 49 #[.slice b nf cap,.func (.func 50) #[] #[]] W fun e w'=>e=.returned (.bool v)∧Below W.heap.size W w')) (SU:Hid (∀ W,Below w.heap.size w W→Calls Tryz.prog 51 #[.slice b nf cap] W fun e w'=>e=.returned (.int .i64 s)∧Below W.heap.size W w')) (z:(vc != 0)=false) (y:v=false) (x:(s == 0)=true):Calls Tryz.prog 17 #[msv a np c a' nf c',.slice b nf cap] w fun e w'=>e=.returned (.int .i64 11)∧Below w.heap.size w w':=by
  have M0:=Lib.hid (mes_new w a np c a' nf c' 25)
  have B0:=Lib.hid (show Below w.heap.size w (w.alloc (msc a np c a' nf c' 25)) from (Below.refl _ w).alloc (Nat.le_refl _) _)
  obtain ⟨m0,m1,ml⟩:=M0.out
  subst y
  go_enter Tryz.func17,Tryz.ntmps17
  go_wp2_with fail
  with_reducible refine (V.out _ B0.out).mono ?_
  rintro e w1 ⟨rfl,hb1⟩
  have M1:=Lib.hid (mes_below M0.out hb1)
  have B1:=Lib.hid (bstep B0.out hb1)
  clear hb1 m0 m1 ml
  obtain ⟨m0,m1,ml⟩:=M1.out
  go_wp2_with fail
  with_reducible refine (CF.out _ B1.out).mono ?_
  rintro e w2 ⟨rfl,hb2⟩
  have M2:=Lib.hid (mes_below M1.out hb2)
  have B2:=Lib.hid (bstep B1.out hb2)
  clear hb2 m0 m1 ml
  obtain ⟨m0,m1,ml⟩:=M2.out
  go_wp2_with fail
  with_reducible refine (SU.out _ B2.out).mono ?_
  rintro e w3 ⟨rfl,hb3⟩
  have hB:=bstep B2.out hb3
  clear hb3 m0 m1 ml
  go_wp2
  go_ret
  exact ⟨rfl,by (repeat' (first|with_reducible exact hB|with_reducible refine Below.drew ?_|(with_reducible refine Below.setCell ?_ (by simp <;> omega) _)))⟩
set_option maxRecDepth 100000 in
set_option maxHeartbeats 2000000 in
theorem hvc_o (a:Option Addr) (np c:Nat) (a':Option Addr) (nf c':Nat) (b:Option Addr) (cap:Nat) (vc:Int) (w:World) (V:Hid (∀ W,Below w.heap.size w W→Calls Tryz.prog 48 #[msv a np c a' nf c'] W fun e w'=>e=.returned (.int .i64 vc)∧Below W.heap.size W w')) (v:Bool) (s:Int) (CF:Hid (∀ W,Below w.heap.size w W→Calls Tryz.prog 49 #[.slice b nf cap,.func (.func 50) #[] #[]] W fun e w'=>e=.returned (.bool v)∧Below W.heap.size W w')) (SU:Hid (∀ W,Below w.heap.size w W→Calls Tryz.prog 51 #[.slice b nf cap] W fun e w'=>e=.returned (.int .i64 s)∧Below W.heap.size W w')) (z:(vc != 0)=false) (y:v=false) (x:(s == 0)=false):Calls Tryz.prog 17 #[msv a np c a' nf c',.slice b nf cap] w fun e w'=>e=.returned (.int .i64 0)∧Below w.heap.size w w':=by
  have M0:=Lib.hid (mes_new w a np c a' nf c' 25)
  have B0:=Lib.hid (show Below w.heap.size w (w.alloc (msc a np c a' nf c' 25)) from (Below.refl _ w).alloc (Nat.le_refl _) _)
  obtain ⟨m0,m1,ml⟩:=M0.out
  subst y
  go_enter Tryz.func17,Tryz.ntmps17
  go_wp2_with fail
  with_reducible refine (V.out _ B0.out).mono ?_
  rintro e w1 ⟨rfl,hb1⟩
  have M1:=Lib.hid (mes_below M0.out hb1)
  have B1:=Lib.hid (bstep B0.out hb1)
  clear hb1 m0 m1 ml
  obtain ⟨m0,m1,ml⟩:=M1.out
  go_wp2_with fail
  with_reducible refine (CF.out _ B1.out).mono ?_
  rintro e w2 ⟨rfl,hb2⟩
  have M2:=Lib.hid (mes_below M1.out hb2)
  have B2:=Lib.hid (bstep B1.out hb2)
  clear hb2 m0 m1 ml
  obtain ⟨m0,m1,ml⟩:=M2.out
  go_wp2_with fail
  with_reducible refine (SU.out _ B2.out).mono ?_
  rintro e w3 ⟨rfl,hb3⟩
  have hB:=bstep B2.out hb3
  clear hb3 m0 m1 ml
  go_wp2
  go_ret
  exact ⟨rfl,by (repeat' (first|with_reducible exact hB|with_reducible refine Below.drew ?_|(with_reducible refine Below.setCell ?_ (by simp <;> omega) _)))⟩
theorem hvc_any (a:Option Addr) (np c:Nat) (a':Option Addr) (nf c':Nat) (b:Option Addr) (n cap:Nat) (P F:Nat→P3) (ch:Nat→Int) (w:World) (rp:Lst w a np P) (rf:Lst w a' nf F) (rc:LstI w b n ch) (hn:np≤1000000) (hm:nf≤1000000) (hk:n≤9223372036854775807) :
    Calls Tryz.prog 17 #[msv a np c a' nf c',.slice b n cap] w fun e w'=>e=.returned (.int .i64 (chc (vcode ⟨np,nf,P,F⟩) nf n ch))∧Below w.heap.size w w':=by
  have V:=Lib.hid (fun W (B:Below w.heap.size w W)=>val_any a np c a' nf c' P F W (lst_below rp B) (lst_below rf B) hn hm)
  unfold chc
  by_cases z:vcode ⟨np,nf,P,F⟩=0
  · rw [if_pos z]
    have z':(vcode ⟨np,nf,P,F⟩ != 0)=false:=by rw [z];rfl
    have nb:=(vcode_rows z).2.2.2.1
    by_cases y:n=nf
    · subst y
      have CF:=Lib.hid (fun W (B:Below w.heap.size w W)=>hcf_any b n cap ch W (lstI_below rc B) (by omega))
      cases e:chB ch n with
      | false =>
        rw [if_neg (by simp)]
        rw [e] at CF
        exact hvc_c a np c a' n c' b cap _ w V true CF z' rfl
      | true =>
        rw [if_pos ⟨rfl,rfl⟩]
        rw [e] at CF
        have SU:=Lib.hid (fun W (B:Below w.heap.size w W)=>hsum_any b n cap ch W (lstI_below rc B) (by omega) (chB_iff.1 e))
        by_cases x:sm ch n=0
        · rw [if_pos x]
          exact hvc_z a np c a' n c' b cap _ w V false _ CF SU z' rfl (by rw [x];rfl)
        · rw [if_neg x]
          exact hvc_o a np c a' n c' b cap _ w V false _ CF SU z' rfl (beq_eq_false_iff_ne.2 x)
    · rw [if_neg (fun h=>y h.1)]
      exact hvc_n a np c a' nf c' b n cap _ w V z' (bne_iff_ne.2 (by omega))
  · rw [if_neg z]
    exact hvc_v a np c a' nf c' b n cap _ w V (bne_iff_ne.2 z)
set_option maxRecDepth 100000 in
set_option maxHeartbeats 2000000 in
theorem ckd_v (a:Option Addr) (np c:Nat) (a':Option Addr) (nf c':Nat) (D vc:Int) (w:World) (V:Hid (∀ W,Below w.heap.size w W→Calls Tryz.prog 48 #[msv a np c a' nf c'] W fun e w'=>e=.returned (.int .i64 vc)∧Below W.heap.size W w')) (z:(vc != 0)=true):Calls Tryz.prog 45 #[msv a np c a' nf c',.int .i64 D] w fun e w'=>e=.returned (.int .i64 vc)∧Below w.heap.size w w':=by
  have M0:=Lib.hid (mes_new w a np c a' nf c' 25)
  have B0:=Lib.hid (show Below w.heap.size w (w.alloc (msc a np c a' nf c' 25)) from (Below.refl _ w).alloc (Nat.le_refl _) _)
  obtain ⟨m0,m1,ml⟩:=M0.out
  go_enter Tryz.func45,Tryz.ntmps45
  go_wp2_with fail
  with_reducible refine (V.out _ B0.out).mono ?_
  rintro e w1 ⟨rfl,hb1⟩
  have hB:=bstep B0.out hb1
  clear hb1 m0 m1 ml M0 B0
  go_wp2
  go_ret
  exact ⟨rfl,by (repeat' (first|with_reducible exact hB|with_reducible refine Below.drew ?_|(with_reducible refine Below.setCell ?_ (by simp <;> omega) _)))⟩
set_option maxRecDepth 100000 in
set_option maxHeartbeats 2000000 in
theorem ckd_n (a:Option Addr) (np c:Nat) (a':Option Addr) (nf c':Nat) (D vc:Int) (v:Bool) (w:World) (V:Hid (∀ W,Below w.heap.size w W→Calls Tryz.prog 48 #[msv a np c a' nf c'] W fun e w'=>e=.returned (.int .i64 vc)∧Below W.heap.size W w')) (DD:Hid (∀ W,Calls Tryz.prog 89 #[.int .i64 D] W fun e w'=>e=.returned (.bool v)∧W=w')) (z:(vc != 0)=false) (y:v=false):Calls Tryz.prog 45 #[msv a np c a' nf c',.int .i64 D] w fun e w'=>e=.returned (.int .i64 1)∧Below w.heap.size w w':=by
  have M0:=Lib.hid (mes_new w a np c a' nf c' 25)
  have B0:=Lib.hid (show Below w.heap.size w (w.alloc (msc a np c a' nf c' 25)) from (Below.refl _ w).alloc (Nat.le_refl _) _)
  obtain ⟨m0,m1,ml⟩:=M0.out
  subst y
  go_enter Tryz.func45,Tryz.ntmps45
  go_wp2_with fail
  with_reducible refine (V.out _ B0.out).mono ?_
  rintro e w1 ⟨rfl,hb1⟩
  have hB:=bstep B0.out hb1
  clear hb1 m0 m1 ml M0 B0
  go_wp2_with fail
  with_reducible refine (DD.out _).mono ?_
  rintro e w2 ⟨rfl,rfl⟩
  go_wp2
  go_ret
  exact ⟨rfl,by (repeat' (first|with_reducible exact hB|with_reducible refine Below.drew ?_|(with_reducible refine Below.setCell ?_ (by simp <;> omega) _)))⟩
set_option maxRecDepth 100000 in
set_option maxHeartbeats 2000000 in
theorem ckd_o (a:Option Addr) (np c:Nat) (a':Option Addr) (nf c':Nat) (D vc:Int) (v:Bool) (w:World) (V:Hid (∀ W,Below w.heap.size w W→Calls Tryz.prog 48 #[msv a np c a' nf c'] W fun e w'=>e=.returned (.int .i64 vc)∧Below W.heap.size W w')) (DD:Hid (∀ W,Calls Tryz.prog 89 #[.int .i64 D] W fun e w'=>e=.returned (.bool v)∧W=w')) (z:(vc != 0)=false) (y:v=true):Calls Tryz.prog 45 #[msv a np c a' nf c',.int .i64 D] w fun e w'=>e=.returned (.int .i64 0)∧Below w.heap.size w w':=by
  have M0:=Lib.hid (mes_new w a np c a' nf c' 25)
  have B0:=Lib.hid (show Below w.heap.size w (w.alloc (msc a np c a' nf c' 25)) from (Below.refl _ w).alloc (Nat.le_refl _) _)
  obtain ⟨m0,m1,ml⟩:=M0.out
  subst y
  go_enter Tryz.func45,Tryz.ntmps45
  go_wp2_with fail
  with_reducible refine (V.out _ B0.out).mono ?_
  rintro e w1 ⟨rfl,hb1⟩
  have hB:=bstep B0.out hb1
  clear hb1 m0 m1 ml M0 B0
  go_wp2_with fail
  with_reducible refine (DD.out _).mono ?_
  rintro e w2 ⟨rfl,rfl⟩
  go_wp2
  go_ret
  exact ⟨rfl,by (repeat' (first|with_reducible exact hB|with_reducible refine Below.drew ?_|(with_reducible refine Below.setCell ?_ (by simp <;> omega) _)))⟩
set_option maxRecDepth 100000 in
set_option maxHeartbeats 2000000 in
theorem ckc_v (a:Option Addr) (np c:Nat) (a':Option Addr) (nf c':Nat) (b:Option Addr) (n cap:Nat) (D vc:Int) (w:World) (V:Hid (∀ W,Below w.heap.size w W→Calls Tryz.prog 17 #[msv a np c a' nf c',.slice b n cap] W fun e w'=>e=.returned (.int .i64 vc)∧Below W.heap.size W w')) (z:(vc != 0)=true):Calls Tryz.prog 53 #[msv a np c a' nf c',.slice b n cap,.int .i64 D] w fun e w'=>e=.returned (.int .i64 vc)∧Below w.heap.size w w':=by
  have M0:=Lib.hid (mes_new w a np c a' nf c' 25)
  have B0:=Lib.hid (show Below w.heap.size w (w.alloc (msc a np c a' nf c' 25)) from (Below.refl _ w).alloc (Nat.le_refl _) _)
  obtain ⟨m0,m1,ml⟩:=M0.out
  go_enter Tryz.func53,Tryz.ntmps53
  go_wp2_with fail
  with_reducible refine (V.out _ B0.out).mono ?_
  rintro e w1 ⟨rfl,hb1⟩
  have hB:=bstep B0.out hb1
  clear hb1 m0 m1 ml M0 B0
  go_wp2
  go_ret
  exact ⟨rfl,by (repeat' (first|with_reducible exact hB|with_reducible refine Below.drew ?_|(with_reducible refine Below.setCell ?_ (by simp <;> omega) _)))⟩
set_option maxRecDepth 100000 in
set_option maxHeartbeats 2000000 in
theorem ckc_n (a:Option Addr) (np c:Nat) (a':Option Addr) (nf c':Nat) (b:Option Addr) (n cap:Nat) (D vc:Int) (v:Bool) (w:World) (V:Hid (∀ W,Below w.heap.size w W→Calls Tryz.prog 17 #[msv a np c a' nf c',.slice b n cap] W fun e w'=>e=.returned (.int .i64 vc)∧Below W.heap.size W w')) (DD:Hid (∀ W,Calls Tryz.prog 89 #[.int .i64 D] W fun e w'=>e=.returned (.bool v)∧W=w')) (z:(vc != 0)=false) (y:v=false):Calls Tryz.prog 53 #[msv a np c a' nf c',.slice b n cap,.int .i64 D] w fun e w'=>e=.returned (.int .i64 1)∧Below w.heap.size w w':=by
  have M0:=Lib.hid (mes_new w a np c a' nf c' 25)
  have B0:=Lib.hid (show Below w.heap.size w (w.alloc (msc a np c a' nf c' 25)) from (Below.refl _ w).alloc (Nat.le_refl _) _)
  obtain ⟨m0,m1,ml⟩:=M0.out
  subst y
  go_enter Tryz.func53,Tryz.ntmps53
  go_wp2_with fail
  with_reducible refine (V.out _ B0.out).mono ?_
  rintro e w1 ⟨rfl,hb1⟩
  have hB:=bstep B0.out hb1
  clear hb1 m0 m1 ml M0 B0
  go_wp2_with fail
  with_reducible refine (DD.out _).mono ?_
  rintro e w2 ⟨rfl,rfl⟩
  go_wp2
  go_ret
  exact ⟨rfl,by (repeat' (first|with_reducible exact hB|with_reducible refine Below.drew ?_|(with_reducible refine Below.setCell ?_ (by simp <;> omega) _)))⟩
set_option maxRecDepth 100000 in
set_option maxHeartbeats 2000000 in
theorem ckc_o (a:Option Addr) (np c:Nat) (a':Option Addr) (nf c':Nat) (b:Option Addr) (n cap:Nat) (D vc:Int) (v:Bool) (w:World) (V:Hid (∀ W,Below w.heap.size w W→Calls Tryz.prog 17 #[msv a np c a' nf c',.slice b n cap] W fun e w'=>e=.returned (.int .i64 vc)∧Below W.heap.size W w')) (DD:Hid (∀ W,Calls Tryz.prog 89 #[.int .i64 D] W fun e w'=>e=.returned (.bool v)∧W=w')) (z:(vc != 0)=false) (y:v=true):Calls Tryz.prog 53 #[msv a np c a' nf c',.slice b n cap,.int .i64 D] w fun e w'=>e=.returned (.int .i64 0)∧Below w.heap.size w w':=by
  have M0:=Lib.hid (mes_new w a np c a' nf c' 25)
  have B0:=Lib.hid (show Below w.heap.size w (w.alloc (msc a np c a' nf c' 25)) from (Below.refl _ w).alloc (Nat.le_refl _) _)
  obtain ⟨m0,m1,ml⟩:=M0.out
  subst y
  go_enter Tryz.func53,Tryz.ntmps53
  go_wp2_with fail
  with_reducible refine (V.out _ B0.out).mono ?_
  rintro e w1 ⟨rfl,hb1⟩
  have hB:=bstep B0.out hb1
  clear hb1 m0 m1 ml M0 B0
  go_wp2_with fail
  with_reducible refine (DD.out _).mono ?_
  rintro e w2 ⟨rfl,rfl⟩
  go_wp2
  go_ret
  exact ⟨rfl,by (repeat' (first|with_reducible exact hB|with_reducible refine Below.drew ?_|(with_reducible refine Below.setCell ?_ (by simp <;> omega) _)))⟩
theorem dep_if (D:Int):(if 0≤D∧D≤2 then (0:Int) else 1)=if rngB D 0 2=true then 0 else 1:=by
  by_cases h:0≤D∧D≤2
  · rw [if_pos h,if_pos (rngB_iff.2 h)]
  · rw [if_neg h,if_neg (fun x=>h (rngB_iff.1 x))]
theorem ckd_any (a:Option Addr) (np c:Nat) (a':Option Addr) (nf c':Nat) (D:Int) (P F:Nat→P3) (w:World) (rp:Lst w a np P) (rf:Lst w a' nf F) (hn:np≤1000000) (hm:nf≤1000000) :
    Calls Tryz.prog 45 #[msv a np c a' nf c',.int .i64 D] w fun e w'=>e=.returned (.int .i64 (dpc (vcode ⟨np,nf,P,F⟩) D))∧Below w.heap.size w w':=by
  have V:=Lib.hid (fun W (B:Below w.heap.size w W)=>val_any a np c a' nf c' P F W (lst_below rp B) (lst_below rf B) hn hm)
  have DD:=Lib.hid (fun W=>hdp_any D W)
  unfold dpc
  by_cases z:vcode ⟨np,nf,P,F⟩=0
  · rw [if_pos z,dep_if]
    have z':(vcode ⟨np,nf,P,F⟩ != 0)=false:=by rw [z];rfl
    cases e:rngB D 0 2 with
    | true=>rw [e] at DD;rw [if_pos rfl];exact ckd_o a np c a' nf c' D _ true w V DD z' rfl
    | false=>rw [e] at DD;rw [if_neg (by decide)];exact ckd_n a np c a' nf c' D _ false w V DD z' rfl
  · rw [if_neg z]
    exact ckd_v a np c a' nf c' D _ w V (bne_iff_ne.2 z)
theorem ckc_any (a:Option Addr) (np c:Nat) (a':Option Addr) (nf c':Nat) (b:Option Addr) (n cap:Nat) (D:Int) (P F:Nat→P3) (ch:Nat→Int) (w:World) (rp:Lst w a np P) (rf:Lst w a' nf F) (rc:LstI w b n ch) (hn:np≤1000000) (hm:nf≤1000000) (hk:n≤9223372036854775807) :
    Calls Tryz.prog 53 #[msv a np c a' nf c',.slice b n cap,.int .i64 D] w fun e w'=>e=.returned (.int .i64 (gvc (vcode ⟨np,nf,P,F⟩) nf n ch D))∧Below w.heap.size w w':=by
  have V:=Lib.hid (fun W (B:Below w.heap.size w W)=>hvc_any a np c a' nf c' b n cap P F ch W (lst_below rp B) (lst_below rf B) (lstI_below rc B) hn hm hk)
  have DD:=Lib.hid (fun W=>hdp_any D W)
  unfold gvc
  by_cases z:chc (vcode ⟨np,nf,P,F⟩) nf n ch=0
  · rw [if_pos z,dep_if]
    have z':(chc (vcode ⟨np,nf,P,F⟩) nf n ch != 0)=false:=by rw [z];rfl
    cases e:rngB D 0 2 with
    | true=>rw [e] at DD;rw [if_pos rfl];exact ckc_o a np c a' nf c' b n cap D _ true w V DD z' rfl
    | false=>rw [e] at DD;rw [if_neg (by decide)];exact ckc_n a np c a' nf c' b n cap D _ false w V DD z' rfl
  · rw [if_neg z]
    exact ckc_v a np c a' nf c' b n cap D _ w V (bne_iff_ne.2 z)
def wrkN (nf:Nat) (D:Int):Int:=(nf:Int)*(nf:Int)*((2 ^ (2*D).toNat:Int)+(2 ^ (2*D).toNat:Int)*(2 ^ (2*D).toNat:Int))
def wrkR (vc:Int) (nf:Nat) (D:Int):Int × Int:=if dpc vc D=0 then (wrkN nf D,0) else (0,dpc vc D)
set_option maxRecDepth 100000 in
set_option maxHeartbeats 2000000 in
theorem hwk_v (a:Option Addr) (np c:Nat) (a':Option Addr) (nf c':Nat) (D vc:Int) (w:World) (V:Hid (∀ W,Below w.heap.size w W→Calls Tryz.prog 45 #[msv a np c a' nf c',.int .i64 D] W fun e w'=>e=.returned (.int .i64 vc)∧Below W.heap.size W w')) (z:(vc != 0)=true):Calls Tryz.prog 15 #[msv a np c a' nf c',.int .i64 D] w fun e w'=>e=.returned (.tuple #[.int .i64 0,.int .i64 vc])∧Below w.heap.size w w':=by
  have M0:=Lib.hid (mes_new w a np c a' nf c' 25)
  have B0:=Lib.hid (show Below w.heap.size w (w.alloc (msc a np c a' nf c' 25)) from (Below.refl _ w).alloc (Nat.le_refl _) _)
  obtain ⟨m0,m1,ml⟩:=M0.out
  go_enter Tryz.func15,Tryz.ntmps15
  go_wp2_with fail
  with_reducible refine (V.out _ B0.out).mono ?_
  rintro e w1 ⟨rfl,hb1⟩
  have hB:=bstep B0.out hb1
  clear hb1 m0 m1 ml M0 B0
  go_wp2
  go_ret2
  exact ⟨rfl,by (repeat' (first|with_reducible exact hB|with_reducible refine Below.drew ?_|(with_reducible refine Below.setCell ?_ (by simp <;> omega) _)))⟩
set_option maxRecDepth 100000 in
set_option maxHeartbeats 2000000 in
theorem hwk_0 (a:Option Addr) (np c:Nat) (a':Option Addr) (nf c':Nat) (vc:Int) (w:World) (V:Hid (∀ W,Below w.heap.size w W→Calls Tryz.prog 45 #[msv a np c a' nf c',.int .i64 0] W fun e w'=>e=.returned (.int .i64 vc)∧Below W.heap.size W w')) (z:(vc != 0)=false) (hm:nf≤96):Calls Tryz.prog 15 #[msv a np c a' nf c',.int .i64 0] w fun e w'=>e=.returned (.tuple #[.int .i64 ((nf:Int)*(nf:Int)*2),.int .i64 0])∧Below w.heap.size w w':=by
  have M0:=Lib.hid (mes_new w a np c a' nf c' 25)
  have B0:=Lib.hid (show Below w.heap.size w (w.alloc (msc a np c a' nf c' 25)) from (Below.refl _ w).alloc (Nat.le_refl _) _)
  obtain ⟨m0,m1,ml⟩:=M0.out
  have hn0:0≤(nf:Int)*(nf:Int):=Int.mul_nonneg (by omega) (by omega)
  have hn1:(nf:Int)*(nf:Int)≤9216:=by have:=(mul_bd (A:=96) (B:=96) (x:=(nf:Int)) (y:=(nf:Int)) (by omega) (by omega) (by omega) (by omega)).2;omega
  go_enter Tryz.func15,Tryz.ntmps15
  go_wp2_with fail
  with_reducible refine (V.out _ B0.out).mono ?_
  rintro e w1 ⟨rfl,hb1⟩
  have M1:=Lib.hid (mes_below M0.out hb1)
  have B1:=Lib.hid (bstep B0.out hb1)
  clear hb1 m0 m1 ml
  obtain ⟨m0,m1,ml⟩:=M1.out
  have hB:=B1.out
  go_wp2
  go_ret2
  exact ⟨rfl,by (repeat' (first|with_reducible exact hB|with_reducible refine Below.drew ?_|(with_reducible refine Below.setCell ?_ (by simp <;> omega) _)))⟩
set_option maxRecDepth 100000 in
set_option maxHeartbeats 2000000 in
theorem hwk_1 (a:Option Addr) (np c:Nat) (a':Option Addr) (nf c':Nat) (vc:Int) (w:World) (V:Hid (∀ W,Below w.heap.size w W→Calls Tryz.prog 45 #[msv a np c a' nf c',.int .i64 1] W fun e w'=>e=.returned (.int .i64 vc)∧Below W.heap.size W w')) (z:(vc != 0)=false) (hm:nf≤96):Calls Tryz.prog 15 #[msv a np c a' nf c',.int .i64 1] w fun e w'=>e=.returned (.tuple #[.int .i64 ((nf:Int)*(nf:Int)*20),.int .i64 0])∧Below w.heap.size w w':=by
  have M0:=Lib.hid (mes_new w a np c a' nf c' 25)
  have B0:=Lib.hid (show Below w.heap.size w (w.alloc (msc a np c a' nf c' 25)) from (Below.refl _ w).alloc (Nat.le_refl _) _)
  obtain ⟨m0,m1,ml⟩:=M0.out
  have hn0:0≤(nf:Int)*(nf:Int):=Int.mul_nonneg (by omega) (by omega)
  have hn1:(nf:Int)*(nf:Int)≤9216:=by have:=(mul_bd (A:=96) (B:=96) (x:=(nf:Int)) (y:=(nf:Int)) (by omega) (by omega) (by omega) (by omega)).2;omega
  go_enter Tryz.func15,Tryz.ntmps15
  go_wp2_with fail
  with_reducible refine (V.out _ B0.out).mono ?_
  rintro e w1 ⟨rfl,hb1⟩
  have M1:=Lib.hid (mes_below M0.out hb1)
  have B1:=Lib.hid (bstep B0.out hb1)
  clear hb1 m0 m1 ml
  obtain ⟨m0,m1,ml⟩:=M1.out
  have hB:=B1.out
  go_wp2
  go_ret2
  exact ⟨rfl,by (repeat' (first|with_reducible exact hB|with_reducible refine Below.drew ?_|(with_reducible refine Below.setCell ?_ (by simp <;> omega) _)))⟩
set_option maxRecDepth 100000 in
set_option maxHeartbeats 2000000 in
theorem hwk_2 (a:Option Addr) (np c:Nat) (a':Option Addr) (nf c':Nat) (vc:Int) (w:World) (V:Hid (∀ W,Below w.heap.size w W→Calls Tryz.prog 45 #[msv a np c a' nf c',.int .i64 2] W fun e w'=>e=.returned (.int .i64 vc)∧Below W.heap.size W w')) (z:(vc != 0)=false) (hm:nf≤96):Calls Tryz.prog 15 #[msv a np c a' nf c',.int .i64 2] w fun e w'=>e=.returned (.tuple #[.int .i64 ((nf:Int)*(nf:Int)*272),.int .i64 0])∧Below w.heap.size w w':=by
  have M0:=Lib.hid (mes_new w a np c a' nf c' 25)
  have B0:=Lib.hid (show Below w.heap.size w (w.alloc (msc a np c a' nf c' 25)) from (Below.refl _ w).alloc (Nat.le_refl _) _)
  obtain ⟨m0,m1,ml⟩:=M0.out
  have hn0:0≤(nf:Int)*(nf:Int):=Int.mul_nonneg (by omega) (by omega)
  have hn1:(nf:Int)*(nf:Int)≤9216:=by have:=(mul_bd (A:=96) (B:=96) (x:=(nf:Int)) (y:=(nf:Int)) (by omega) (by omega) (by omega) (by omega)).2;omega
  go_enter Tryz.func15,Tryz.ntmps15
  go_wp2_with fail
  with_reducible refine (V.out _ B0.out).mono ?_
  rintro e w1 ⟨rfl,hb1⟩
  have M1:=Lib.hid (mes_below M0.out hb1)
  have B1:=Lib.hid (bstep B0.out hb1)
  clear hb1 m0 m1 ml
  obtain ⟨m0,m1,ml⟩:=M1.out
  have hB:=B1.out
  go_wp2
  go_ret2
  exact ⟨rfl,by (repeat' (first|with_reducible exact hB|with_reducible refine Below.drew ?_|(with_reducible refine Below.setCell ?_ (by simp <;> omega) _)))⟩
theorem hwk_any (a:Option Addr) (np c:Nat) (a':Option Addr) (nf c':Nat) (D:Int) (P F:Nat→P3) (w:World) (rp:Lst w a np P) (rf:Lst w a' nf F) (hn:np≤1000000) (hm:nf≤1000000) :
    Calls Tryz.prog 15 #[msv a np c a' nf c',.int .i64 D] w fun e w'=>e=.returned (.tuple #[.int .i64 (wrkR (vcode ⟨np,nf,P,F⟩) nf D).1,.int .i64 (wrkR (vcode ⟨np,nf,P,F⟩) nf D).2])∧Below w.heap.size w w':=by
  have V:=Lib.hid (fun W (B:Below w.heap.size w W)=>ckd_any a np c a' nf c' D P F W (lst_below rp B) (lst_below rf B) hn hm)
  unfold wrkR
  by_cases z:dpc (vcode ⟨np,nf,P,F⟩) D=0
  · rw [if_pos z]
    have z':(dpc (vcode ⟨np,nf,P,F⟩) D != 0)=false:=by rw [z];rfl
    obtain ⟨z0,d0,d2⟩:=dpc_ok z
    have nb:=(vcode_rows z0).2.2.2.1
    have hd:D=0∨D=1∨D=2:=by omega
    rcases hd with rfl|rfl|rfl
    · exact hwk_0 a np c a' nf c' _ w V z' nb
    · exact hwk_1 a np c a' nf c' _ w V z' nb
    · exact hwk_2 a np c a' nf c' _ w V z' nb
  · rw [if_neg z]
    exact hwk_v a np c a' nf c' D _ w V (bne_iff_ne.2 z)
end Go.Proofs.YtbcjiigmbcfkeaaGreat
