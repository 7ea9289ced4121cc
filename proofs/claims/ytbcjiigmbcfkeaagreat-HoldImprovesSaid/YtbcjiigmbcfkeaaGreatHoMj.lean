import Derived.Test.YtbcjiigmbcfkeaaGreatHoMa
import Derived.Test.YtbcjiigmbcfkeaaGreatShN
import Derived.RegionTactic
import Derived.BigRegion
import Derived.Deep.RegionHeld3
namespace Go.Proofs.YtbcjiigmbcfkeaaGreat
open Go.Lib (hid)
set_option maxRecDepth 100000
set_option maxHeartbeats 4000000
open Go.ChangeShapes Go.WideShapes Go.RowKit
open Sh
theorem hvc_v (a:Option Addr) (np c:Nat) (a':Option Addr) (nf c':Nat) (b:Option Addr) (n cap:Nat) (vc:Int) (w:World) (V:Hid (∀ W,Below w.heap.size w W->Calls Tryz.prog 48 #[msv a np c a' nf c'] W fun e w'=>e=.returned (.int .i64 vc)/\Below W.heap.size W w')) (z:(vc != 0)=true):Calls Tryz.prog 17 #[msv a np c a' nf c',.slice b n cap] w fun e w'=>e=.returned (.int .i64 vc)/\Below w.heap.size w w':=by
  have M0:=hid (mes_new w a np c a' nf c' 25)
  have B0:=hid (show Below w.heap.size w (w.alloc (msc a np c a' nf c' 25)) from (Below.refl _ w).alloc (Nat.le_refl _) _)
  obtain ⟨m0,m1,ml⟩:=M0.out
  go_enter Tryz.func17,Tryz.ntmps17
  go_wp2_with fail
  with_reducible refine (V.out _ B0.out).mono ?_
  rintro e w1 ⟨rfl,hb1⟩
  have hB:=bstep B0.out hb1
  clear hb1 m0 m1 ml M0 B0
  go_wp2
  go_ret
  exact ⟨rfl,by (repeat' (first|with_reducible exact hB|with_reducible refine Below.drew ?_|(with_reducible refine Below.setCell ?_ (by simp<;>omega) _)))⟩
theorem hvc_n (a:Option Addr) (np c:Nat) (a':Option Addr) (nf c':Nat) (b:Option Addr) (n cap:Nat) (vc:Int) (w:World) (V:Hid (∀ W,Below w.heap.size w W->Calls Tryz.prog 48 #[msv a np c a' nf c'] W fun e w'=>e=.returned (.int .i64 vc)/\Below W.heap.size W w')) (z:(vc != 0)=false) (y:((n:Int) != (nf:Int))=true):Calls Tryz.prog 17 #[msv a np c a' nf c',.slice b n cap] w fun e w'=>e=.returned (.int .i64 1)/\Below w.heap.size w w':=by
  have M0:=hid (mes_new w a np c a' nf c' 25)
  have B0:=hid (show Below w.heap.size w (w.alloc (msc a np c a' nf c' 25)) from (Below.refl _ w).alloc (Nat.le_refl _) _)
  obtain ⟨m0,m1,ml⟩:=M0.out
  go_enter Tryz.func17,Tryz.ntmps17
  go_wp2_with fail
  with_reducible refine (V.out _ B0.out).mono ?_
  rintro e w1 ⟨rfl,hb1⟩
  have M1:=hid (mes_below M0.out hb1)
  have B1:=hid (bstep B0.out hb1)
  clear hb1 m0 m1 ml
  obtain ⟨m0,m1,ml⟩:=M1.out
  have hB:=B1.out
  go_wp2
  go_ret
  exact ⟨rfl,by (repeat' (first|with_reducible exact hB|with_reducible refine Below.drew ?_|(with_reducible refine Below.setCell ?_ (by simp<;>omega) _)))⟩
theorem hvc_c (a:Option Addr) (np c:Nat) (a':Option Addr) (nf c':Nat) (b:Option Addr) (cap:Nat) (vc:Int) (w:World) (V:Hid (∀ W,Below w.heap.size w W->Calls Tryz.prog 48 #[msv a np c a' nf c'] W fun e w'=>e=.returned (.int .i64 vc)/\Below W.heap.size W w')) (v:Bool) (CF:Hid (∀ W,Below w.heap.size w W->Calls Tryz.prog 49 #[.slice b nf cap,.func (.func 50) #[] #[]] W fun e w'=>e=.returned (.bool v)/\Below W.heap.size W w')) (z:(vc != 0)=false) (y:v=true):Calls Tryz.prog 17 #[msv a np c a' nf c',.slice b nf cap] w fun e w'=>e=.returned (.int .i64 1)/\Below w.heap.size w w':=by
  have M0:=hid (mes_new w a np c a' nf c' 25)
  have B0:=hid (show Below w.heap.size w (w.alloc (msc a np c a' nf c' 25)) from (Below.refl _ w).alloc (Nat.le_refl _) _)
  obtain ⟨m0,m1,ml⟩:=M0.out
  subst y
  go_enter Tryz.func17,Tryz.ntmps17
  go_wp2_with fail
  with_reducible refine (V.out _ B0.out).mono ?_
  rintro e w1 ⟨rfl,hb1⟩
  have M1:=hid (mes_below M0.out hb1)
  have B1:=hid (bstep B0.out hb1)
  clear hb1 m0 m1 ml
  obtain ⟨m0,m1,ml⟩:=M1.out
  go_wp2_with fail
  with_reducible refine (CF.out _ B1.out).mono ?_
  rintro e w2 ⟨rfl,hb2⟩
  have hB:=bstep B1.out hb2
  clear hb2 m0 m1 ml
  go_wp2
  go_ret
  exact ⟨rfl,by (repeat' (first|with_reducible exact hB|with_reducible refine Below.drew ?_|(with_reducible refine Below.setCell ?_ (by simp<;>omega) _)))⟩
theorem hvc_z (a:Option Addr) (np c:Nat) (a':Option Addr) (nf c':Nat) (b:Option Addr) (cap:Nat) (vc:Int) (w:World) (V:Hid (∀ W,Below w.heap.size w W->Calls Tryz.prog 48 #[msv a np c a' nf c'] W fun e w'=>e=.returned (.int .i64 vc)/\Below W.heap.size W w')) (v:Bool) (s:Int) (CF:Hid (∀ W,Below w.heap.size w W->Calls Tryz.prog 49 #[.slice b nf cap,.func (.func 50) #[] #[]] W fun e w'=>e=.returned (.bool v)/\Below W.heap.size W w')) (SU:Hid (∀ W,Below w.heap.size w W->Calls Tryz.prog 51 #[.slice b nf cap] W fun e w'=>e=.returned (.int .i64 s)/\Below W.heap.size W w')) (z:(vc != 0)=false) (y:v=false) (x:(s == 0)=true):Calls Tryz.prog 17 #[msv a np c a' nf c',.slice b nf cap] w fun e w'=>e=.returned (.int .i64 11)/\Below w.heap.size w w':=by
  have M0:=hid (mes_new w a np c a' nf c' 25)
  have B0:=hid (show Below w.heap.size w (w.alloc (msc a np c a' nf c' 25)) from (Below.refl _ w).alloc (Nat.le_refl _) _)
  obtain ⟨m0,m1,ml⟩:=M0.out
  subst y
  go_enter Tryz.func17,Tryz.ntmps17
  go_wp2_with fail
  with_reducible refine (V.out _ B0.out).mono ?_
  rintro e w1 ⟨rfl,hb1⟩
  have M1:=hid (mes_below M0.out hb1)
  have B1:=hid (bstep B0.out hb1)
  clear hb1 m0 m1 ml
  obtain ⟨m0,m1,ml⟩:=M1.out
  go_wp2_with fail
  with_reducible refine (CF.out _ B1.out).mono ?_
  rintro e w2 ⟨rfl,hb2⟩
  have M2:=hid (mes_below M1.out hb2)
  have B2:=hid (bstep B1.out hb2)
  clear hb2 m0 m1 ml
  obtain ⟨m0,m1,ml⟩:=M2.out
  go_wp2_with fail
  with_reducible refine (SU.out _ B2.out).mono ?_
  rintro e w3 ⟨rfl,hb3⟩
  have hB:=bstep B2.out hb3
  clear hb3 m0 m1 ml
  go_wp2
  go_ret
  exact ⟨rfl,by (repeat' (first|with_reducible exact hB|with_reducible refine Below.drew ?_|(with_reducible refine Below.setCell ?_ (by simp<;>omega) _)))⟩
theorem hvc_o (a:Option Addr) (np c:Nat) (a':Option Addr) (nf c':Nat) (b:Option Addr) (cap:Nat) (vc:Int) (w:World) (V:Hid (∀ W,Below w.heap.size w W->Calls Tryz.prog 48 #[msv a np c a' nf c'] W fun e w'=>e=.returned (.int .i64 vc)/\Below W.heap.size W w')) (v:Bool) (s:Int) (CF:Hid (∀ W,Below w.heap.size w W->Calls Tryz.prog 49 #[.slice b nf cap,.func (.func 50) #[] #[]] W fun e w'=>e=.returned (.bool v)/\Below W.heap.size W w')) (SU:Hid (∀ W,Below w.heap.size w W->Calls Tryz.prog 51 #[.slice b nf cap] W fun e w'=>e=.returned (.int .i64 s)/\Below W.heap.size W w')) (z:(vc != 0)=false) (y:v=false) (x:(s == 0)=false):Calls Tryz.prog 17 #[msv a np c a' nf c',.slice b nf cap] w fun e w'=>e=.returned (.int .i64 0)/\Below w.heap.size w w':=by
  have M0:=hid (mes_new w a np c a' nf c' 25)
  have B0:=hid (show Below w.heap.size w (w.alloc (msc a np c a' nf c' 25)) from (Below.refl _ w).alloc (Nat.le_refl _) _)
  obtain ⟨m0,m1,ml⟩:=M0.out
  subst y
  go_enter Tryz.func17,Tryz.ntmps17
  go_wp2_with fail
  with_reducible refine (V.out _ B0.out).mono ?_
  rintro e w1 ⟨rfl,hb1⟩
  have M1:=hid (mes_below M0.out hb1)
  have B1:=hid (bstep B0.out hb1)
  clear hb1 m0 m1 ml
  obtain ⟨m0,m1,ml⟩:=M1.out
  go_wp2_with fail
  with_reducible refine (CF.out _ B1.out).mono ?_
  rintro e w2 ⟨rfl,hb2⟩
  have M2:=hid (mes_below M1.out hb2)
  have B2:=hid (bstep B1.out hb2)
  clear hb2 m0 m1 ml
  obtain ⟨m0,m1,ml⟩:=M2.out
  go_wp2_with fail
  with_reducible refine (SU.out _ B2.out).mono ?_
  rintro e w3 ⟨rfl,hb3⟩
  have hB:=bstep B2.out hb3
  clear hb3 m0 m1 ml
  go_wp2
  go_ret
  exact ⟨rfl,by (repeat' (first|with_reducible exact hB|with_reducible refine Below.drew ?_|(with_reducible refine Below.setCell ?_ (by simp<;>omega) _)))⟩
theorem hvc_any (a:Option Addr) (np c:Nat) (a':Option Addr) (nf c':Nat) (b:Option Addr) (n cap:Nat) (P F:Nat->P3) (ch:Nat->Int) (w:World) (rp:Lst w a np P) (rf:Lst w a' nf F) (rc:LstI w b n ch) (hn:np<=1000000) (hm:nf<=1000000) (hk:n<=9223372036854775807) :
    Calls Tryz.prog 17 #[msv a np c a' nf c',.slice b n cap] w fun e w'=>e=.returned (.int .i64 (chc (vcode ⟨np,nf,P,F⟩) nf n ch))/\Below w.heap.size w w':=by
  have V:=hid (fun W (B:Below w.heap.size w W)=>val_any a np c a' nf c' P F W (lst_below rp B) (lst_below rf B) hn hm)
  unfold chc
  by_cases z:vcode ⟨np,nf,P,F⟩=0
  · rw [if_pos z]
    have z':(vcode ⟨np,nf,P,F⟩ != 0)=false:=by rw [z];rfl
    have nb:=(vcode_rows z).2.2.2.1
    by_cases y:n=nf
    · subst y
      have CF:=hid (fun W (B:Below w.heap.size w W)=>hcf_any b n cap ch W (lstI_below rc B) (by omega))
      cases e:chB ch n with
     |false =>
        rw [if_neg (by simp)]
        rw [e] at CF
        exact hvc_c a np c a' n c' b cap _ w V true CF z' rfl
     |true =>
        rw [if_pos ⟨rfl,rfl⟩]
        rw [e] at CF
        have SU:=hid (fun W (B:Below w.heap.size w W)=>hsum_any b n cap ch W (lstI_below rc B) (by omega) (chB_iff.1 e))
        by_cases x:sm ch n=0
        · rw [if_pos x]
          exact hvc_z a np c a' n c' b cap _ w V false _ CF SU z' rfl (by rw [x];rfl)
        · rw [if_neg x]
          exact hvc_o a np c a' n c' b cap _ w V false _ CF SU z' rfl (beq_eq_false_iff_ne.2 x)
    · rw [if_neg (fun h=>y h.1)]
      exact hvc_n a np c a' nf c' b n cap _ w V z' (bne_iff_ne.2 (by omega))
  · rw [if_neg z]
    exact hvc_v a np c a' nf c' b n cap _ w V (bne_iff_ne.2 z)
theorem ckd_v (a:Option Addr) (np c:Nat) (a':Option Addr) (nf c':Nat) (D vc:Int) (w:World) (V:Hid (∀ W,Below w.heap.size w W->Calls Tryz.prog 48 #[msv a np c a' nf c'] W fun e w'=>e=.returned (.int .i64 vc)/\Below W.heap.size W w')) (z:(vc != 0)=true):Calls Tryz.prog 45 #[msv a np c a' nf c',.int .i64 D] w fun e w'=>e=.returned (.int .i64 vc)/\Below w.heap.size w w':=by
  have M0:=hid (mes_new w a np c a' nf c' 25)
  have B0:=hid (show Below w.heap.size w (w.alloc (msc a np c a' nf c' 25)) from (Below.refl _ w).alloc (Nat.le_refl _) _)
  obtain ⟨m0,m1,ml⟩:=M0.out
  go_enter Tryz.func45,Tryz.ntmps45
  go_wp2_with fail
  with_reducible refine (V.out _ B0.out).mono ?_
  rintro e w1 ⟨rfl,hb1⟩
  have hB:=bstep B0.out hb1
  clear hb1 m0 m1 ml M0 B0
  go_wp2
  go_ret
  exact ⟨rfl,by (repeat' (first|with_reducible exact hB|with_reducible refine Below.drew ?_|(with_reducible refine Below.setCell ?_ (by simp<;>omega) _)))⟩
theorem ckd_n (a:Option Addr) (np c:Nat) (a':Option Addr) (nf c':Nat) (D vc:Int) (v:Bool) (w:World) (V:Hid (∀ W,Below w.heap.size w W->Calls Tryz.prog 48 #[msv a np c a' nf c'] W fun e w'=>e=.returned (.int .i64 vc)/\Below W.heap.size W w')) (DD:Hid (∀ W,Calls Tryz.prog 89 #[.int .i64 D] W fun e w'=>e=.returned (.bool v)/\W=w')) (z:(vc != 0)=false) (y:v=false):Calls Tryz.prog 45 #[msv a np c a' nf c',.int .i64 D] w fun e w'=>e=.returned (.int .i64 1)/\Below w.heap.size w w':=by
  have M0:=hid (mes_new w a np c a' nf c' 25)
  have B0:=hid (show Below w.heap.size w (w.alloc (msc a np c a' nf c' 25)) from (Below.refl _ w).alloc (Nat.le_refl _) _)
  obtain ⟨m0,m1,ml⟩:=M0.out
  subst y
  go_enter Tryz.func45,Tryz.ntmps45
  go_wp2_with fail
  with_reducible refine (V.out _ B0.out).mono ?_
  rintro e w1 ⟨rfl,hb1⟩
  have hB:=bstep B0.out hb1
  clear hb1 m0 m1 ml M0 B0
  go_wp2_with fail
  with_reducible refine (DD.out _).mono ?_
  rintro e w2 ⟨rfl,rfl⟩
  go_wp2
  go_ret
  exact ⟨rfl,by (repeat' (first|with_reducible exact hB|with_reducible refine Below.drew ?_|(with_reducible refine Below.setCell ?_ (by simp<;>omega) _)))⟩
theorem ckd_o (a:Option Addr) (np c:Nat) (a':Option Addr) (nf c':Nat) (D vc:Int) (v:Bool) (w:World) (V:Hid (∀ W,Below w.heap.size w W->Calls Tryz.prog 48 #[msv a np c a' nf c'] W fun e w'=>e=.returned (.int .i64 vc)/\Below W.heap.size W w')) (DD:Hid (∀ W,Calls Tryz.prog 89 #[.int .i64 D] W fun e w'=>e=.returned (.bool v)/\W=w')) (z:(vc != 0)=false) (y:v=true):Calls Tryz.prog 45 #[msv a np c a' nf c',.int .i64 D] w fun e w'=>e=.returned (.int .i64 0)/\Below w.heap.size w w':=by
  have M0:=hid (mes_new w a np c a' nf c' 25)
  have B0:=hid (show Below w.heap.size w (w.alloc (msc a np c a' nf c' 25)) from (Below.refl _ w).alloc (Nat.le_refl _) _)
  obtain ⟨m0,m1,ml⟩:=M0.out
  subst y
  go_enter Tryz.func45,Tryz.ntmps45
  go_wp2_with fail
  with_reducible refine (V.out _ B0.out).mono ?_
  rintro e w1 ⟨rfl,hb1⟩
  have hB:=bstep B0.out hb1
  clear hb1 m0 m1 ml M0 B0
  go_wp2_with fail
  with_reducible refine (DD.out _).mono ?_
  rintro e w2 ⟨rfl,rfl⟩
  go_wp2
  go_ret
  exact ⟨rfl,by (repeat' (first|with_reducible exact hB|with_reducible refine Below.drew ?_|(with_reducible refine Below.setCell ?_ (by simp<;>omega) _)))⟩
theorem ckc_v (a:Option Addr) (np c:Nat) (a':Option Addr) (nf c':Nat) (b:Option Addr) (n cap:Nat) (D vc:Int) (w:World) (V:Hid (∀ W,Below w.heap.size w W->Calls Tryz.prog 17 #[msv a np c a' nf c',.slice b n cap] W fun e w'=>e=.returned (.int .i64 vc)/\Below W.heap.size W w')) (z:(vc != 0)=true):Calls Tryz.prog 53 #[msv a np c a' nf c',.slice b n cap,.int .i64 D] w fun e w'=>e=.returned (.int .i64 vc)/\Below w.heap.size w w':=by
  have M0:=hid (mes_new w a np c a' nf c' 25)
  have B0:=hid (show Below w.heap.size w (w.alloc (msc a np c a' nf c' 25)) from (Below.refl _ w).alloc (Nat.le_refl _) _)
  obtain ⟨m0,m1,ml⟩:=M0.out
  go_enter Tryz.func53,Tryz.ntmps53
  go_wp2_with fail
  with_reducible refine (V.out _ B0.out).mono ?_
  rintro e w1 ⟨rfl,hb1⟩
  have hB:=bstep B0.out hb1
  clear hb1 m0 m1 ml M0 B0
  go_wp2
  go_ret
  exact ⟨rfl,by (repeat' (first|with_reducible exact hB|with_reducible refine Below.drew ?_|(with_reducible refine Below.setCell ?_ (by simp<;>omega) _)))⟩
theorem ckc_n (a:Option Addr) (np c:Nat) (a':Option Addr) (nf c':Nat) (b:Option Addr) (n cap:Nat) (D vc:Int) (v:Bool) (w:World) (V:Hid (∀ W,Below w.heap.size w W->Calls Tryz.prog 17 #[msv a np c a' nf c',.slice b n cap] W fun e w'=>e=.returned (.int .i64 vc)/\Below W.heap.size W w')) (DD:Hid (∀ W,Calls Tryz.prog 89 #[.int .i64 D] W fun e w'=>e=.returned (.bool v)/\W=w')) (z:(vc != 0)=false) (y:v=false):Calls Tryz.prog 53 #[msv a np c a' nf c',.slice b n cap,.int .i64 D] w fun e w'=>e=.returned (.int .i64 1)/\Below w.heap.size w w':=by
  have M0:=hid (mes_new w a np c a' nf c' 25)
  have B0:=hid (show Below w.heap.size w (w.alloc (msc a np c a' nf c' 25)) from (Below.refl _ w).alloc (Nat.le_refl _) _)
  obtain ⟨m0,m1,ml⟩:=M0.out
  subst y
  go_enter Tryz.func53,Tryz.ntmps53
  go_wp2_with fail
  with_reducible refine (V.out _ B0.out).mono ?_
  rintro e w1 ⟨rfl,hb1⟩
  have hB:=bstep B0.out hb1
  clear hb1 m0 m1 ml M0 B0
  go_wp2_with fail
  with_reducible refine (DD.out _).mono ?_
  rintro e w2 ⟨rfl,rfl⟩
  go_wp2
  go_ret
  exact ⟨rfl,by (repeat' (first|with_reducible exact hB|with_reducible refine Below.drew ?_|(with_reducible refine Below.setCell ?_ (by simp<;>omega) _)))⟩
theorem ckc_o (a:Option Addr) (np c:Nat) (a':Option Addr) (nf c':Nat) (b:Option Addr) (n cap:Nat) (D vc:Int) (v:Bool) (w:World) (V:Hid (∀ W,Below w.heap.size w W->Calls Tryz.prog 17 #[msv a np c a' nf c',.slice b n cap] W fun e w'=>e=.returned (.int .i64 vc)/\Below W.heap.size W w')) (DD:Hid (∀ W,Calls Tryz.prog 89 #[.int .i64 D] W fun e w'=>e=.returned (.bool v)/\W=w')) (z:(vc != 0)=false) (y:v=true):Calls Tryz.prog 53 #[msv a np c a' nf c',.slice b n cap,.int .i64 D] w fun e w'=>e=.returned (.int .i64 0)/\Below w.heap.size w w':=by
  have M0:=hid (mes_new w a np c a' nf c' 25)
  have B0:=hid (show Below w.heap.size w (w.alloc (msc a np c a' nf c' 25)) from (Below.refl _ w).alloc (Nat.le_refl _) _)
  obtain ⟨m0,m1,ml⟩:=M0.out
  subst y
  go_enter Tryz.func53,Tryz.ntmps53
  go_wp2_with fail
  with_reducible refine (V.out _ B0.out).mono ?_
  rintro e w1 ⟨rfl,hb1⟩
  have hB:=bstep B0.out hb1
  clear hb1 m0 m1 ml M0 B0
  go_wp2_with fail
  with_reducible refine (DD.out _).mono ?_
  rintro e w2 ⟨rfl,rfl⟩
  go_wp2
  go_ret
  exact ⟨rfl,by (repeat' (first|with_reducible exact hB|with_reducible refine Below.drew ?_|(with_reducible refine Below.setCell ?_ (by simp<;>omega) _)))⟩
theorem dep_if (D:Int):(if 0<=D/\D<=2 then (0:Int) else 1)=if rngB D 0 2=true then 0 else 1:=by
  by_cases h:0<=D/\D<=2
  · rw [if_pos h,if_pos (rngB_iff.2 h)]
  · rw [if_neg h,if_neg (fun x=>h (rngB_iff.1 x))]
theorem ckd_any (a:Option Addr) (np c:Nat) (a':Option Addr) (nf c':Nat) (D:Int) (P F:Nat->P3) (w:World) (rp:Lst w a np P) (rf:Lst w a' nf F) (hn:np<=1000000) (hm:nf<=1000000) :
    Calls Tryz.prog 45 #[msv a np c a' nf c',.int .i64 D] w fun e w'=>e=.returned (.int .i64 (dpc (vcode ⟨np,nf,P,F⟩) D))/\Below w.heap.size w w':=by
  have V:=hid (fun W (B:Below w.heap.size w W)=>val_any a np c a' nf c' P F W (lst_below rp B) (lst_below rf B) hn hm)
  have DD:=hid (fun W=>hdp_any D W)
  unfold dpc
  by_cases z:vcode ⟨np,nf,P,F⟩=0
  · rw [if_pos z,dep_if]
    have z':(vcode ⟨np,nf,P,F⟩ != 0)=false:=by rw [z];rfl
    cases e:rngB D 0 2 with
   |true=>rw [e] at DD;rw [if_pos rfl];exact ckd_o a np c a' nf c' D _ true w V DD z' rfl
   |false=>rw [e] at DD;rw [if_neg (by decide)];exact ckd_n a np c a' nf c' D _ false w V DD z' rfl
  · rw [if_neg z]
    exact ckd_v a np c a' nf c' D _ w V (bne_iff_ne.2 z)
theorem ckc_any (a:Option Addr) (np c:Nat) (a':Option Addr) (nf c':Nat) (b:Option Addr) (n cap:Nat) (D:Int) (P F:Nat->P3) (ch:Nat->Int) (w:World) (rp:Lst w a np P) (rf:Lst w a' nf F) (rc:LstI w b n ch) (hn:np<=1000000) (hm:nf<=1000000) (hk:n<=9223372036854775807) :
    Calls Tryz.prog 53 #[msv a np c a' nf c',.slice b n cap,.int .i64 D] w fun e w'=>e=.returned (.int .i64 (gvc (vcode ⟨np,nf,P,F⟩) nf n ch D))/\Below w.heap.size w w':=by
  have V:=hid (fun W (B:Below w.heap.size w W)=>hvc_any a np c a' nf c' b n cap P F ch W (lst_below rp B) (lst_below rf B) (lstI_below rc B) hn hm hk)
  have DD:=hid (fun W=>hdp_any D W)
  unfold gvc
  by_cases z:chc (vcode ⟨np,nf,P,F⟩) nf n ch=0
  · rw [if_pos z,dep_if]
    have z':(chc (vcode ⟨np,nf,P,F⟩) nf n ch != 0)=false:=by rw [z];rfl
    cases e:rngB D 0 2 with
   |true=>rw [e] at DD;rw [if_pos rfl];exact ckc_o a np c a' nf c' b n cap D _ true w V DD z' rfl
   |false=>rw [e] at DD;rw [if_neg (by decide)];exact ckc_n a np c a' nf c' b n cap D _ false w V DD z' rfl
  · rw [if_neg z]
    exact ckc_v a np c a' nf c' b n cap D _ w V (bne_iff_ne.2 z)
def wrkN (nf:Nat) (D:Int):Int:=(nf:Int)*(nf:Int)*((2 ^ (2*D).toNat:Int)+(2 ^ (2*D).toNat:Int)*(2 ^ (2*D).toNat:Int))
def wrkR (vc:Int) (nf:Nat) (D:Int):Int × Int:=if dpc vc D=0 then (wrkN nf D,0) else (0,dpc vc D)
theorem hwk_v (a:Option Addr) (np c:Nat) (a':Option Addr) (nf c':Nat) (D vc:Int) (w:World) (V:Hid (∀ W,Below w.heap.size w W->Calls Tryz.prog 45 #[msv a np c a' nf c',.int .i64 D] W fun e w'=>e=.returned (.int .i64 vc)/\Below W.heap.size W w')) (z:(vc != 0)=true):Calls Tryz.prog 15 #[msv a np c a' nf c',.int .i64 D] w fun e w'=>e=.returned (.tuple #[.int .i64 0,.int .i64 vc])/\Below w.heap.size w w':=by
  have M0:=hid (mes_new w a np c a' nf c' 25)
  have B0:=hid (show Below w.heap.size w (w.alloc (msc a np c a' nf c' 25)) from (Below.refl _ w).alloc (Nat.le_refl _) _)
  obtain ⟨m0,m1,ml⟩:=M0.out
  go_enter Tryz.func15,Tryz.ntmps15
  go_wp2_with fail
  with_reducible refine (V.out _ B0.out).mono ?_
  rintro e w1 ⟨rfl,hb1⟩
  have hB:=bstep B0.out hb1
  clear hb1 m0 m1 ml M0 B0
  go_wp2
  go_ret2
  exact ⟨rfl,by (repeat' (first|with_reducible exact hB|with_reducible refine Below.drew ?_|(with_reducible refine Below.setCell ?_ (by simp<;>omega) _)))⟩
theorem hwk_0 (a:Option Addr) (np c:Nat) (a':Option Addr) (nf c':Nat) (vc:Int) (w:World) (V:Hid (∀ W,Below w.heap.size w W->Calls Tryz.prog 45 #[msv a np c a' nf c',.int .i64 0] W fun e w'=>e=.returned (.int .i64 vc)/\Below W.heap.size W w')) (z:(vc != 0)=false) (hm:nf<=96):Calls Tryz.prog 15 #[msv a np c a' nf c',.int .i64 0] w fun e w'=>e=.returned (.tuple #[.int .i64 ((nf:Int)*(nf:Int)*2),.int .i64 0])/\Below w.heap.size w w':=by
  have M0:=hid (mes_new w a np c a' nf c' 25)
  have B0:=hid (show Below w.heap.size w (w.alloc (msc a np c a' nf c' 25)) from (Below.refl _ w).alloc (Nat.le_refl _) _)
  obtain ⟨m0,m1,ml⟩:=M0.out
  have hn0:0<=(nf:Int)*(nf:Int):=Int.mul_nonneg (by omega) (by omega)
  have hn1:(nf:Int)*(nf:Int)<=9216:=by have:=(mul_bd (A:=96) (B:=96) (x:=(nf:Int)) (y:=(nf:Int)) (by omega) (by omega) (by omega) (by omega)).2;omega
  go_enter Tryz.func15,Tryz.ntmps15
  go_wp2_with fail
  with_reducible refine (V.out _ B0.out).mono ?_
  rintro e w1 ⟨rfl,hb1⟩
  have M1:=hid (mes_below M0.out hb1)
  have B1:=hid (bstep B0.out hb1)
  clear hb1 m0 m1 ml
  obtain ⟨m0,m1,ml⟩:=M1.out
  have hB:=B1.out
  go_wp2
  go_ret2
  exact ⟨rfl,by (repeat' (first|with_reducible exact hB|with_reducible refine Below.drew ?_|(with_reducible refine Below.setCell ?_ (by simp<;>omega) _)))⟩
theorem hwk_1 (a:Option Addr) (np c:Nat) (a':Option Addr) (nf c':Nat) (vc:Int) (w:World) (V:Hid (∀ W,Below w.heap.size w W->Calls Tryz.prog 45 #[msv a np c a' nf c',.int .i64 1] W fun e w'=>e=.returned (.int .i64 vc)/\Below W.heap.size W w')) (z:(vc != 0)=false) (hm:nf<=96):Calls Tryz.prog 15 #[msv a np c a' nf c',.int .i64 1] w fun e w'=>e=.returned (.tuple #[.int .i64 ((nf:Int)*(nf:Int)*20),.int .i64 0])/\Below w.heap.size w w':=by
  have M0:=hid (mes_new w a np c a' nf c' 25)
  have B0:=hid (show Below w.heap.size w (w.alloc (msc a np c a' nf c' 25)) from (Below.refl _ w).alloc (Nat.le_refl _) _)
  obtain ⟨m0,m1,ml⟩:=M0.out
  have hn0:0<=(nf:Int)*(nf:Int):=Int.mul_nonneg (by omega) (by omega)
  have hn1:(nf:Int)*(nf:Int)<=9216:=by have:=(mul_bd (A:=96) (B:=96) (x:=(nf:Int)) (y:=(nf:Int)) (by omega) (by omega) (by omega) (by omega)).2;omega
  go_enter Tryz.func15,Tryz.ntmps15
  go_wp2_with fail
  with_reducible refine (V.out _ B0.out).mono ?_
  rintro e w1 ⟨rfl,hb1⟩
  have M1:=hid (mes_below M0.out hb1)
  have B1:=hid (bstep B0.out hb1)
  clear hb1 m0 m1 ml
  obtain ⟨m0,m1,ml⟩:=M1.out
  have hB:=B1.out
  go_wp2
  go_ret2
  exact ⟨rfl,by (repeat' (first|with_reducible exact hB|with_reducible refine Below.drew ?_|(with_reducible refine Below.setCell ?_ (by simp<;>omega) _)))⟩
theorem hwk_2 (a:Option Addr) (np c:Nat) (a':Option Addr) (nf c':Nat) (vc:Int) (w:World) (V:Hid (∀ W,Below w.heap.size w W->Calls Tryz.prog 45 #[msv a np c a' nf c',.int .i64 2] W fun e w'=>e=.returned (.int .i64 vc)/\Below W.heap.size W w')) (z:(vc != 0)=false) (hm:nf<=96):Calls Tryz.prog 15 #[msv a np c a' nf c',.int .i64 2] w fun e w'=>e=.returned (.tuple #[.int .i64 ((nf:Int)*(nf:Int)*272),.int .i64 0])/\Below w.heap.size w w':=by
  have M0:=hid (mes_new w a np c a' nf c' 25)
  have B0:=hid (show Below w.heap.size w (w.alloc (msc a np c a' nf c' 25)) from (Below.refl _ w).alloc (Nat.le_refl _) _)
  obtain ⟨m0,m1,ml⟩:=M0.out
  have hn0:0<=(nf:Int)*(nf:Int):=Int.mul_nonneg (by omega) (by omega)
  have hn1:(nf:Int)*(nf:Int)<=9216:=by have:=(mul_bd (A:=96) (B:=96) (x:=(nf:Int)) (y:=(nf:Int)) (by omega) (by omega) (by omega) (by omega)).2;omega
  go_enter Tryz.func15,Tryz.ntmps15
  go_wp2_with fail
  with_reducible refine (V.out _ B0.out).mono ?_
  rintro e w1 ⟨rfl,hb1⟩
  have M1:=hid (mes_below M0.out hb1)
  have B1:=hid (bstep B0.out hb1)
  clear hb1 m0 m1 ml
  obtain ⟨m0,m1,ml⟩:=M1.out
  have hB:=B1.out
  go_wp2
  go_ret2
  exact ⟨rfl,by (repeat' (first|with_reducible exact hB|with_reducible refine Below.drew ?_|(with_reducible refine Below.setCell ?_ (by simp<;>omega) _)))⟩
theorem hwk_any (a:Option Addr) (np c:Nat) (a':Option Addr) (nf c':Nat) (D:Int) (P F:Nat->P3) (w:World) (rp:Lst w a np P) (rf:Lst w a' nf F) (hn:np<=1000000) (hm:nf<=1000000) :
    Calls Tryz.prog 15 #[msv a np c a' nf c',.int .i64 D] w fun e w'=>e=.returned (.tuple #[.int .i64 (wrkR (vcode ⟨np,nf,P,F⟩) nf D).1,.int .i64 (wrkR (vcode ⟨np,nf,P,F⟩) nf D).2])/\Below w.heap.size w w':=by
  have V:=hid (fun W (B:Below w.heap.size w W)=>ckd_any a np c a' nf c' D P F W (lst_below rp B) (lst_below rf B) hn hm)
  unfold wrkR
  by_cases z:dpc (vcode ⟨np,nf,P,F⟩) D=0
  · rw [if_pos z]
    have z':(dpc (vcode ⟨np,nf,P,F⟩) D != 0)=false:=by rw [z];rfl
    obtain ⟨z0,d0,d2⟩:=dpc_ok z
    have nb:=(vcode_rows z0).2.2.2.1
    have hd:D=0∨D=1∨D=2:=by omega
    rcases hd with rfl|rfl|rfl
    · exact hwk_0 a np c a' nf c' _ w V z' nb
    · exact hwk_1 a np c a' nf c' _ w V z' nb
    · exact hwk_2 a np c a' nf c' _ w V z' nb
  · rw [if_neg z]
    exact hwk_v a np c a' nf c' D _ w V (bne_iff_ne.2 z)
theorem rvc_v (a:Option Addr) (np c:Nat) (a':Option Addr) (nf c':Nat) (b:Option Addr) (n cap:Nat) (vc:Int) (w:World) (V:Hid (∀ W,Below w.heap.size w W->Calls Tryz.prog 46 #[msv a np c a' nf c'] W fun e w'=>e=.returned (.int .i64 vc)/\Below W.heap.size W w')) (z:(vc != 0)=true):Calls Tryz.prog 18 #[msv a np c a' nf c',.slice b n cap] w fun e w'=>e=.returned (.int .i64 vc)/\Below w.heap.size w w':=by
  have M0:=hid (mes_new w a np c a' nf c' 25)
  have B0:=hid (show Below w.heap.size w (w.alloc (msc a np c a' nf c' 25)) from (Below.refl _ w).alloc (Nat.le_refl _) _)
  obtain ⟨m0,m1,ml⟩:=M0.out
  go_enter Tryz.func18,Tryz.ntmps18
  go_wp2_with fail
  with_reducible refine (V.out _ B0.out).mono ?_
  rintro e w1 ⟨rfl,hb1⟩
  have hB:=bstep B0.out hb1
  clear hb1 m0 m1 ml M0 B0
  go_wp2
  go_ret
  exact ⟨rfl,by (repeat' (first|with_reducible exact hB|with_reducible refine Below.drew ?_|(with_reducible refine Below.setCell ?_ (by simp<;>omega) _)))⟩
theorem rvc_n (a:Option Addr) (np c:Nat) (a':Option Addr) (nf c':Nat) (b:Option Addr) (n cap:Nat) (vc:Int) (w:World) (V:Hid (∀ W,Below w.heap.size w W->Calls Tryz.prog 46 #[msv a np c a' nf c'] W fun e w'=>e=.returned (.int .i64 vc)/\Below W.heap.size W w')) (z:(vc != 0)=false) (y:((n:Int) != (nf:Int))=true):Calls Tryz.prog 18 #[msv a np c a' nf c',.slice b n cap] w fun e w'=>e=.returned (.int .i64 1)/\Below w.heap.size w w':=by
  have M0:=hid (mes_new w a np c a' nf c' 25)
  have B0:=hid (show Below w.heap.size w (w.alloc (msc a np c a' nf c' 25)) from (Below.refl _ w).alloc (Nat.le_refl _) _)
  obtain ⟨m0,m1,ml⟩:=M0.out
  go_enter Tryz.func18,Tryz.ntmps18
  go_wp2_with fail
  with_reducible refine (V.out _ B0.out).mono ?_
  rintro e w1 ⟨rfl,hb1⟩
  have M1:=hid (mes_below M0.out hb1)
  have B1:=hid (bstep B0.out hb1)
  clear hb1 m0 m1 ml
  obtain ⟨m0,m1,ml⟩:=M1.out
  have hB:=B1.out
  go_wp2
  go_ret
  exact ⟨rfl,by (repeat' (first|with_reducible exact hB|with_reducible refine Below.drew ?_|(with_reducible refine Below.setCell ?_ (by simp<;>omega) _)))⟩
theorem rvc_l (a:Option Addr) (np c:Nat) (a':Option Addr) (nf c':Nat) (b:Option Addr) (cap:Nat) (vc:Int) (w:World) (V:Hid (∀ W,Below w.heap.size w W->Calls Tryz.prog 46 #[msv a np c a' nf c'] W fun e w'=>e=.returned (.int .i64 vc)/\Below W.heap.size W w')) (ch:Nat->Int) (res x:Int) (rc:LstI w b nf ch) (hn:nf<=1000) (z:(vc != 0)=false)
    (R1:Hid (chB ch nf=false->res=1)) (SU:Hid (chB ch nf=true->∀ W,Below w.heap.size w W->Calls Tryz.prog 52 #[.slice b nf cap] W fun e w'=>e=.returned (.int .i64 x)/\Below W.heap.size W w')) (R2:Hid (chB ch nf=true->res=if x=0 then 11 else 0)):Calls Tryz.prog 18 #[msv a np c a' nf c',.slice b nf cap] w fun e w'=>e=.returned (.int .i64 res)/\Below w.heap.size w w':=by
  have M0:=hid (mes_new w a np c a' nf c' 25)
  have B0:=hid (show Below w.heap.size w (w.alloc (msc a np c a' nf c' 25)) from (Below.refl _ w).alloc (Nat.le_refl _) _)
  obtain ⟨m0,m1,ml⟩:=M0.out
  have RC:=hid rc
  have hn':(nf:Int)<=1000:=by omega
  clear rc
  go_enter Tryz.func18,Tryz.ntmps18
  go_wp2_with fail
  with_reducible refine (V.out _ B0.out).mono ?_
  rintro e w1 ⟨rfl,hb1⟩
  have M1:=hid (mes_below M0.out hb1)
  have B1:=hid (bstep B0.out hb1)
  clear hb1 m0 m1 ml
  obtain ⟨m0,m1,ml⟩:=M1.out
  have RC1:=hid (lstI_below RC.out B1.out)
  have l1:w.heap.size<=w1.heap.size:=B1.out.size
  clear RC
  go_wp2
  go_loopw [6] (fun kv wr=>∃ k:Nat,k<=nf/\kv=.int .i64 k/\chB ch k=true/\Below w1.heap.size w1 wr) (fun kv _=>nf - (intOf kv).toNat)
  case atStart=>exact ⟨0,Nat.zero_le _,rfl,rfl,Below.refl _ _⟩
  case round =>
    obtain ⟨k,hk,rfl,good,BB⟩:=hrel
    have GOOD:=hid good
    have BW:=hid (B1.out.trans (BB.mono l1))
    clear good
    by_cases hlt:k<nf
    · have hk1:(k:Int)<(nf:Int):=by omega
      obtain ⟨b',off,rfl,rw0⟩:=RC1.out (show 0<nf by omega)
      have r2:=rowI_below rw0 BB
      have c1:=r2.2 k hlt
      have l2:=r2.1
      have HIT:=hid (fun h:rngB (ch k) 0 100=false=>R1.out (chB_hit hlt h))
      have NEXT:=hid (fun h:rngB (ch k) 0 100=true=>chB_next GOOD.out h)
      clear r2 rw0
      generalize ch k=y at *
      have CK:=hid (fun W=>hwi_any y 0 100 W)
      go_wp2_with fail
      with_reducible refine (CK.out _).mono ?_
      rintro e w2 ⟨rfl,rfl⟩
      cases hb:rngB y 0 100 with
     |true =>
        have A1:=hid (NEXT.out hb)
        clear HIT NEXT hb
        go_wp2
        go_roundw
        case rel=>exact ⟨k+1,by omega,by go_num,A1.out,BB⟩
        case measure=>simp [intOf];omega
     |false =>
        obtain rfl:=HIT.out hb
        clear HIT NEXT hb
        have hB:=BW.out
        go_wp2
        go_ret
        exact ⟨rfl,by (repeat' (first|with_reducible exact hB|with_reducible refine Below.drew ?_|(with_reducible refine Below.setCell ?_ (by simp<;>omega) _)))⟩
    · obtain rfl:k=nf:=by omega
      have S1:=hid (SU.out GOOD.out _ BW.out)
      have hr:=R2.out GOOD.out
      clear SU R2
      go_wp2_with fail
      with_reducible refine S1.out.mono ?_
      rintro e w3 ⟨rfl,hb3⟩
      have hB:=bstep BW.out hb3
      by_cases e:x=0
      · rw [if_pos e] at hr
        subst hr e
        go_wp2
        go_ret
        exact ⟨rfl,by (repeat' (first|with_reducible exact hB|with_reducible refine Below.drew ?_|(with_reducible refine Below.setCell ?_ (by simp<;>omega) _)))⟩
      · rw [if_neg e] at hr
        subst hr
        have e':=beq_eq_false_iff_ne.2 e
        go_wp2
        go_ret
        exact ⟨rfl,by (repeat' (first|with_reducible exact hB|with_reducible refine Below.drew ?_|(with_reducible refine Below.setCell ?_ (by simp<;>omega) _)))⟩
theorem rvc_any (a:Option Addr) (np c:Nat) (a':Option Addr) (nf c':Nat) (b:Option Addr) (n cap:Nat) (P F:Nat->P3) (ch:Nat->Int) (w:World) (rp:Lst w a np P) (rf:Lst w a' nf F) (rc:LstI w b n ch) (hn:np<=1000000) (hm:nf<=1000000) (hk:n<=9223372036854775807) :
    Calls Tryz.prog 18 #[msv a np c a' nf c',.slice b n cap] w fun e w'=>e=.returned (.int .i64 (chc (vcode ⟨np,nf,P,F⟩) nf n ch))/\Below w.heap.size w w':=by
  have V:=hid (fun W (B:Below w.heap.size w W)=>rval_any a np c a' nf c' P F W (lst_below rp B) (lst_below rf B) hn hm)
  unfold chc
  by_cases z:vcode ⟨np,nf,P,F⟩=0
  · rw [if_pos z]
    have z':(vcode ⟨np,nf,P,F⟩ != 0)=false:=by rw [z];rfl
    have nb:=(vcode_rows z).2.2.2.1
    by_cases y:n=nf
    · subst y
      refine rvc_l a np c a' n c' b cap _ w V ch _ (sm ch n) rc (by omega) z' (hid fun h=>?_) (hid fun h W B=>rhsum_any b n cap ch W (lstI_below rc B) (by omega) (chB_iff.1 h)) (hid fun h=>?_)
      · rw [h,if_neg (by simp)]
      · rw [h,if_pos ⟨rfl,rfl⟩]
    · rw [if_neg (fun h=>y h.1)]
      exact rvc_n a np c a' nf c' b n cap _ w V z' (bne_iff_ne.2 (by omega))
  · rw [if_neg z]
    exact rvc_v a np c a' nf c' b n cap _ w V (bne_iff_ne.2 z)
theorem rgv_v (a:Option Addr) (np c:Nat) (a':Option Addr) (nf c':Nat) (b:Option Addr) (n cap:Nat) (D vc:Int) (w:World) (V:Hid (∀ W,Below w.heap.size w W->Calls Tryz.prog 18 #[msv a np c a' nf c',.slice b n cap] W fun e w'=>e=.returned (.int .i64 vc)/\Below W.heap.size W w')) (z:(vc != 0)=true):Calls Tryz.prog 57 #[msv a np c a' nf c',.slice b n cap,.int .i64 D] w fun e w'=>e=.returned (.int .i64 vc)/\Below w.heap.size w w':=by
  have M0:=hid (mes_new w a np c a' nf c' 25)
  have B0:=hid (show Below w.heap.size w (w.alloc (msc a np c a' nf c' 25)) from (Below.refl _ w).alloc (Nat.le_refl _) _)
  obtain ⟨m0,m1,ml⟩:=M0.out
  go_enter Tryz.func57,Tryz.ntmps57
  go_wp2_with fail
  with_reducible refine (V.out _ B0.out).mono ?_
  rintro e w1 ⟨rfl,hb1⟩
  have hB:=bstep B0.out hb1
  clear hb1 m0 m1 ml M0 B0
  go_wp2
  go_ret
  exact ⟨rfl,by (repeat' (first|with_reducible exact hB|with_reducible refine Below.drew ?_|(with_reducible refine Below.setCell ?_ (by simp<;>omega) _)))⟩
theorem rgv_n (a:Option Addr) (np c:Nat) (a':Option Addr) (nf c':Nat) (b:Option Addr) (n cap:Nat) (D vc:Int) (v:Bool) (w:World) (V:Hid (∀ W,Below w.heap.size w W->Calls Tryz.prog 18 #[msv a np c a' nf c',.slice b n cap] W fun e w'=>e=.returned (.int .i64 vc)/\Below W.heap.size W w')) (DD:Hid (∀ W,Calls Tryz.prog 47 #[.int .i64 D,.int .i64 0,.int .i64 2] W fun e w'=>e=.returned (.bool v)/\W=w')) (z:(vc != 0)=false) (y:v=false):Calls Tryz.prog 57 #[msv a np c a' nf c',.slice b n cap,.int .i64 D] w fun e w'=>e=.returned (.int .i64 1)/\Below w.heap.size w w':=by
  have M0:=hid (mes_new w a np c a' nf c' 25)
  have B0:=hid (show Below w.heap.size w (w.alloc (msc a np c a' nf c' 25)) from (Below.refl _ w).alloc (Nat.le_refl _) _)
  obtain ⟨m0,m1,ml⟩:=M0.out
  subst y
  go_enter Tryz.func57,Tryz.ntmps57
  go_wp2_with fail
  with_reducible refine (V.out _ B0.out).mono ?_
  rintro e w1 ⟨rfl,hb1⟩
  have hB:=bstep B0.out hb1
  clear hb1 m0 m1 ml M0 B0
  go_wp2_with fail
  with_reducible refine (DD.out _).mono ?_
  rintro e w2 ⟨rfl,rfl⟩
  go_wp2
  go_ret
  exact ⟨rfl,by (repeat' (first|with_reducible exact hB|with_reducible refine Below.drew ?_|(with_reducible refine Below.setCell ?_ (by simp<;>omega) _)))⟩
theorem rgv_o (a:Option Addr) (np c:Nat) (a':Option Addr) (nf c':Nat) (b:Option Addr) (n cap:Nat) (D vc:Int) (v:Bool) (w:World) (V:Hid (∀ W,Below w.heap.size w W->Calls Tryz.prog 18 #[msv a np c a' nf c',.slice b n cap] W fun e w'=>e=.returned (.int .i64 vc)/\Below W.heap.size W w')) (DD:Hid (∀ W,Calls Tryz.prog 47 #[.int .i64 D,.int .i64 0,.int .i64 2] W fun e w'=>e=.returned (.bool v)/\W=w')) (z:(vc != 0)=false) (y:v=true):Calls Tryz.prog 57 #[msv a np c a' nf c',.slice b n cap,.int .i64 D] w fun e w'=>e=.returned (.int .i64 0)/\Below w.heap.size w w':=by
  have M0:=hid (mes_new w a np c a' nf c' 25)
  have B0:=hid (show Below w.heap.size w (w.alloc (msc a np c a' nf c' 25)) from (Below.refl _ w).alloc (Nat.le_refl _) _)
  obtain ⟨m0,m1,ml⟩:=M0.out
  subst y
  go_enter Tryz.func57,Tryz.ntmps57
  go_wp2_with fail
  with_reducible refine (V.out _ B0.out).mono ?_
  rintro e w1 ⟨rfl,hb1⟩
  have hB:=bstep B0.out hb1
  clear hb1 m0 m1 ml M0 B0
  go_wp2_with fail
  with_reducible refine (DD.out _).mono ?_
  rintro e w2 ⟨rfl,rfl⟩
  go_wp2
  go_ret
  exact ⟨rfl,by (repeat' (first|with_reducible exact hB|with_reducible refine Below.drew ?_|(with_reducible refine Below.setCell ?_ (by simp<;>omega) _)))⟩
theorem rgv_any (a:Option Addr) (np c:Nat) (a':Option Addr) (nf c':Nat) (b:Option Addr) (n cap:Nat) (D:Int) (P F:Nat->P3) (ch:Nat->Int) (w:World) (rp:Lst w a np P) (rf:Lst w a' nf F) (rc:LstI w b n ch) (hn:np<=1000000) (hm:nf<=1000000) (hk:n<=9223372036854775807) :
    Calls Tryz.prog 57 #[msv a np c a' nf c',.slice b n cap,.int .i64 D] w fun e w'=>e=.returned (.int .i64 (gvc (vcode ⟨np,nf,P,F⟩) nf n ch D))/\Below w.heap.size w w':=by
  have V:=hid (fun W (B:Below w.heap.size w W)=>rvc_any a np c a' nf c' b n cap P F ch W (lst_below rp B) (lst_below rf B) (lstI_below rc B) hn hm hk)
  have DD:=hid (fun W=>hwi_any D 0 2 W)
  unfold gvc
  by_cases z:chc (vcode ⟨np,nf,P,F⟩) nf n ch=0
  · rw [if_pos z,dep_if]
    have z':(chc (vcode ⟨np,nf,P,F⟩) nf n ch != 0)=false:=by rw [z];rfl
    cases e:rngB D 0 2 with
   |true=>rw [e] at DD;rw [if_pos rfl];exact rgv_o a np c a' nf c' b n cap D _ true w V DD z' rfl
   |false=>rw [e] at DD;rw [if_neg (by decide)];exact rgv_n a np c a' nf c' b n cap D _ false w V DD z' rfl
  · rw [if_neg z]
    exact rgv_v a np c a' nf c' b n cap D _ w V (bne_iff_ne.2 z)
theorem rwk_v (a:Option Addr) (np c:Nat) (a':Option Addr) (nf c':Nat) (D vc:Int) (w:World) (V:Hid (∀ W,Below w.heap.size w W->Calls Tryz.prog 46 #[msv a np c a' nf c'] W fun e w'=>e=.returned (.int .i64 vc)/\Below W.heap.size W w')) (z:(vc != 0)=true):Calls Tryz.prog 16 #[msv a np c a' nf c',.int .i64 D] w fun e w'=>e=.returned (.tuple #[.int .i64 0,.int .i64 vc])/\Below w.heap.size w w':=by
  have M0:=hid (mes_new w a np c a' nf c' 25)
  have B0:=hid (show Below w.heap.size w (w.alloc (msc a np c a' nf c' 25)) from (Below.refl _ w).alloc (Nat.le_refl _) _)
  obtain ⟨m0,m1,ml⟩:=M0.out
  go_enter Tryz.func16,Tryz.ntmps16
  go_wp2_with fail
  with_reducible refine (V.out _ B0.out).mono ?_
  rintro e w1 ⟨rfl,hb1⟩
  have hB:=bstep B0.out hb1
  clear hb1 m0 m1 ml M0 B0
  go_wp2
  go_ret2
  exact ⟨rfl,by (repeat' (first|with_reducible exact hB|with_reducible refine Below.drew ?_|(with_reducible refine Below.setCell ?_ (by simp<;>omega) _)))⟩
theorem rwk_n (a:Option Addr) (np c:Nat) (a':Option Addr) (nf c':Nat) (D vc:Int) (v:Bool) (w:World) (V:Hid (∀ W,Below w.heap.size w W->Calls Tryz.prog 46 #[msv a np c a' nf c'] W fun e w'=>e=.returned (.int .i64 vc)/\Below W.heap.size W w')) (DD:Hid (∀ W,Calls Tryz.prog 47 #[.int .i64 D,.int .i64 0,.int .i64 2] W fun e w'=>e=.returned (.bool v)/\W=w')) (z:(vc != 0)=false) (y:v=false):Calls Tryz.prog 16 #[msv a np c a' nf c',.int .i64 D] w fun e w'=>e=.returned (.tuple #[.int .i64 0,.int .i64 1])/\Below w.heap.size w w':=by
  have M0:=hid (mes_new w a np c a' nf c' 25)
  have B0:=hid (show Below w.heap.size w (w.alloc (msc a np c a' nf c' 25)) from (Below.refl _ w).alloc (Nat.le_refl _) _)
  obtain ⟨m0,m1,ml⟩:=M0.out
  subst y
  go_enter Tryz.func16,Tryz.ntmps16
  go_wp2_with fail
  with_reducible refine (V.out _ B0.out).mono ?_
  rintro e w1 ⟨rfl,hb1⟩
  have hB:=bstep B0.out hb1
  clear hb1 m0 m1 ml M0 B0
  go_wp2_with fail
  with_reducible refine (DD.out _).mono ?_
  rintro e w2 ⟨rfl,rfl⟩
  go_wp2
  go_ret2
  exact ⟨rfl,by (repeat' (first|with_reducible exact hB|with_reducible refine Below.drew ?_|(with_reducible refine Below.setCell ?_ (by simp<;>omega) _)))⟩
theorem rwk_0 (a:Option Addr) (np c:Nat) (a':Option Addr) (nf c':Nat) (vc:Int) (v:Bool) (w:World) (V:Hid (∀ W,Below w.heap.size w W->Calls Tryz.prog 46 #[msv a np c a' nf c'] W fun e w'=>e=.returned (.int .i64 vc)/\Below W.heap.size W w')) (DD:Hid (∀ W,Calls Tryz.prog 47 #[.int .i64 0,.int .i64 0,.int .i64 2] W fun e w'=>e=.returned (.bool v)/\W=w')) (z:(vc != 0)=false) (y:v=true) (hm:nf<=96):Calls Tryz.prog 16 #[msv a np c a' nf c',.int .i64 0] w fun e w'=>e=.returned (.tuple #[.int .i64 ((nf:Int)*(nf:Int)*2),.int .i64 0])/\Below w.heap.size w w':=by
  have M0:=hid (mes_new w a np c a' nf c' 25)
  have B0:=hid (show Below w.heap.size w (w.alloc (msc a np c a' nf c' 25)) from (Below.refl _ w).alloc (Nat.le_refl _) _)
  obtain ⟨m0,m1,ml⟩:=M0.out
  subst y
  have hn0:0<=(nf:Int)*(nf:Int):=Int.mul_nonneg (by omega) (by omega)
  have hn1:(nf:Int)*(nf:Int)<=9216:=by have:=(mul_bd (A:=96) (B:=96) (x:=(nf:Int)) (y:=(nf:Int)) (by omega) (by omega) (by omega) (by omega)).2;omega
  go_enter Tryz.func16,Tryz.ntmps16
  go_wp2_with fail
  with_reducible refine (V.out _ B0.out).mono ?_
  rintro e w1 ⟨rfl,hb1⟩
  have M1:=hid (mes_below M0.out hb1)
  have B1:=hid (bstep B0.out hb1)
  clear hb1 m0 m1 ml
  obtain ⟨m0,m1,ml⟩:=M1.out
  go_wp2_with fail
  with_reducible refine (DD.out _).mono ?_
  rintro e w2 ⟨rfl,rfl⟩
  have hB:=B1.out
  go_wp2
  refine wp_loop_rounds 1 ?_
  rw [rounds_succ]
  go_wp2
  go_ret2
  exact ⟨rfl,by (repeat' (first|with_reducible exact hB|with_reducible refine Below.drew ?_|(with_reducible refine Below.setCell ?_ (by simp<;>omega) _)))⟩
theorem rwk_1 (a:Option Addr) (np c:Nat) (a':Option Addr) (nf c':Nat) (vc:Int) (v:Bool) (w:World) (V:Hid (∀ W,Below w.heap.size w W->Calls Tryz.prog 46 #[msv a np c a' nf c'] W fun e w'=>e=.returned (.int .i64 vc)/\Below W.heap.size W w')) (DD:Hid (∀ W,Calls Tryz.prog 47 #[.int .i64 1,.int .i64 0,.int .i64 2] W fun e w'=>e=.returned (.bool v)/\W=w')) (z:(vc != 0)=false) (y:v=true) (hm:nf<=96):Calls Tryz.prog 16 #[msv a np c a' nf c',.int .i64 1] w fun e w'=>e=.returned (.tuple #[.int .i64 ((nf:Int)*(nf:Int)*20),.int .i64 0])/\Below w.heap.size w w':=by
  have M0:=hid (mes_new w a np c a' nf c' 25)
  have B0:=hid (show Below w.heap.size w (w.alloc (msc a np c a' nf c' 25)) from (Below.refl _ w).alloc (Nat.le_refl _) _)
  obtain ⟨m0,m1,ml⟩:=M0.out
  subst y
  have hn0:0<=(nf:Int)*(nf:Int):=Int.mul_nonneg (by omega) (by omega)
  have hn1:(nf:Int)*(nf:Int)<=9216:=by have:=(mul_bd (A:=96) (B:=96) (x:=(nf:Int)) (y:=(nf:Int)) (by omega) (by omega) (by omega) (by omega)).2;omega
  go_enter Tryz.func16,Tryz.ntmps16
  go_wp2_with fail
  with_reducible refine (V.out _ B0.out).mono ?_
  rintro e w1 ⟨rfl,hb1⟩
  have M1:=hid (mes_below M0.out hb1)
  have B1:=hid (bstep B0.out hb1)
  clear hb1 m0 m1 ml
  obtain ⟨m0,m1,ml⟩:=M1.out
  go_wp2_with fail
  with_reducible refine (DD.out _).mono ?_
  rintro e w2 ⟨rfl,rfl⟩
  have hB:=B1.out
  go_wp2
  refine wp_loop_rounds 2 ?_
  rw [rounds_succ]
  go_wp2
  rw [rounds_succ]
  go_wp2
  go_ret2
  exact ⟨rfl,by (repeat' (first|with_reducible exact hB|with_reducible refine Below.drew ?_|(with_reducible refine Below.setCell ?_ (by simp<;>omega) _)))⟩
theorem rwk_2 (a:Option Addr) (np c:Nat) (a':Option Addr) (nf c':Nat) (vc:Int) (v:Bool) (w:World) (V:Hid (∀ W,Below w.heap.size w W->Calls Tryz.prog 46 #[msv a np c a' nf c'] W fun e w'=>e=.returned (.int .i64 vc)/\Below W.heap.size W w')) (DD:Hid (∀ W,Calls Tryz.prog 47 #[.int .i64 2,.int .i64 0,.int .i64 2] W fun e w'=>e=.returned (.bool v)/\W=w')) (z:(vc != 0)=false) (y:v=true) (hm:nf<=96):Calls Tryz.prog 16 #[msv a np c a' nf c',.int .i64 2] w fun e w'=>e=.returned (.tuple #[.int .i64 ((nf:Int)*(nf:Int)*272),.int .i64 0])/\Below w.heap.size w w':=by
  have M0:=hid (mes_new w a np c a' nf c' 25)
  have B0:=hid (show Below w.heap.size w (w.alloc (msc a np c a' nf c' 25)) from (Below.refl _ w).alloc (Nat.le_refl _) _)
  obtain ⟨m0,m1,ml⟩:=M0.out
  subst y
  have hn0:0<=(nf:Int)*(nf:Int):=Int.mul_nonneg (by omega) (by omega)
  have hn1:(nf:Int)*(nf:Int)<=9216:=by have:=(mul_bd (A:=96) (B:=96) (x:=(nf:Int)) (y:=(nf:Int)) (by omega) (by omega) (by omega) (by omega)).2;omega
  go_enter Tryz.func16,Tryz.ntmps16
  go_wp2_with fail
  with_reducible refine (V.out _ B0.out).mono ?_
  rintro e w1 ⟨rfl,hb1⟩
  have M1:=hid (mes_below M0.out hb1)
  have B1:=hid (bstep B0.out hb1)
  clear hb1 m0 m1 ml
  obtain ⟨m0,m1,ml⟩:=M1.out
  go_wp2_with fail
  with_reducible refine (DD.out _).mono ?_
  rintro e w2 ⟨rfl,rfl⟩
  have hB:=B1.out
  go_wp2
  refine wp_loop_rounds 3 ?_
  rw [rounds_succ]
  go_wp2
  rw [rounds_succ]
  go_wp2
  rw [rounds_succ]
  go_wp2
  go_ret2
  exact ⟨rfl,by (repeat' (first|with_reducible exact hB|with_reducible refine Below.drew ?_|(with_reducible refine Below.setCell ?_ (by simp<;>omega) _)))⟩
theorem rwk_any (a:Option Addr) (np c:Nat) (a':Option Addr) (nf c':Nat) (D:Int) (P F:Nat->P3) (w:World) (rp:Lst w a np P) (rf:Lst w a' nf F) (hn:np<=1000000) (hm:nf<=1000000) :
    Calls Tryz.prog 16 #[msv a np c a' nf c',.int .i64 D] w fun e w'=>e=.returned (.tuple #[.int .i64 (wrkR (vcode ⟨np,nf,P,F⟩) nf D).1,.int .i64 (wrkR (vcode ⟨np,nf,P,F⟩) nf D).2])/\Below w.heap.size w w':=by
  have V:=hid (fun W (B:Below w.heap.size w W)=>rval_any a np c a' nf c' P F W (lst_below rp B) (lst_below rf B) hn hm)
  have DD:=hid (fun W=>hwi_any D 0 2 W)
  unfold wrkR dpc
  by_cases z:vcode ⟨np,nf,P,F⟩=0
  · rw [if_pos z,dep_if]
    have z':(vcode ⟨np,nf,P,F⟩ != 0)=false:=by rw [z];rfl
    have nb:=(vcode_rows z).2.2.2.1
    cases e:rngB D 0 2 with
   |true =>
      rw [e] at DD
      rw [if_pos rfl,if_pos rfl]
      have:=rngB_iff.1 e
      have hd:D=0∨D=1∨D=2:=by omega
      rcases hd with rfl|rfl|rfl
      · exact rwk_0 a np c a' nf c' _ true w V DD z' rfl nb
      · exact rwk_1 a np c a' nf c' _ true w V DD z' rfl nb
      · exact rwk_2 a np c a' nf c' _ true w V DD z' rfl nb
   |false=>rw [e] at DD;rw [if_neg (by decide),if_neg (by decide)];exact rwk_n a np c a' nf c' D _ false w V DD z' rfl
  · rw [if_neg z,if_neg z]
    exact rwk_v a np c a' nf c' D _ w V (bne_iff_ne.2 z)
attribute [local go_sem 1000000] run_min_mn run_max_mx
theorem h7ix3_0 (a b c:Int) (w:World):(Instr.index 116 (.agg #[.int .i64 a,.int .i64 b,.int .i64 c]) (.int .i64 0)).run Tryz.prog w=.ok (.int .i64 a) w:=by kernel_rfl
theorem h7ix3_1 (a b c:Int) (w:World):(Instr.index 116 (.agg #[.int .i64 a,.int .i64 b,.int .i64 c]) (.int .i64 1)).run Tryz.prog w=.ok (.int .i64 b) w:=by kernel_rfl
theorem h7ix3_2 (a b c:Int) (w:World):(Instr.index 116 (.agg #[.int .i64 a,.int .i64 b,.int .i64 c]) (.int .i64 2)).run Tryz.prog w=.ok (.int .i64 c) w:=by kernel_rfl
theorem hmay_any (a:P3) (w:World):Calls Tryz.prog 69 #[ptv a] w fun e w'=>e=.returned (.bool (inP 256 a))/\Below w.heap.size w w':=by
  have E:inP 256 a=(rngB a.1 (-256) 256 && (rngB a.2.1 (-256) 256 && rngB a.2.2 (-256) 256)):=by
    unfold inP rngB
    rw [Bool.eq_iff_iff]
    simp only [decide_eq_true_eq,Bool.and_eq_true]
    constructor
    · rintro ⟨h1,h2,h3,h4,h5,h6⟩;exact ⟨⟨h1,h2⟩,⟨h3,h4⟩,h5,h6⟩
    · rintro ⟨⟨h1,h2⟩,⟨h3,h4⟩,h5,h6⟩;exact ⟨h1,h2,h3,h4,h5,h6⟩
  rw [E]
  clear E
  have x0:=h7ix3_0 a.1 a.2.1 a.2.2
  have x1:=h7ix3_1 a.1 a.2.1 a.2.2
  have x2:=h7ix3_2 a.1 a.2.1 a.2.2
  cases h0:rngB a.1 (-256) 256 with
 |false =>
    have R0:=hid (fun W=>(h0 ▸ hinr_any a.1 (-256) 256 W:Calls Tryz.prog 102 #[.int .i64 a.1,.int .i64 (-256),.int .i64 256] W fun e w'=>e=.returned (.bool false)/\W=w'))
    clear h0
    go_enter Tryz.func69,Tryz.ntmps69
    go_wp2
    refine wp_loop_rounds 4 ?_
    rw [rounds_succ]
    go_wp2_with fail
    with_reducible refine (R0.out _).mono ?_
    rintro e w1 ⟨rfl,rfl⟩
    go_wp2
    go_ret
    exact ⟨rfl,by (repeat' (first|exact Below.refl _ _|refine Below.setCell ?_ (by simp<;>omega) _|refine balloc ?_ _|refine Below.drew ?_|refine bdrewN ?_ _))⟩
 |true =>
    cases h1:rngB a.2.1 (-256) 256 with
   |false =>
      have R0:=hid (fun W=>(h0 ▸ hinr_any a.1 (-256) 256 W:Calls Tryz.prog 102 #[.int .i64 a.1,.int .i64 (-256),.int .i64 256] W fun e w'=>e=.returned (.bool true)/\W=w'))
      have R1:=hid (fun W=>(h1 ▸ hinr_any a.2.1 (-256) 256 W:Calls Tryz.prog 102 #[.int .i64 a.2.1,.int .i64 (-256),.int .i64 256] W fun e w'=>e=.returned (.bool false)/\W=w'))
      clear h0 h1
      go_enter Tryz.func69,Tryz.ntmps69
      go_wp2
      refine wp_loop_rounds 4 ?_
      rw [rounds_succ]
      go_wp2_with fail
      with_reducible refine (R0.out _).mono ?_
      rintro e w1 ⟨rfl,rfl⟩
      go_wp2
      rw [rounds_succ]
      go_wp2_with fail
      with_reducible refine (R1.out _).mono ?_
      rintro e w1 ⟨rfl,rfl⟩
      go_wp2
      go_ret
      exact ⟨rfl,by (repeat' (first|exact Below.refl _ _|refine Below.setCell ?_ (by simp<;>omega) _|refine balloc ?_ _|refine Below.drew ?_|refine bdrewN ?_ _))⟩
   |true =>
      cases h2:rngB a.2.2 (-256) 256 with
     |false =>
        have R0:=hid (fun W=>(h0 ▸ hinr_any a.1 (-256) 256 W:Calls Tryz.prog 102 #[.int .i64 a.1,.int .i64 (-256),.int .i64 256] W fun e w'=>e=.returned (.bool true)/\W=w'))
        have R1:=hid (fun W=>(h1 ▸ hinr_any a.2.1 (-256) 256 W:Calls Tryz.prog 102 #[.int .i64 a.2.1,.int .i64 (-256),.int .i64 256] W fun e w'=>e=.returned (.bool true)/\W=w'))
        have R2:=hid (fun W=>(h2 ▸ hinr_any a.2.2 (-256) 256 W:Calls Tryz.prog 102 #[.int .i64 a.2.2,.int .i64 (-256),.int .i64 256] W fun e w'=>e=.returned (.bool false)/\W=w'))
        clear h0 h1 h2
        go_enter Tryz.func69,Tryz.ntmps69
        go_wp2
        refine wp_loop_rounds 4 ?_
        rw [rounds_succ]
        go_wp2_with fail
        with_reducible refine (R0.out _).mono ?_
        rintro e w1 ⟨rfl,rfl⟩
        go_wp2
        rw [rounds_succ]
        go_wp2_with fail
        with_reducible refine (R1.out _).mono ?_
        rintro e w1 ⟨rfl,rfl⟩
        go_wp2
        rw [rounds_succ]
        go_wp2_with fail
        with_reducible refine (R2.out _).mono ?_
        rintro e w1 ⟨rfl,rfl⟩
        go_wp2
        go_ret
        exact ⟨rfl,by (repeat' (first|exact Below.refl _ _|refine Below.setCell ?_ (by simp<;>omega) _|refine balloc ?_ _|refine Below.drew ?_|refine bdrewN ?_ _))⟩
     |true =>
        have R0:=hid (fun W=>(h0 ▸ hinr_any a.1 (-256) 256 W:Calls Tryz.prog 102 #[.int .i64 a.1,.int .i64 (-256),.int .i64 256] W fun e w'=>e=.returned (.bool true)/\W=w'))
        have R1:=hid (fun W=>(h1 ▸ hinr_any a.2.1 (-256) 256 W:Calls Tryz.prog 102 #[.int .i64 a.2.1,.int .i64 (-256),.int .i64 256] W fun e w'=>e=.returned (.bool true)/\W=w'))
        have R2:=hid (fun W=>(h2 ▸ hinr_any a.2.2 (-256) 256 W:Calls Tryz.prog 102 #[.int .i64 a.2.2,.int .i64 (-256),.int .i64 256] W fun e w'=>e=.returned (.bool true)/\W=w'))
        clear h0 h1 h2
        go_enter Tryz.func69,Tryz.ntmps69
        go_wp2
        refine wp_loop_rounds 4 ?_
        rw [rounds_succ]
        go_wp2_with fail
        with_reducible refine (R0.out _).mono ?_
        rintro e w1 ⟨rfl,rfl⟩
        go_wp2
        rw [rounds_succ]
        go_wp2_with fail
        with_reducible refine (R1.out _).mono ?_
        rintro e w1 ⟨rfl,rfl⟩
        go_wp2
        rw [rounds_succ]
        go_wp2_with fail
        with_reducible refine (R2.out _).mono ?_
        rintro e w1 ⟨rfl,rfl⟩
        go_wp2
        rw [rounds_succ]
        go_wp2
        go_ret
        exact ⟨rfl,by (repeat' (first|exact Below.refl _ _|refine Below.setCell ?_ (by simp<;>omega) _|refine balloc ?_ _|refine Below.drew ?_|refine bdrewN ?_ _))⟩
def h7szI (n:Int):Int:=Sp.mx n (wrap64 (-n))
theorem h7szI_le {n L:Int} (h0:0<=L) (hL:L<=4611686018427387904):(h7szI n<=L/\-L<=n) ↔ (-L<=n/\n<=L):=by
  unfold h7szI Sp.mx
  constructor
  · rintro ⟨h,k⟩
    refine ⟨k,?_⟩
    split at h<;>omega
  · rintro ⟨h,k⟩
    refine ⟨?_,h⟩
    have e:wrap64 (-n)=-n:=IntWalk.wrap64_in _ (by omega)
    rw [e]
    split<;>omega
theorem h7size_any (n:Int) (w:World) :
    Calls Tryz.prog 125 #[.int .i64 n] w fun e w'=>e=.returned (.int .i64 (h7szI n))/\w=w':=by
  go_enter Tryz.func125,Tryz.ntmps125
  go_wp2
  go_ret
  exact ⟨rfl,rfl⟩
theorem h7inP_sz (a:P3) (L:Int) (h0:0<=L) (hL:L<=4611686018427387904):inP L a=(decide (h7szI a.1<=L) && decide (h7szI a.2.1<=L) && decide (h7szI a.2.2<=L) && decide (-L<=a.1) && decide (-L<=a.2.1) && decide (-L<=a.2.2)):=by
  have x:=h7szI_le (n:=a.1) h0 hL
  have y:=h7szI_le (n:=a.2.1) h0 hL
  have z:=h7szI_le (n:=a.2.2) h0 hL
  unfold inP
  rw [Bool.eq_iff_iff]
  simp only [decide_eq_true_eq,Bool.and_eq_true]
  constructor
  · rintro ⟨h1,h2,h3,h4,h5,h6⟩
    exact ⟨⟨⟨⟨⟨(x.2 ⟨h1,h2⟩).1,(y.2 ⟨h3,h4⟩).1⟩,(z.2 ⟨h5,h6⟩).1⟩,h1⟩,h3⟩,h5⟩
  · rintro ⟨⟨⟨⟨⟨h1,h2⟩,h3⟩,h4⟩,h5⟩,h6⟩
    exact ⟨h4,(x.1 ⟨h1,h4⟩).2,h5,(y.1 ⟨h2,h5⟩).2,h6,(z.1 ⟨h3,h6⟩).2⟩
theorem h7small_any (a:P3) (L:Int) (w:World) (b1:0<=L) (b2:L<=4611686018427387904) :
    Calls Tryz.prog 72 #[ptv a,.int .i64 L] w fun e w'=>e=.returned (.bool (inP L a))/\Below w.heap.size w w':=by
  cases h0:decide (h7szI a.1<=L) with
 |false =>
    rw [h7inP_sz a L b1 b2,h0]
    go_enter Tryz.func72,Tryz.ntmps72
    go_wp2_with (go_at_call 125;(with_reducible refine (h7size_any _ _).mono ?_);rintro e w' ⟨rfl,rfl⟩)
    go_ret
    exact ⟨rfl,by (repeat' (first|exact Below.refl _ _|refine Below.setCell ?_ (by simp<;>omega) _|refine balloc ?_ _|refine Below.drew ?_|refine bdrewN ?_ _))⟩
 |true =>
    cases h1:decide (h7szI a.2.1<=L) with
   |false =>
      rw [h7inP_sz a L b1 b2,h0,h1]
      go_enter Tryz.func72,Tryz.ntmps72
      go_wp2_with (go_at_call 125;(with_reducible refine (h7size_any _ _).mono ?_);rintro e w' ⟨rfl,rfl⟩)
      go_ret
      exact ⟨rfl,by (repeat' (first|exact Below.refl _ _|refine Below.setCell ?_ (by simp<;>omega) _|refine balloc ?_ _|refine Below.drew ?_|refine bdrewN ?_ _))⟩
   |true =>
      cases h2:decide (h7szI a.2.2<=L) with
     |false =>
        rw [h7inP_sz a L b1 b2,h0,h1,h2]
        go_enter Tryz.func72,Tryz.ntmps72
        go_wp2_with (go_at_call 125;(with_reducible refine (h7size_any _ _).mono ?_);rintro e w' ⟨rfl,rfl⟩)
        go_ret
        exact ⟨rfl,by (repeat' (first|exact Below.refl _ _|refine Below.setCell ?_ (by simp<;>omega) _|refine balloc ?_ _|refine Below.drew ?_|refine bdrewN ?_ _))⟩
     |true =>
        cases h3:decide (-L<=a.1) with
       |false =>
          rw [h7inP_sz a L b1 b2,h0,h1,h2,h3]
          go_enter Tryz.func72,Tryz.ntmps72
          go_wp2_with (go_at_call 125;(with_reducible refine (h7size_any _ _).mono ?_);rintro e w' ⟨rfl,rfl⟩)
          go_ret
          exact ⟨rfl,by (repeat' (first|exact Below.refl _ _|refine Below.setCell ?_ (by simp<;>omega) _|refine balloc ?_ _|refine Below.drew ?_|refine bdrewN ?_ _))⟩
       |true =>
          cases h4:decide (-L<=a.2.1) with
         |false =>
            rw [h7inP_sz a L b1 b2,h0,h1,h2,h3,h4]
            go_enter Tryz.func72,Tryz.ntmps72
            go_wp2_with (go_at_call 125;(with_reducible refine (h7size_any _ _).mono ?_);rintro e w' ⟨rfl,rfl⟩)
            go_ret
            exact ⟨rfl,by (repeat' (first|exact Below.refl _ _|refine Below.setCell ?_ (by simp<;>omega) _|refine balloc ?_ _|refine Below.drew ?_|refine bdrewN ?_ _))⟩
         |true =>
            cases h5:decide (-L<=a.2.2) with
           |false =>
              rw [h7inP_sz a L b1 b2,h0,h1,h2,h3,h4,h5]
              go_enter Tryz.func72,Tryz.ntmps72
              go_wp2_with (go_at_call 125;(with_reducible refine (h7size_any _ _).mono ?_);rintro e w' ⟨rfl,rfl⟩)
              go_ret
              exact ⟨rfl,by (repeat' (first|exact Below.refl _ _|refine Below.setCell ?_ (by simp<;>omega) _|refine balloc ?_ _|refine Below.drew ?_|refine bdrewN ?_ _))⟩
           |true =>
              rw [h7inP_sz a L b1 b2,h0,h1,h2,h3,h4,h5]
              go_enter Tryz.func72,Tryz.ntmps72
              go_wp2_with (go_at_call 125;(with_reducible refine (h7size_any _ _).mono ?_);rintro e w' ⟨rfl,rfl⟩)
              go_ret
              exact ⟨rfl,by (repeat' (first|exact Below.refl _ _|refine Below.setCell ?_ (by simp<;>omega) _|refine balloc ?_ _|refine Below.drew ?_|refine bdrewN ?_ _))⟩
theorem h7minus4_any (a b:P3) (w:World) (h:BdP 4611686018427387904 (sub a b)) :
    Calls Tryz.prog 74 #[ptv a,ptv b] w fun e w'=>e=.returned (ptv (sub a b))/\Below w.heap.size w w':=by
  simp only [BdP,sub] at h
  obtain ⟨h1,h2,h3,h4,h5,h6⟩:=h
  go_enter Tryz.func74,Tryz.ntmps74
  go_wp2
  refine bodyPost_ret (v:=ptv (sub a b)) (by rw [results_cell rfl];go_simp;exact ⟨rfl,rfl,rfl⟩) rfl ⟨rfl,?_⟩
  (repeat' (first|exact Below.refl _ _|refine Below.setCell ?_ (by simp<;>omega) _|refine balloc ?_ _|refine Below.drew ?_|refine bdrewN ?_ _))
theorem h7square4_any (a:P3) (w:World) (h:BdP 1152921504606846976 (pw a a)) :
    Calls Tryz.prog 73 #[ptv a] w fun e w'=>e=.returned (.int .i64 (sq a))/\Below w.heap.size w w':=by
  simp only [BdP,pw] at h
  obtain ⟨h1,h2,h3,h4,h5,h6⟩:=h
  go_enter Tryz.func73,Tryz.ntmps73
  go_wp2
  go_ret
  exact ⟨rfl,by (repeat' (first|exact Below.refl _ _|refine Below.setCell ?_ (by simp<;>omega) _|refine balloc ?_ _|refine Below.drew ?_|refine bdrewN ?_ _))⟩
theorem d64_256 {a b:P3} (ha:BdP 64 a) (hb:BdP 256 b):(-320<=a.1 - b.1/\a.1 - b.1<=320/\-320<=a.2.1 - b.2.1/\a.2.1 - b.2.1<=320/\-320<=a.2.2 - b.2.2/\a.2.2 - b.2.2<=320) /\
    (0<=(a.1 - b.1)*(a.1 - b.1)/\(a.1 - b.1)*(a.1 - b.1)<=102400/\0<=(a.2.1 - b.2.1)*(a.2.1 - b.2.1)/\(a.2.1 - b.2.1)*(a.2.1 - b.2.1)<=102400/\0<=(a.2.2 - b.2.2)*(a.2.2 - b.2.2)/\(a.2.2 - b.2.2)*(a.2.2 - b.2.2)<=102400):=by
  obtain ⟨a1,a2,a3,a4,a5,a6⟩:=ha
  obtain ⟨b1,b2,b3,b4,b5,b6⟩:=hb
  have x1:=mul_bd (A:=320) (B:=320) (x:=a.1 - b.1) (y:=a.1 - b.1) (by omega) (by omega) (by omega) (by omega)
  have x2:=mul_bd (A:=320) (B:=320) (x:=a.2.1 - b.2.1) (y:=a.2.1 - b.2.1) (by omega) (by omega) (by omega) (by omega)
  have x3:=mul_bd (A:=320) (B:=320) (x:=a.2.2 - b.2.2) (y:=a.2.2 - b.2.2) (by omega) (by omega) (by omega) (by omega)
  have y1:=sqn7 (a.1 - b.1)
  have y2:=sqn7 (a.2.1 - b.2.1)
  have y3:=sqn7 (a.2.2 - b.2.2)
  omega
theorem hsq_any (a b:P3) (w:World) (ha:BdP 64 a) (hb:BdP 256 b) :
    Calls Tryz.prog 70 #[ptv a,ptv b] w fun e w'=>e=.returned (.int .i64 (sq (sub a b)))/\Below w.heap.size w w':=by
  obtain ⟨⟨d1,d2,d3,d4,d5,d6⟩,e1,e2,e3,e4,e5,e6⟩:=d64_256 ha hb
  clear ha hb
  go_enter Tryz.func70,Tryz.ntmps70
  go_wp2
  go_region
  go_wp2
  go_ret
  exact ⟨rfl,by (repeat' (first|exact Below.refl _ _|refine Below.setCell ?_ (by simp<;>omega) _|refine balloc ?_ _|refine Below.drew ?_|refine bdrewN ?_ _))⟩
theorem hmid_any (a b:P3) (w:World) (ha:BdP 64 a) (hb:BdP 64 b) :
    Calls Tryz.prog 128 #[ptv a,ptv b] w fun e w'=>e=.returned (ptv (mid a b))/\Below w.heap.size w w':=by
  obtain ⟨a1,a2,a3,a4,a5,a6⟩:=ha
  obtain ⟨b1,b2,b3,b4,b5,b6⟩:=hb
  go_enter Tryz.func128,Tryz.ntmps128
  go_wp2
  refine bodyPost_ret (v:=ptv (mid a b)) (by rw [results_cell rfl];go_simp;exact ⟨rfl,rfl,rfl⟩) rfl ⟨rfl,?_⟩
  (repeat' (first|exact Below.refl _ _|refine Below.setCell ?_ (by simp<;>omega) _|refine balloc ?_ _|refine Below.drew ?_|refine bdrewN ?_ _))
theorem hbl_v (a:Option Addr) (np c:Nat) (a':Option Addr) (nf c':Nat) (x:P3) (vc:Int) (w:World) (V:Hid (∀ W,Below w.heap.size w W->Calls Tryz.prog 48 #[msv a np c a' nf c'] W fun e w'=>e=.returned (.int .i64 vc)/\Below W.heap.size W w')) (z:(vc != 0)=true):Calls Tryz.prog 30 #[msv a np c a' nf c',ptv x] w fun e w'=>e=.returned (.tuple #[.int .i64 0,.int .i64 vc])/\Below w.heap.size w w':=by
  have M0:=hid (mes_alloc (mes_new w a np c a' nf c' 25) (ptc x 44))
  have X0:=hid (own_new (w.alloc (msc a np c a' nf c' 25)) x 44)
  simp only [World.size_alloc] at X0
  have B0:=hid (show Below w.heap.size w ((w.alloc (msc a np c a' nf c' 25)).alloc (ptc x 44)) from balloc (balloc (Below.refl _ w) _) _)
  obtain ⟨m0,m1,ml⟩:=M0.out
  obtain ⟨x0,x1,x2,x3,x4,x5,xl⟩:=X0.out
  go_enter Tryz.func30,Tryz.ntmps30
  go_wp2_with fail
  with_reducible refine (V.out _ B0.out).mono ?_
  rintro e w1 ⟨rfl,hb1⟩
  have hB:=bstep B0.out hb1
  clear hb1 m0 m1 ml M0 B0 x0 x1 x2 x3 x4 x5 xl X0
  go_wp2
  go_ret2
  exact ⟨rfl,by (repeat' (first|with_reducible exact hB|with_reducible refine Below.drew ?_|(with_reducible refine Below.setCell ?_ (by simp<;>omega) _)))⟩
theorem hbl_n (a:Option Addr) (np c:Nat) (a':Option Addr) (nf c':Nat) (x:P3) (vc:Int) (v:Bool) (w:World) (V:Hid (∀ W,Below w.heap.size w W->Calls Tryz.prog 48 #[msv a np c a' nf c'] W fun e w'=>e=.returned (.int .i64 vc)/\Below W.heap.size W w')) (MY:Hid (∀ W,Below w.heap.size w W->Calls Tryz.prog 69 #[ptv x] W fun e w'=>e=.returned (.bool v)/\Below W.heap.size W w')) (z:(vc != 0)=false) (y:v=false):Calls Tryz.prog 30 #[msv a np c a' nf c',ptv x] w fun e w'=>e=.returned (.tuple #[.int .i64 0,.int .i64 1])/\Below w.heap.size w w':=by
  have M0:=hid (mes_alloc (mes_new w a np c a' nf c' 25) (ptc x 44))
  have X0:=hid (own_new (w.alloc (msc a np c a' nf c' 25)) x 44)
  simp only [World.size_alloc] at X0
  have B0:=hid (show Below w.heap.size w ((w.alloc (msc a np c a' nf c' 25)).alloc (ptc x 44)) from balloc (balloc (Below.refl _ w) _) _)
  obtain ⟨m0,m1,ml⟩:=M0.out
  obtain ⟨x0,x1,x2,x3,x4,x5,xl⟩:=X0.out
  subst y
  go_enter Tryz.func30,Tryz.ntmps30
  go_wp2_with fail
  with_reducible refine (V.out _ B0.out).mono ?_
  rintro e w1 ⟨rfl,hb1⟩
  have M1:=hid (mes_below M0.out hb1)
  have X1:=hid (own_below X0.out hb1)
  have B1:=hid (bstep B0.out hb1)
  clear hb1 m0 m1 ml x0 x1 x2 x3 x4 x5 xl
  obtain ⟨m0,m1,ml⟩:=M1.out
  obtain ⟨x0,x1,x2,x3,x4,x5,xl⟩:=X1.out
  go_wp2_with fail
  with_reducible refine (MY.out _ B1.out).mono ?_
  rintro e w2 ⟨rfl,hb2⟩
  have hB:=bstep B1.out hb2
  clear hb2 m0 m1 ml x0 x1 x2 x3 x4 x5 xl
  go_wp2
  go_ret2
  exact ⟨rfl,by (repeat' (first|with_reducible exact hB|with_reducible refine Below.drew ?_|(with_reducible refine Below.setCell ?_ (by simp<;>omega) _)))⟩
theorem hbl_l (a:Option Addr) (np c:Nat) (a':Option Addr) (nf c':Nat) (x:P3) (vc:Int) (v:Bool) (P:Nat->P3) (R:Sp.R) (w:World) (V:Hid (∀ W,Below w.heap.size w W->Calls Tryz.prog 48 #[msv a np c a' nf c'] W fun e w'=>e=.returned (.int .i64 vc)/\Below W.heap.size W w')) (MY:Hid (∀ W,Below w.heap.size w W->Calls Tryz.prog 69 #[ptv x] W fun e w'=>e=.returned (.bool v)/\Below W.heap.size W w')) (LEN:Hid (∀ W,Calls Tryz.prog 71 #[.int .i64 (mxl (dsq P x) np)] W fun e w'=>e=.returned (spr R)/\Below W.heap.size W w')) (z:(vc != 0)=false) (y:v=true) (rp:Lst w a np P) (hn:np<=64) (hP:∀ k,k<np->BdP 64 (P k)) (hx:BdP 256 x):Calls Tryz.prog 30 #[msv a np c a' nf c',ptv x] w fun e w'=>e=.returned (.tuple #[.int .i64 R.1.2,.int .i64 R.2])/\Below w.heap.size w w':=by
  have M0:=hid (mes_alloc (mes_new w a np c a' nf c' 25) (ptc x 44))
  have X0:=hid (own_new (w.alloc (msc a np c a' nf c' 25)) x 44)
  simp only [World.size_alloc] at X0
  have B0:=hid (show Below w.heap.size w ((w.alloc (msc a np c a' nf c' 25)).alloc (ptc x 44)) from balloc (balloc (Below.refl _ w) _) _)
  obtain ⟨m0,m1,ml⟩:=M0.out
  obtain ⟨x0,x1,x2,x3,x4,x5,xl⟩:=X0.out
  subst y
  have RP:=hid rp
  have HP:=hid hP
  have HX:=hid hx
  have hn':(np:Int)<=64:=by omega
  clear rp hP hx
  go_enter Tryz.func30,Tryz.ntmps30
  go_wp2_with fail
  with_reducible refine (V.out _ B0.out).mono ?_
  rintro e w1 ⟨rfl,hb1⟩
  have M1:=hid (mes_below M0.out hb1)
  have X1:=hid (own_below X0.out hb1)
  have B1:=hid (bstep B0.out hb1)
  clear hb1 m0 m1 ml x0 x1 x2 x3 x4 x5 xl
  obtain ⟨m0,m1,ml⟩:=M1.out
  obtain ⟨x0,x1,x2,x3,x4,x5,xl⟩:=X1.out
  go_wp2_with fail
  with_reducible refine (MY.out _ B1.out).mono ?_
  rintro e w2 ⟨rfl,hb2⟩
  have M2:=hid (mes_below M1.out hb2)
  have X2:=hid (own_below X1.out hb2)
  have B2:=hid (bstep B1.out hb2)
  clear hb2 m0 m1 ml x0 x1 x2 x3 x4 x5 xl
  obtain ⟨m0,m1,ml⟩:=M2.out
  obtain ⟨x0,x1,x2,x3,x4,x5,xl⟩:=X2.out
  have RP2:=hid (lst_below RP.out B2.out)
  have l2:w.heap.size+1<w2.heap.size:=xl
  clear RP M0 M1 X0 X1
  go_wp2
  go_loopw [7,23] (fun sv kv wr=>∃ k:Nat,k<=np/\kv=.int .i64 k/\sv=.int .i64 (mxl (dsq P x) k)/\Below w2.heap.size w2 wr) (fun _ kv _=>np - (intOf kv).toNat)
  case atStart=>exact ⟨0,Nat.zero_le _,rfl,rfl,Below.refl _ _⟩
  case round =>
    clear m0 m1 ml x0 x1 x2 x3 x4 x5 xl
    obtain ⟨k,hk,rfl,rfl,BB⟩:=hrel
    have BD:=hid BB
    obtain ⟨m0,m1,ml⟩:=mes_below M2.out BB
    obtain ⟨x0,x1,x2,x3,x4,x5,xl⟩:=own_below X2.out BB
    have sz2:=BB.size
    by_cases hlt:k<np
    · have hk1:(k:Int)<(np:Int):=by omega
      obtain ⟨b,off,rfl,rw0⟩:=RP2.out (show 0<np by omega)
      have r2:=row3_below rw0 BB
      obtain ⟨c1,c2,c3⟩:=r2.2 k hlt
      have l1:=r2.1
      have PK:=hid (HP.out k hlt)
      have E1:=hid (show mxl (dsq P x) (k+1)=Sp.mx (mxl (dsq P x) k) (sq (sub (P k) x)) from rfl)
      generalize mxl (dsq P x) k=q at *
      have RK:=hid r2
      clear r2 BB
      obtain ⟨p,hp⟩:∃ p,P k=p:=⟨_,rfl⟩
      rw [hp] at c1 c2 c3 PK E1
      have HPK:=hid hp
      clear hp
      have SQ:=hid (fun W=>hsq_any p x W PK.out HX.out)
      go_wp2_with fail
      with_reducible refine (SQ.out _).mono ?_
      rintro e w3 ⟨rfl,hb3⟩
      have BE:=hid (bstep (balloc BD.out (ptc p 44)) (hb3.mono (by simp<;>omega)))
      clear hb3 c1 c2 c3 m0 m1 ml x0 x1 x2 x3 x4 x5 xl
      go_wp2
      go_roundw
      case rel=>exact ⟨k+1,by omega,by go_num,by rw [E1.out],by have hB:=BE.out;(repeat' (first|with_reducible exact hB|with_reducible refine Below.drew ?_))⟩
      case measure=>simp [intOf];omega
    · obtain rfl:k=np:=by omega
      go_wp2_with fail
      with_reducible refine (LEN.out _).mono ?_
      rintro e w4 ⟨rfl,hb4⟩
      obtain ⟨⟨u,t⟩,r2⟩:=R
      have hB:=bstep (B2.out.trans (BD.out.mono (by have:=B2.out.size;omega))) hb4
      clear hb4 m0 m1 ml x0 x1 x2 x3 x4 x5 xl
      go_wp2
      go_ret2
      exact ⟨rfl,by (repeat' (first|with_reducible exact hB|with_reducible refine Below.drew ?_|(with_reducible refine balloc ?_ _)|(with_reducible refine Below.setCell ?_ (by simp<;>omega) _)))⟩
theorem hbl_any (a:Option Addr) (np c:Nat) (a':Option Addr) (nf c':Nat) (x:P3) (P F:Nat->P3) (w:World) (rp:Lst w a np P) (rf:Lst w a' nf F) (hn:np<=1000000) (hm:nf<=1000000) :
    Calls Tryz.prog 30 #[msv a np c a' nf c',ptv x] w fun e w'=>e=.returned (.tuple #[.int .i64 (ballR (vcode ⟨np,nf,P,F⟩) np P x).1,.int .i64 (ballR (vcode ⟨np,nf,P,F⟩) np P x).2])/\Below w.heap.size w w':=by
  have V:=hid (fun W (B:Below w.heap.size w W)=>val_any a np c a' nf c' P F W (lst_below rp B) (lst_below rf B) hn hm)
  have MY:=hid (fun W (_:Below w.heap.size w W)=>hmay_any x W)
  unfold ballR
  by_cases z:vcode ⟨np,nf,P,F⟩=0
  · rw [if_pos z]
    have z':(vcode ⟨np,nf,P,F⟩ != 0)=false:=by rw [z];rfl
    obtain ⟨h1,h2,h3,h4,h5⟩:=vcode_ok z
    cases e:inP 256 x with
   |true =>
      rw [e] at MY
      rw [if_pos rfl]
      exact hbl_l a np c a' nf c' x _ true P _ w V MY (hid fun W=>len_any _ W) z' rfl rp h1 (fun k hk=>inP_iff.1 (pts_in h4 k hk)) (inP_iff.1 e)
   |false=>rw [e] at MY;rw [if_neg (by decide)];exact hbl_n a np c a' nf c' x _ false w V MY z' rfl
  · rw [if_neg z]
    exact hbl_v a np c a' nf c' x _ w V (bne_iff_ne.2 z)
theorem sub_big {a b:P3} (ha:BdP 64 a) (hb:BdP 256 b):BdP 4611686018427387904 (sub a b):=by
  obtain ⟨⟨d1,d2,d3,d4,d5,d6⟩,_⟩:=d64_256 ha hb
  simp only [BdP,sub]
  omega
theorem pw_big {a b:P3} (ha:BdP 64 a) (hb:BdP 256 b):BdP 1152921504606846976 (pw (sub a b) (sub a b)):=by
  obtain ⟨_,e1,e2,e3,e4,e5,e6⟩:=d64_256 ha hb
  simp only [BdP,sub,pw]
  omega
theorem rbl_v (a:Option Addr) (np c:Nat) (a':Option Addr) (nf c':Nat) (x:P3) (vc:Int) (w:World) (V:Hid (∀ W,Below w.heap.size w W->Calls Tryz.prog 46 #[msv a np c a' nf c'] W fun e w'=>e=.returned (.int .i64 vc)/\Below W.heap.size W w')) (z:(vc != 0)=true):Calls Tryz.prog 31 #[msv a np c a' nf c',ptv x] w fun e w'=>e=.returned (.tuple #[.int .i64 0,.int .i64 vc])/\Below w.heap.size w w':=by
  have M0:=hid (mes_alloc (mes_new w a np c a' nf c' 25) (ptc x 44))
  have X0:=hid (own_new (w.alloc (msc a np c a' nf c' 25)) x 44)
  simp only [World.size_alloc] at X0
  have B0:=hid (show Below w.heap.size w ((w.alloc (msc a np c a' nf c' 25)).alloc (ptc x 44)) from balloc (balloc (Below.refl _ w) _) _)
  obtain ⟨m0,m1,ml⟩:=M0.out
  obtain ⟨x0,x1,x2,x3,x4,x5,xl⟩:=X0.out
  go_enter Tryz.func31,Tryz.ntmps31
  go_wp2_with fail
  with_reducible refine (V.out _ B0.out).mono ?_
  rintro e w1 ⟨rfl,hb1⟩
  have hB:=bstep B0.out hb1
  clear hb1 m0 m1 ml M0 B0 x0 x1 x2 x3 x4 x5 xl X0
  go_wp2
  go_ret2
  exact ⟨rfl,by (repeat' (first|with_reducible exact hB|with_reducible refine Below.drew ?_|(with_reducible refine Below.setCell ?_ (by simp<;>omega) _)))⟩
theorem rbl_n (a:Option Addr) (np c:Nat) (a':Option Addr) (nf c':Nat) (x:P3) (vc:Int) (v:Bool) (w:World) (V:Hid (∀ W,Below w.heap.size w W->Calls Tryz.prog 46 #[msv a np c a' nf c'] W fun e w'=>e=.returned (.int .i64 vc)/\Below W.heap.size W w')) (MY:Hid (∀ W,Below w.heap.size w W->Calls Tryz.prog 72 #[ptv x,.int .i64 256] W fun e w'=>e=.returned (.bool v)/\Below W.heap.size W w')) (z:(vc != 0)=false) (y:v=false):Calls Tryz.prog 31 #[msv a np c a' nf c',ptv x] w fun e w'=>e=.returned (.tuple #[.int .i64 0,.int .i64 1])/\Below w.heap.size w w':=by
  have M0:=hid (mes_alloc (mes_new w a np c a' nf c' 25) (ptc x 44))
  have X0:=hid (own_new (w.alloc (msc a np c a' nf c' 25)) x 44)
  simp only [World.size_alloc] at X0
  have B0:=hid (show Below w.heap.size w ((w.alloc (msc a np c a' nf c' 25)).alloc (ptc x 44)) from balloc (balloc (Below.refl _ w) _) _)
  obtain ⟨m0,m1,ml⟩:=M0.out
  obtain ⟨x0,x1,x2,x3,x4,x5,xl⟩:=X0.out
  subst y
  go_enter Tryz.func31,Tryz.ntmps31
  go_wp2_with fail
  with_reducible refine (V.out _ B0.out).mono ?_
  rintro e w1 ⟨rfl,hb1⟩
  have M1:=hid (mes_below M0.out hb1)
  have X1:=hid (own_below X0.out hb1)
  have B1:=hid (bstep B0.out hb1)
  clear hb1 m0 m1 ml x0 x1 x2 x3 x4 x5 xl
  obtain ⟨m0,m1,ml⟩:=M1.out
  obtain ⟨x0,x1,x2,x3,x4,x5,xl⟩:=X1.out
  go_wp2_with fail
  with_reducible refine (MY.out _ B1.out).mono ?_
  rintro e w2 ⟨rfl,hb2⟩
  have hB:=bstep B1.out hb2
  clear hb2 m0 m1 ml x0 x1 x2 x3 x4 x5 xl
  go_wp2
  go_ret2
  exact ⟨rfl,by (repeat' (first|with_reducible exact hB|with_reducible refine Below.drew ?_|(with_reducible refine Below.setCell ?_ (by simp<;>omega) _)))⟩
theorem rbl_l (a:Option Addr) (np c:Nat) (a':Option Addr) (nf c':Nat) (x:P3) (vc:Int) (v:Bool) (P:Nat->P3) (R:Sp.R) (w:World) (V:Hid (∀ W,Below w.heap.size w W->Calls Tryz.prog 46 #[msv a np c a' nf c'] W fun e w'=>e=.returned (.int .i64 vc)/\Below W.heap.size W w')) (MY:Hid (∀ W,Below w.heap.size w W->Calls Tryz.prog 72 #[ptv x,.int .i64 256] W fun e w'=>e=.returned (.bool v)/\Below W.heap.size W w')) (LEN:Hid (∀ W,Calls Tryz.prog 75 #[.int .i64 (mxl (dsq P x) np)] W fun e w'=>e=.returned (spr R)/\Below W.heap.size W w')) (z:(vc != 0)=false) (y:v=true) (rp:Lst w a np P) (hn:np<=64) (hP:∀ k,k<np->BdP 64 (P k)) (hx:BdP 256 x):Calls Tryz.prog 31 #[msv a np c a' nf c',ptv x] w fun e w'=>e=.returned (.tuple #[.int .i64 R.1.2,.int .i64 R.2])/\Below w.heap.size w w':=by
  have M0:=hid (mes_alloc (mes_new w a np c a' nf c' 25) (ptc x 44))
  have X0:=hid (own_new (w.alloc (msc a np c a' nf c' 25)) x 44)
  simp only [World.size_alloc] at X0
  have B0:=hid (show Below w.heap.size w ((w.alloc (msc a np c a' nf c' 25)).alloc (ptc x 44)) from balloc (balloc (Below.refl _ w) _) _)
  obtain ⟨m0,m1,ml⟩:=M0.out
  obtain ⟨x0,x1,x2,x3,x4,x5,xl⟩:=X0.out
  subst y
  have RP:=hid rp
  have HP:=hid hP
  have HX:=hid hx
  have hn':(np:Int)<=64:=by omega
  clear rp hP hx
  go_enter Tryz.func31,Tryz.ntmps31
  go_wp2_with fail
  with_reducible refine (V.out _ B0.out).mono ?_
  rintro e w1 ⟨rfl,hb1⟩
  have M1:=hid (mes_below M0.out hb1)
  have X1:=hid (own_below X0.out hb1)
  have B1:=hid (bstep B0.out hb1)
  clear hb1 m0 m1 ml x0 x1 x2 x3 x4 x5 xl
  obtain ⟨m0,m1,ml⟩:=M1.out
  obtain ⟨x0,x1,x2,x3,x4,x5,xl⟩:=X1.out
  go_wp2_with fail
  with_reducible refine (MY.out _ B1.out).mono ?_
  rintro e w2 ⟨rfl,hb2⟩
  have M2:=hid (mes_below M1.out hb2)
  have X2:=hid (own_below X1.out hb2)
  have B2:=hid (bstep B1.out hb2)
  clear hb2 m0 m1 ml x0 x1 x2 x3 x4 x5 xl
  obtain ⟨m0,m1,ml⟩:=M2.out
  obtain ⟨x0,x1,x2,x3,x4,x5,xl⟩:=X2.out
  have RP2:=hid (lst_below RP.out B2.out)
  have l2:w.heap.size+1<w2.heap.size:=xl
  clear RP M0 M1 X0 X1
  go_wp2
  go_loopw [7,8] (fun sv kv wr=>∃ k:Nat,k<=np/\kv=.int .i64 k/\sv=.int .i64 (mxl (dsq P x) k)/\Below w2.heap.size w2 wr) (fun _ kv _=>np - (intOf kv).toNat)
  case atStart=>exact ⟨0,Nat.zero_le _,rfl,rfl,Below.refl _ _⟩
  case round =>
    clear m0 m1 ml x0 x1 x2 x3 x4 x5 xl
    obtain ⟨k,hk,rfl,rfl,BB⟩:=hrel
    have BD:=hid BB
    obtain ⟨m0,m1,ml⟩:=mes_below M2.out BB
    obtain ⟨x0,x1,x2,x3,x4,x5,xl⟩:=own_below X2.out BB
    have sz2:=BB.size
    by_cases hlt:k<np
    · have hk1:(k:Int)<(np:Int):=by omega
      obtain ⟨b,off,rfl,rw0⟩:=RP2.out (show 0<np by omega)
      have r2:=row3_below rw0 BB
      obtain ⟨c1,c2,c3⟩:=r2.2 k hlt
      have l1:=r2.1
      have PK:=hid (HP.out k hlt)
      have E1:=hid (show mxl (dsq P x) (k+1)=Sp.mx (mxl (dsq P x) k) (sq (sub (P k) x)) from rfl)
      generalize mxl (dsq P x) k=q at *
      have RK:=hid r2
      clear r2 BB
      obtain ⟨p,hp⟩:∃ p,P k=p:=⟨_,rfl⟩
      rw [hp] at c1 c2 c3 PK E1
      have HPK:=hid hp
      clear hp
      have MI:=hid (fun W=>h7minus4_any p x W (sub_big PK.out HX.out))
      have SQ:=hid (fun W=>h7square4_any (sub p x) W (pw_big PK.out HX.out))
      have KEEP:Hid (∀ w',Below wr.heap.size wr w'->w'.cell? ⟨w.heap.size,0,none⟩=some (.slice (some ⟨b,off,none⟩) np c)/\w'.cell? ⟨b,off+k*3,none⟩=some (.int .i64 p.1)/\w'.cell? ⟨b,off+k*3+1,none⟩=some (.int .i64 p.2.1)/\w'.cell? ⟨b,off+k*3+2,none⟩=some (.int .i64 p.2.2)/\w'.cell? ⟨w.heap.size+1,0,none⟩=some (.int .i64 x.1)/\w'.cell? ⟨w.heap.size+1,1,none⟩=some (.int .i64 x.2.1)/\w'.cell? ⟨w.heap.size+1,2,none⟩=some (.int .i64 x.2.2)):=hid fun w' hb=>by
        have u0:=mes_below (mes_below M2.out BD.out) hb
        have u1:=own_below (own_below X2.out BD.out) hb
        have u2:=row3_below RK.out hb
        obtain ⟨u3,u4,u5⟩:=u2.2 k hlt
        rw [HPK.out] at u3 u4 u5
        exact ⟨u0.1,u3,u4,u5,u1.1,u1.2.1,u1.2.2.1⟩
      have b0:=hid (show Below wr.heap.size wr wr.drew from Below.drew (Below.refl _ _))
      go_wp2_with fail
      clear c1 c2 c3 m0 m1 ml x0 x1 x2 x3 x4 x5 xl
      go_region_held3 (fun w'=>w'.cell? ⟨w.heap.size,0,none⟩=some (.slice (some ⟨b,off,none⟩) np c)/\w'.cell? ⟨b,off+k*3,none⟩=some (.int .i64 p.1)/\w'.cell? ⟨b,off+k*3+1,none⟩=some (.int .i64 p.2.1)/\w'.cell? ⟨b,off+k*3+2,none⟩=some (.int .i64 p.2.2)/\w'.cell? ⟨w.heap.size+1,0,none⟩=some (.int .i64 x.1)/\w'.cell? ⟨w.heap.size+1,1,none⟩=some (.int .i64 x.2.1)/\w'.cell? ⟨w.heap.size+1,2,none⟩=some (.int .i64 x.2.2))
        (first|(with_reducible exact KEEP.out _ b0.out)|(with_reducible exact KEEP.out _ b1.out)|(with_reducible exact KEEP.out _ b2.out)|fail)
        (first|(go_at_call 74;(with_reducible refine (MI.out _).mono ?_);rintro e v1 ⟨rfl,hv1⟩;have b1:=hid (bstep b0.out hv1))|(go_at_call 73;(with_reducible refine (SQ.out _).mono ?_);rintro e v2 ⟨rfl,hv2⟩;have b2:=hid (bstep b1.out hv2))|fail)
      all_goals
        have BE:=hid (BD.out.trans (b2.out.mono sz2))
        go_wp2
        go_roundw
        case rel=>exact ⟨k+1,by omega,by go_num,by rw [E1.out],BE.out⟩
        case measure=>simp [intOf];omega
    · obtain rfl:k=np:=by omega
      go_wp2_with fail
      with_reducible refine (LEN.out _).mono ?_
      rintro e w4 ⟨rfl,hb4⟩
      obtain ⟨⟨u,t⟩,r2⟩:=R
      have hB:=bstep (B2.out.trans (BD.out.mono (by have:=B2.out.size;omega))) hb4
      clear hb4 m0 m1 ml x0 x1 x2 x3 x4 x5 xl
      go_wp2
      go_ret2
      exact ⟨rfl,by (repeat' (first|with_reducible exact hB|with_reducible refine Below.drew ?_|(with_reducible refine balloc ?_ _)|(with_reducible refine Below.setCell ?_ (by simp<;>omega) _)))⟩
theorem rbl_any (a:Option Addr) (np c:Nat) (a':Option Addr) (nf c':Nat) (x:P3) (P F:Nat->P3) (w:World) (rp:Lst w a np P) (rf:Lst w a' nf F) (hn:np<=1000000) (hm:nf<=1000000) :
    Calls Tryz.prog 31 #[msv a np c a' nf c',ptv x] w fun e w'=>e=.returned (.tuple #[.int .i64 (ballR (vcode ⟨np,nf,P,F⟩) np P x).1,.int .i64 (ballR (vcode ⟨np,nf,P,F⟩) np P x).2])/\Below w.heap.size w w':=by
  have V:=hid (fun W (B:Below w.heap.size w W)=>rval_any a np c a' nf c' P F W (lst_below rp B) (lst_below rf B) hn hm)
  have MY:=hid (fun W (_:Below w.heap.size w W)=>h7small_any x 256 W (by decide) (by decide))
  unfold ballR
  by_cases z:vcode ⟨np,nf,P,F⟩=0
  · rw [if_pos z]
    have z':(vcode ⟨np,nf,P,F⟩ != 0)=false:=by rw [z];rfl
    obtain ⟨h1,h2,h3,h4,h5⟩:=vcode_ok z
    cases e:inP 256 x with
   |true =>
      rw [e] at MY
      rw [if_pos rfl]
      exact rbl_l a np c a' nf c' x _ true P _ w V MY (hid fun W=>rlen_any _ W) z' rfl rp h1 (fun k hk=>inP_iff.1 (pts_in h4 k hk)) (inP_iff.1 e)
   |false=>rw [e] at MY;rw [if_neg (by decide)];exact rbl_n a np c a' nf c' x _ false w V MY z' rfl
  · rw [if_neg z]
    exact rbl_v a np c a' nf c' x _ w V (bne_iff_ne.2 z)
end Go.Proofs.YtbcjiigmbcfkeaaGreat
