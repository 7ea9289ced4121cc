import Derived.Test.YtbcjiigmbcfkeaaGreatHo4
namespace Go.Proofs.YtbcjiigmbcfkeaaGreat
open Go.ChangeShapes Go.WideShapes Go.RowKit
open Sh
set_option maxRecDepth 100000 in
set_option maxHeartbeats 2000000 in
theorem rvc_v (a:Option Addr) (np c:Nat) (a':Option Addr) (nf c':Nat) (b:Option Addr) (n cap:Nat) (vc:Int) (w:World) (V:Hid (∀ W,Below w.heap.size w W→Calls Tryz.prog 46 #[msv a np c a' nf c'] W fun e w'=>e=.returned (.int .i64 vc)∧Below W.heap.size W w')) (z:(vc != 0)=true):Calls Tryz.prog 18 #[msv a np c a' nf c',.slice b n cap] w fun e w'=>e=.returned (.int .i64 vc)∧Below w.heap.size w w':=by
  have M0:=Lib.hid (mes_new w a np c a' nf c' 25)
  have B0:=Lib.hid (show Below w.heap.size w (w.alloc (msc a np c a' nf c' 25)) from (Below.refl _ w).alloc (Nat.le_refl _) _)
  obtain ⟨m0,m1,ml⟩:=M0.out
  go_enter Tryz.func18,Tryz.ntmps18
  go_wp2_with fail
  with_reducible refine (V.out _ B0.out).mono ?_
  rintro e w1 ⟨rfl,hb1⟩
  have hB:=bstep B0.out hb1
  clear hb1 m0 m1 ml M0 B0
  go_wp2
  go_ret
  exact ⟨rfl,by (repeat' (first|with_reducible exact hB|with_reducible refine Below.drew ?_|(with_reducible refine Below.setCell ?_ (by simp <;> omega) _)))⟩
set_option maxRecDepth 100000 in
set_option maxHeartbeats 2000000 in
theorem rvc_n (a:Option Addr) (np c:Nat) (a':Option Addr) (nf c':Nat) (b:Option Addr) (n cap:Nat) (vc:Int) (w:World) (V:Hid (∀ W,Below w.heap.size w W→Calls Tryz.prog 46 #[msv a np c a' nf c'] W fun e w'=>e=.returned (.int .i64 vc)∧Below W.heap.size W w')) (z:(vc != 0)=false) (y:((n:Int) != (nf:Int))=true):Calls Tryz.prog 18 #[msv a np c a' nf c',.slice b n cap] w fun e w'=>e=.returned (.int .i64 1)∧Below w.heap.size w w':=by
  have M0:=Lib.hid (mes_new w a np c a' nf c' 25)
  have B0:=Lib.hid (show Below w.heap.size w (w.alloc (msc a np c a' nf c' 25)) from (Below.refl _ w).alloc (Nat.le_refl _) _)
  obtain ⟨m0,m1,ml⟩:=M0.out
  go_enter Tryz.func18,Tryz.ntmps18
  go_wp2_with fail
  with_reducible refine (V.out _ B0.out).mono ?_
  rintro e w1 ⟨rfl,hb1⟩
  have M1:=Lib.hid (mes_below M0.out hb1)
  have B1:=Lib.hid (bstep B0.out hb1)
  clear hb1 m0 m1 ml
  obtain ⟨m0,m1,ml⟩:=M1.out
  have hB:=B1.out
  go_wp2
  go_ret
  exact ⟨rfl,by (repeat' (first|with_reducible exact hB|with_reducible refine Below.drew ?_|(with_reducible refine Below.setCell ?_ (by simp <;> omega) _)))⟩
set_option maxRecDepth 100000 in
set_option maxHeartbeats 2000000 in
theorem rvc_l (a:Option Addr) (np c:Nat) (a':Option Addr) (nf c':Nat) (b:Option Addr) (cap:Nat) (vc:Int) (w:World) (V:Hid (∀ W,Below w.heap.size w W→Calls Tryz.prog 46 #[msv a np c a' nf c'] W fun e w'=>e=.returned (.int .i64 vc)∧Below W.heap.size W w')) (ch:Nat→Int) (res x:Int) (rc:LstI w b nf ch) (hn:nf≤1000) (z:(vc != 0)=false)
    (R1:Hid (chB ch nf=false→res=1)) (SU:Hid (chB ch nf=true→∀ W,Below w.heap.size w W→Calls Tryz.prog 52 #[.slice b nf cap] W fun e w'=>e=.returned (.int .i64 x)∧Below W.heap.size W w')) (R2:Hid (chB ch nf=true→res=if x=0 then 11 else 0)):Calls Tryz.prog 18 #[msv a np c a' nf c',.slice b nf cap] w fun e w'=>e=.returned (.int .i64 res)∧Below w.heap.size w w':=by
  have M0:=Lib.hid (mes_new w a np c a' nf c' 25)
  have B0:=Lib.hid (show Below w.heap.size w (w.alloc (msc a np c a' nf c' 25)) from (Below.refl _ w).alloc (Nat.le_refl _) _)
  obtain ⟨m0,m1,ml⟩:=M0.out
  have RC:=Lib.hid rc
  have hn':(nf:Int)≤1000:=by omega
  clear rc
  go_enter Tryz.func18,Tryz.ntmps18
  go_wp2_with fail
  with_reducible refine (V.out _ B0.out).mono ?_
  rintro e w1 ⟨rfl,hb1⟩
  have M1:=Lib.hid (mes_below M0.out hb1)
  have B1:=Lib.hid (bstep B0.out hb1)
  clear hb1 m0 m1 ml
  obtain ⟨m0,m1,ml⟩:=M1.out
  have RC1:=Lib.hid (lstI_below RC.out B1.out)
  have l1:w.heap.size≤w1.heap.size:=B1.out.size
  clear RC
  go_wp2
  go_loopw [6] (fun kv wr=>∃ k:Nat,k≤nf∧kv=.int .i64 k∧chB ch k=true∧Below w1.heap.size w1 wr) (fun kv _=>nf - (intOf kv).toNat)
  case atStart=>exact ⟨0,Nat.zero_le _,rfl,rfl,Below.refl _ _⟩
  case round =>
    obtain ⟨k,hk,rfl,good,BB⟩:=hrel
    have GOOD:=Lib.hid good
    have BW:=Lib.hid (B1.out.trans (BB.mono l1))
    clear good
    by_cases hlt:k<nf
    · have hk1:(k:Int)<(nf:Int):=by omega
      obtain ⟨b',off,rfl,rw0⟩:=RC1.out (show 0<nf by omega)
      have r2:=rowI_below rw0 BB
      have c1:=r2.2 k hlt
      have l2:=r2.1
      have HIT:=Lib.hid (fun h:rngB (ch k) 0 100=false=>R1.out (chB_hit hlt h))
      have NEXT:=Lib.hid (fun h:rngB (ch k) 0 100=true=>chB_next GOOD.out h)
      clear r2 rw0
      generalize ch k=y at *
      have CK:=Lib.hid (fun W=>hwi_any y 0 100 W)
      go_wp2_with fail
      with_reducible refine (CK.out _).mono ?_
      rintro e w2 ⟨rfl,rfl⟩
      cases hb:rngB y 0 100 with
      | true =>
        have A1:=Lib.hid (NEXT.out hb)
        clear HIT NEXT hb
        go_wp2
        go_roundw
        case rel=>exact ⟨k+1,by omega,by go_num,A1.out,BB⟩
        case measure=>simp [intOf];omega
      | false =>
        obtain rfl:=HIT.out hb
        clear HIT NEXT hb
        have hB:=BW.out
        go_wp2
        go_ret
        exact ⟨rfl,by (repeat' (first|with_reducible exact hB|with_reducible refine Below.drew ?_|(with_reducible refine Below.setCell ?_ (by simp <;> omega) _)))⟩
    · obtain rfl:k=nf:=by omega
      have S1:=Lib.hid (SU.out GOOD.out _ BW.out)
      have hr:=R2.out GOOD.out
      clear SU R2
      go_wp2_with fail
      with_reducible refine S1.out.mono ?_
      rintro e w3 ⟨rfl,hb3⟩
      have hB:=bstep BW.out hb3
      by_cases e:x=0
      · rw [if_pos e] at hr
        subst hr e
        go_wp2
        go_ret
        exact ⟨rfl,by (repeat' (first|with_reducible exact hB|with_reducible refine Below.drew ?_|(with_reducible refine Below.setCell ?_ (by simp <;> omega) _)))⟩
      · rw [if_neg e] at hr
        subst hr
        have e':=beq_eq_false_iff_ne.2 e
        go_wp2
        go_ret
        exact ⟨rfl,by (repeat' (first|with_reducible exact hB|with_reducible refine Below.drew ?_|(with_reducible refine Below.setCell ?_ (by simp <;> omega) _)))⟩
theorem rvc_any (a:Option Addr) (np c:Nat) (a':Option Addr) (nf c':Nat) (b:Option Addr) (n cap:Nat) (P F:Nat→P3) (ch:Nat→Int) (w:World) (rp:Lst w a np P) (rf:Lst w a' nf F) (rc:LstI w b n ch) (hn:np≤1000000) (hm:nf≤1000000) (hk:n≤9223372036854775807) :
    Calls Tryz.prog 18 #[msv a np c a' nf c',.slice b n cap] w fun e w'=>e=.returned (.int .i64 (chc (vcode ⟨np,nf,P,F⟩) nf n ch))∧Below w.heap.size w w':=by
  have V:=Lib.hid (fun W (B:Below w.heap.size w W)=>rval_any a np c a' nf c' P F W (lst_below rp B) (lst_below rf B) hn hm)
  unfold chc
  by_cases z:vcode ⟨np,nf,P,F⟩=0
  · rw [if_pos z]
    have z':(vcode ⟨np,nf,P,F⟩ != 0)=false:=by rw [z];rfl
    have nb:=(vcode_rows z).2.2.2.1
    by_cases y:n=nf
    · subst y
      refine rvc_l a np c a' n c' b cap _ w V ch _ (sm ch n) rc (by omega) z' (Lib.hid fun h=>?_) (Lib.hid fun h W B=>rhsum_any b n cap ch W (lstI_below rc B) (by omega) (chB_iff.1 h)) (Lib.hid fun h=>?_)
      · rw [h,if_neg (by simp)]
      · rw [h,if_pos ⟨rfl,rfl⟩]
    · rw [if_neg (fun h=>y h.1)]
      exact rvc_n a np c a' nf c' b n cap _ w V z' (bne_iff_ne.2 (by omega))
  · rw [if_neg z]
    exact rvc_v a np c a' nf c' b n cap _ w V (bne_iff_ne.2 z)
set_option maxRecDepth 100000 in
set_option maxHeartbeats 2000000 in
theorem rgv_v (a:Option Addr) (np c:Nat) (a':Option Addr) (nf c':Nat) (b:Option Addr) (n cap:Nat) (D vc:Int) (w:World) (V:Hid (∀ W,Below w.heap.size w W→Calls Tryz.prog 18 #[msv a np c a' nf c',.slice b n cap] W fun e w'=>e=.returned (.int .i64 vc)∧Below W.heap.size W w')) (z:(vc != 0)=true):Calls Tryz.prog 57 #[msv a np c a' nf c',.slice b n cap,.int .i64 D] w fun e w'=>e=.returned (.int .i64 vc)∧Below w.heap.size w w':=by
  have M0:=Lib.hid (mes_new w a np c a' nf c' 25)
  have B0:=Lib.hid (show Below w.heap.size w (w.alloc (msc a np c a' nf c' 25)) from (Below.refl _ w).alloc (Nat.le_refl _) _)
  obtain ⟨m0,m1,ml⟩:=M0.out
  go_enter Tryz.func57,Tryz.ntmps57
  go_wp2_with fail
  with_reducible refine (V.out _ B0.out).mono ?_
  rintro e w1 ⟨rfl,hb1⟩
  have hB:=bstep B0.out hb1
  clear hb1 m0 m1 ml M0 B0
  go_wp2
  go_ret
  exact ⟨rfl,by (repeat' (first|with_reducible exact hB|with_reducible refine Below.drew ?_|(with_reducible refine Below.setCell ?_ (by simp <;> omega) _)))⟩
set_option maxRecDepth 100000 in
set_option maxHeartbeats 2000000 in
theorem rgv_n (a:Option Addr) (np c:Nat) (a':Option Addr) (nf c':Nat) (b:Option Addr) (n cap:Nat) (D vc:Int) (v:Bool) (w:World) (V:Hid (∀ W,Below w.heap.size w W→Calls Tryz.prog 18 #[msv a np c a' nf c',.slice b n cap] W fun e w'=>e=.returned (.int .i64 vc)∧Below W.heap.size W w')) (DD:Hid (∀ W,Calls Tryz.prog 47 #[.int .i64 D,.int .i64 0,.int .i64 2] W fun e w'=>e=.returned (.bool v)∧W=w')) (z:(vc != 0)=false) (y:v=false):Calls Tryz.prog 57 #[msv a np c a' nf c',.slice b n cap,.int .i64 D] w fun e w'=>e=.returned (.int .i64 1)∧Below w.heap.size w w':=by
  have M0:=Lib.hid (mes_new w a np c a' nf c' 25)
  have B0:=Lib.hid (show Below w.heap.size w (w.alloc (msc a np c a' nf c' 25)) from (Below.refl _ w).alloc (Nat.le_refl _) _)
  obtain ⟨m0,m1,ml⟩:=M0.out
  subst y
  go_enter Tryz.func57,Tryz.ntmps57
  go_wp2_with fail
  with_reducible refine (V.out _ B0.out).mono ?_
  rintro e w1 ⟨rfl,hb1⟩
  have hB:=bstep B0.out hb1
  clear hb1 m0 m1 ml M0 B0
  go_wp2_with fail
  with_reducible refine (DD.out _).mono ?_
  rintro e w2 ⟨rfl,rfl⟩
  go_wp2
  go_ret
  exact ⟨rfl,by (repeat' (first|with_reducible exact hB|with_reducible refine Below.drew ?_|(with_reducible refine Below.setCell ?_ (by simp <;> omega) _)))⟩
set_option maxRecDepth 100000 in
set_option maxHeartbeats 2000000 in
theorem rgv_o (a:Option Addr) (np c:Nat) (a':Option Addr) (nf c':Nat) (b:Option Addr) (n cap:Nat) (D vc:Int) (v:Bool) (w:World) (V:Hid (∀ W,Below w.heap.size w W→Calls Tryz.prog 18 #[msv a np c a' nf c',.slice b n cap] W fun e w'=>e=.returned (.int .i64 vc)∧Below W.heap.size W w')) (DD:Hid (∀ W,Calls Tryz.prog 47 #[.int .i64 D,.int .i64 0,.int .i64 2] W fun e w'=>e=.returned (.bool v)∧W=w')) (z:(vc != 0)=false) (y:v=true):Calls Tryz.prog 57 #[msv a np c a' nf c',.slice b n cap,.int .i64 D] w fun e w'=>e=.returned (.int .i64 0)∧Below w.heap.size w w':=by
  have M0:=Lib.hid (mes_new w a np c a' nf c' 25)
  have B0:=Lib.hid (show Below w.heap.size w (w.alloc (msc a np c a' nf c' 25)) from (Below.refl _ w).alloc (Nat.le_refl _) _)
  obtain ⟨m0,m1,ml⟩:=M0.out
  subst y
  go_enter Tryz.func57,Tryz.ntmps57
  go_wp2_with fail
  with_reducible refine (V.out _ B0.out).mono ?_
  rintro e w1 ⟨rfl,hb1⟩
  have hB:=bstep B0.out hb1
  clear hb1 m0 m1 ml M0 B0
  go_wp2_with fail
  with_reducible refine (DD.out _).mono ?_
  rintro e w2 ⟨rfl,rfl⟩
  go_wp2
  go_ret
  exact ⟨rfl,by (repeat' (first|with_reducible exact hB|with_reducible refine Below.drew ?_|(with_reducible refine Below.setCell ?_ (by simp <;> omega) _)))⟩
theorem rgv_any (a:Option Addr) (np c:Nat) (a':Option Addr) (nf c':Nat) (b:Option Addr) (n cap:Nat) (D:Int) (P F:Nat→P3) (ch:Nat→Int) (w:World) (rp:Lst w a np P) (rf:Lst w a' nf F) (rc:LstI w b n ch) (hn:np≤1000000) (hm:nf≤1000000) (hk:n≤9223372036854775807) :
    Calls Tryz.prog 57 #[msv a np c a' nf c',.slice b n cap,.int .i64 D] w fun e w'=>e=.returned (.int .i64 (gvc (vcode ⟨np,nf,P,F⟩) nf n ch D))∧Below w.heap.size w w':=by
  have V:=Lib.hid (fun W (B:Below w.heap.size w W)=>rvc_any a np c a' nf c' b n cap P F ch W (lst_below rp B) (lst_below rf B) (lstI_below rc B) hn hm hk)
  have DD:=Lib.hid (fun W=>hwi_any D 0 2 W)
  unfold gvc
  by_cases z:chc (vcode ⟨np,nf,P,F⟩) nf n ch=0
  · rw [if_pos z,dep_if]
    have z':(chc (vcode ⟨np,nf,P,F⟩) nf n ch != 0)=false:=by rw [z];rfl
    cases e:rngB D 0 2 with
    | true=>rw [e] at DD;rw [if_pos rfl];exact rgv_o a np c a' nf c' b n cap D _ true w V DD z' rfl
    | false=>rw [e] at DD;rw [if_neg (by decide)];exact rgv_n a np c a' nf c' b n cap D _ false w V DD z' rfl
  · rw [if_neg z]
    exact rgv_v a np c a' nf c' b n cap D _ w V (bne_iff_ne.2 z)
set_option maxRecDepth 100000 in
set_option maxHeartbeats 2000000 in
theorem rwk_v (a:Option Addr) (np c:Nat) (a':Option Addr) (nf c':Nat) (D vc:Int) (w:World) (V:Hid (∀ W,Below w.heap.size w W→Calls Tryz.prog 46 #[msv a np c a' nf c'] W fun e w'=>e=.returned (.int .i64 vc)∧Below W.heap.size W w')) (z:(vc != 0)=true):Calls Tryz.prog 16 #[msv a np c a' nf c',.int .i64 D] w fun e w'=>e=.returned (.tuple #[.int .i64 0,.int .i64 vc])∧Below w.heap.size w w':=by
  have M0:=Lib.hid (mes_new w a np c a' nf c' 25)
  have B0:=Lib.hid (show Below w.heap.size w (w.alloc (msc a np c a' nf c' 25)) from (Below.refl _ w).alloc (Nat.le_refl _) _)
  obtain ⟨m0,m1,ml⟩:=M0.out
  go_enter Tryz.func16,Tryz.ntmps16
  go_wp2_with fail
  with_reducible refine (V.out _ B0.out).mono ?_
  rintro e w1 ⟨rfl,hb1⟩
  have hB:=bstep B0.out hb1
  clear hb1 m0 m1 ml M0 B0
  go_wp2
  go_ret2
  exact ⟨rfl,by (repeat' (first|with_reducible exact hB|with_reducible refine Below.drew ?_|(with_reducible refine Below.setCell ?_ (by simp <;> omega) _)))⟩
set_option maxRecDepth 100000 in
set_option maxHeartbeats 2000000 in
theorem rwk_n (a:Option Addr) (np c:Nat) (a':Option Addr) (nf c':Nat) (D vc:Int) (v:Bool) (w:World) (V:Hid (∀ W,Below w.heap.size w W→Calls Tryz.prog 46 #[msv a np c a' nf c'] W fun e w'=>e=.returned (.int .i64 vc)∧Below W.heap.size W w')) (DD:Hid (∀ W,Calls Tryz.prog 47 #[.int .i64 D,.int .i64 0,.int .i64 2] W fun e w'=>e=.returned (.bool v)∧W=w')) (z:(vc != 0)=false) (y:v=false):Calls Tryz.prog 16 #[msv a np c a' nf c',.int .i64 D] w fun e w'=>e=.returned (.tuple #[.int .i64 0,.int .i64 1])∧Below w.heap.size w w':=by
  have M0:=Lib.hid (mes_new w a np c a' nf c' 25)
  have B0:=Lib.hid (show Below w.heap.size w (w.alloc (msc a np c a' nf c' 25)) from (Below.refl _ w).alloc (Nat.le_refl _) _)
  obtain ⟨m0,m1,ml⟩:=M0.out
  subst y
  go_enter Tryz.func16,Tryz.ntmps16
  go_wp2_with fail
  with_reducible refine (V.out _ B0.out).mono ?_
  rintro e w1 ⟨rfl,hb1⟩
  have hB:=bstep B0.out hb1
  clear hb1 m0 m1 ml M0 B0
  go_wp2_with fail
  with_reducible refine (DD.out _).mono ?_
  rintro e w2 ⟨rfl,rfl⟩
  go_wp2
  go_ret2
  exact ⟨rfl,by (repeat' (first|with_reducible exact hB|with_reducible refine Below.drew ?_|(with_reducible refine Below.setCell ?_ (by simp <;> omega) _)))⟩
set_option maxRecDepth 100000 in
set_option maxHeartbeats 2000000 in
theorem rwk_0 (a:Option Addr) (np c:Nat) (a':Option Addr) (nf c':Nat) (vc:Int) (v:Bool) (w:World) (V:Hid (∀ W,Below w.heap.size w W→Calls Tryz.prog 46 #[msv a np c a' nf c'] W fun e w'=>e=.returned (.int .i64 vc)∧Below W.heap.size W w')) (DD:Hid (∀ W,Calls Tryz.prog 47 #[.int .i64 0,.int .i64 0,.int .i64 2] W fun e w'=>e=.returned (.bool v)∧W=w')) (z:(vc != 0)=false) (y:v=true) (hm:nf≤96):Calls Tryz.prog 16 #[msv a np c a' nf c',.int .i64 0] w fun e w'=>e=.returned (.tuple #[.int .i64 ((nf:Int)*(nf:Int)*2),.int .i64 0])∧Below w.heap.size w w':=by
  have M0:=Lib.hid (mes_new w a np c a' nf c' 25)
  have B0:=Lib.hid (show Below w.heap.size w (w.alloc (msc a np c a' nf c' 25)) from (Below.refl _ w).alloc (Nat.le_refl _) _)
  obtain ⟨m0,m1,ml⟩:=M0.out
  subst y
  have hn0:0≤(nf:Int)*(nf:Int):=Int.mul_nonneg (by omega) (by omega)
  have hn1:(nf:Int)*(nf:Int)≤9216:=by have:=(mul_bd (A:=96) (B:=96) (x:=(nf:Int)) (y:=(nf:Int)) (by omega) (by omega) (by omega) (by omega)).2;omega
  go_enter Tryz.func16,Tryz.ntmps16
  go_wp2_with fail
  with_reducible refine (V.out _ B0.out).mono ?_
  rintro e w1 ⟨rfl,hb1⟩
  have M1:=Lib.hid (mes_below M0.out hb1)
  have B1:=Lib.hid (bstep B0.out hb1)
  clear hb1 m0 m1 ml
  obtain ⟨m0,m1,ml⟩:=M1.out
  go_wp2_with fail
  with_reducible refine (DD.out _).mono ?_
  rintro e w2 ⟨rfl,rfl⟩
  have hB:=B1.out
  go_wp2
  refine wp_loop_rounds 1 ?_
  rw [rounds_succ]
  go_wp2
  go_ret2
  exact ⟨rfl,by (repeat' (first|with_reducible exact hB|with_reducible refine Below.drew ?_|(with_reducible refine Below.setCell ?_ (by simp <;> omega) _)))⟩
set_option maxRecDepth 100000 in
set_option maxHeartbeats 2000000 in
theorem rwk_1 (a:Option Addr) (np c:Nat) (a':Option Addr) (nf c':Nat) (vc:Int) (v:Bool) (w:World) (V:Hid (∀ W,Below w.heap.size w W→Calls Tryz.prog 46 #[msv a np c a' nf c'] W fun e w'=>e=.returned (.int .i64 vc)∧Below W.heap.size W w')) (DD:Hid (∀ W,Calls Tryz.prog 47 #[.int .i64 1,.int .i64 0,.int .i64 2] W fun e w'=>e=.returned (.bool v)∧W=w')) (z:(vc != 0)=false) (y:v=true) (hm:nf≤96):Calls Tryz.prog 16 #[msv a np c a' nf c',.int .i64 1] w fun e w'=>e=.returned (.tuple #[.int .i64 ((nf:Int)*(nf:Int)*20),.int .i64 0])∧Below w.heap.size w w':=by
  have M0:=Lib.hid (mes_new w a np c a' nf c' 25)
  have B0:=Lib.hid (show Below w.heap.size w (w.alloc (msc a np c a' nf c' 25)) from (Below.refl _ w).alloc (Nat.le_refl _) _)
  obtain ⟨m0,m1,ml⟩:=M0.out
  subst y
  have hn0:0≤(nf:Int)*(nf:Int):=Int.mul_nonneg (by omega) (by omega)
  have hn1:(nf:Int)*(nf:Int)≤9216:=by have:=(mul_bd (A:=96) (B:=96) (x:=(nf:Int)) (y:=(nf:Int)) (by omega) (by omega) (by omega) (by omega)).2;omega
  go_enter Tryz.func16,Tryz.ntmps16
  go_wp2_with fail
  with_reducible refine (V.out _ B0.out).mono ?_
  rintro e w1 ⟨rfl,hb1⟩
  have M1:=Lib.hid (mes_below M0.out hb1)
  have B1:=Lib.hid (bstep B0.out hb1)
  clear hb1 m0 m1 ml
  obtain ⟨m0,m1,ml⟩:=M1.out
  go_wp2_with fail
  with_reducible refine (DD.out _).mono ?_
  rintro e w2 ⟨rfl,rfl⟩
  have hB:=B1.out
  go_wp2
  refine wp_loop_rounds 2 ?_
  rw [rounds_succ]
  go_wp2
  rw [rounds_succ]
  go_wp2
  go_ret2
  exact ⟨rfl,by (repeat' (first|with_reducible exact hB|with_reducible refine Below.drew ?_|(with_reducible refine Below.setCell ?_ (by simp <;> omega) _)))⟩
set_option maxRecDepth 100000 in
set_option maxHeartbeats 2000000 in
theorem rwk_2 (a:Option Addr) (np c:Nat) (a':Option Addr) (nf c':Nat) (vc:Int) (v:Bool) (w:World) (V:Hid (∀ W,Below w.heap.size w W→Calls Tryz.prog 46 #[msv a np c a' nf c'] W fun e w'=>e=.returned (.int .i64 vc)∧Below W.heap.size W w')) (DD:Hid (∀ W,Calls Tryz.prog 47 #[.int .i64 2,.int .i64 0,.int .i64 2] W fun e w'=>e=.returned (.bool v)∧W=w')) (z:(vc != 0)=false) (y:v=true) (hm:nf≤96):Calls Tryz.prog 16 #[msv a np c a' nf c',.int .i64 2] w fun e w'=>e=.returned (.tuple #[.int .i64 ((nf:Int)*(nf:Int)*272),.int .i64 0])∧Below w.heap.size w w':=by
  have M0:=Lib.hid (mes_new w a np c a' nf c' 25)
  have B0:=Lib.hid (show Below w.heap.size w (w.alloc (msc a np c a' nf c' 25)) from (Below.refl _ w).alloc (Nat.le_refl _) _)
  obtain ⟨m0,m1,ml⟩:=M0.out
  subst y
  have hn0:0≤(nf:Int)*(nf:Int):=Int.mul_nonneg (by omega) (by omega)
  have hn1:(nf:Int)*(nf:Int)≤9216:=by have:=(mul_bd (A:=96) (B:=96) (x:=(nf:Int)) (y:=(nf:Int)) (by omega) (by omega) (by omega) (by omega)).2;omega
  go_enter Tryz.func16,Tryz.ntmps16
  go_wp2_with fail
  with_reducible refine (V.out _ B0.out).mono ?_
  rintro e w1 ⟨rfl,hb1⟩
  have M1:=Lib.hid (mes_below M0.out hb1)
  have B1:=Lib.hid (bstep B0.out hb1)
  clear hb1 m0 m1 ml
  obtain ⟨m0,m1,ml⟩:=M1.out
  go_wp2_with fail
  with_reducible refine (DD.out _).mono ?_
  rintro e w2 ⟨rfl,rfl⟩
  have hB:=B1.out
  go_wp2
  refine wp_loop_rounds 3 ?_
  rw [rounds_succ]
  go_wp2
  rw [rounds_succ]
  go_wp2
  rw [rounds_succ]
  go_wp2
  go_ret2
  exact ⟨rfl,by (repeat' (first|with_reducible exact hB|with_reducible refine Below.drew ?_|(with_reducible refine Below.setCell ?_ (by simp <;> omega) _)))⟩
theorem rwk_any (a:Option Addr) (np c:Nat) (a':Option Addr) (nf c':Nat) (D:Int) (P F:Nat→P3) (w:World) (rp:Lst w a np P) (rf:Lst w a' nf F) (hn:np≤1000000) (hm:nf≤1000000) :
    Calls Tryz.prog 16 #[msv a np c a' nf c',.int .i64 D] w fun e w'=>e=.returned (.tuple #[.int .i64 (wrkR (vcode ⟨np,nf,P,F⟩) nf D).1,.int .i64 (wrkR (vcode ⟨np,nf,P,F⟩) nf D).2])∧Below w.heap.size w w':=by
  have V:=Lib.hid (fun W (B:Below w.heap.size w W)=>rval_any a np c a' nf c' P F W (lst_below rp B) (lst_below rf B) hn hm)
  have DD:=Lib.hid (fun W=>hwi_any D 0 2 W)
  unfold wrkR dpc
  by_cases z:vcode ⟨np,nf,P,F⟩=0
  · rw [if_pos z,dep_if]
    have z':(vcode ⟨np,nf,P,F⟩ != 0)=false:=by rw [z];rfl
    have nb:=(vcode_rows z).2.2.2.1
    cases e:rngB D 0 2 with
    | true =>
      rw [e] at DD
      rw [if_pos rfl,if_pos rfl]
      have:=rngB_iff.1 e
      have hd:D=0∨D=1∨D=2:=by omega
      rcases hd with rfl|rfl|rfl
      · exact rwk_0 a np c a' nf c' _ true w V DD z' rfl nb
      · exact rwk_1 a np c a' nf c' _ true w V DD z' rfl nb
      · exact rwk_2 a np c a' nf c' _ true w V DD z' rfl nb
    | false=>rw [e] at DD;rw [if_neg (by decide),if_neg (by decide)];exact rwk_n a np c a' nf c' D _ false w V DD z' rfl
  · rw [if_neg z,if_neg z]
    exact rwk_v a np c a' nf c' D _ w V (bne_iff_ne.2 z)
end Go.Proofs.YtbcjiigmbcfkeaaGreat
