import Derived.Test.YtpocbdompamnnaaMoCor
import Derived.Deep.RegionHeld3
namespace Go.Proofs.Ytpocbdompamnnaa
open Go.ChangeShapes Go.WideShapes Go.RowKit
open Sh
theorem run_max_f2 (P:Program) (w:World) (ts:Array TypeId) (t:TypeId) (x y:Int):(Builtin.max_ ts t #[.int .i64 x,.int .i64 y]).run P w=.ok (.int .i64 (mxI x y)) w:=by
  unfold mxI;exact run_max_int2 ..
theorem run_max_f4 (P:Program) (w:World) (ts:Array TypeId) (t:TypeId) (a b c d:Int):(Builtin.max_ ts t #[.int .i64 a,.int .i64 b,.int .i64 c,.int .i64 d]).run P w=.ok (.int .i64 (mxI (mxI (mxI a b) c) d)) w:=by
  unfold mxI;simp [Builtin.max_,Builtin.max2]
attribute [local go_sem 1000000] run_max_f2 run_max_f4
theorem ocode_parts {n:Nat} {Q:Nat→Ch} {p:P3} (z:ocode n Q p=0):n≤96∧BdP 64 p∧chcodes Q n=0:=by
  have hc:ccode n Q=0:=by
    unfold ocode at z
    by_cases q:ccode n Q=0
    · exact q
    · rw [if_neg q] at z;exact absurd z q
  have hp:inP 64 p=true:=by
    unfold ocode at z
    rw [if_pos hc] at z
    cases q:inP 64 p with
    | true=>rfl
    | false=>rw [q] at z;cases z
  have h9:¬ 96 < n:=fun h=>by unfold ccode at hc;rw [if_pos h] at hc;cases hc
  have hq:chcodes Q n=0:=by unfold ccode at hc;rw [if_neg h9] at hc;exact hc
  exact ⟨by omega,inP_iff.1 hp,hq⟩
theorem pw4_bd {A:Int} {u:P3} (h:BdP A u):BdP (A * A) (pw u u):=by
  obtain ⟨h1,h2,h3,h4,h5,h6⟩:=h
  have a:=fun (x y:Int) (a1:-A≤x) (a2:x≤A) (b1:-A≤y) (b2:y≤A)=>Sh.mul_bd a1 a2 b1 b2
  exact ⟨(a _ _ h1 h2 h1 h2).1,(a _ _ h1 h2 h1 h2).2,(a _ _ h3 h4 h3 h4).1,(a _ _ h3 h4 h3 h4).2,(a _ _ h5 h6 h5 h6).1,(a _ _ h5 h6 h5 h6).2⟩
def RAD (w W:World) (pb:Nat) (x y z p:P3):Prop:=Pan W pb x y z∧Own W w.heap.size p∧Below w.heap.size w W
theorem rad_below {w W v:World} {pb:Nat} {x y z p:P3} (h:RAD w W pb x y z p) (hb:Below W.heap.size W v):RAD w v pb x y z p:=⟨pan_below h.1 hb,own_below h.2.1 hb,bstep h.2.2 hb⟩
theorem rad_drew {w W:World} {pb:Nat} {x y z p:P3} (h:RAD w W pb x y z p):RAD w W.drew pb x y z p:=rad_below h (Below.drew (Below.refl _ _))
theorem pr2_no (a:Option Addr) (n cap:Nat) (p:P3) (code:Int) (w:World) (V:Hid (∀ W,Below w.heap.size w W→Calls Try.prog 80 #[.slice a n cap,ptv p] W fun e w'=>e=.returned (.int .i64 code)∧Below W.heap.size W w')) (z:code ≠ 0):Calls Try.prog 52 #[.slice a n cap,ptv p] w fun e w'=>e=.returned (.tuple #[.int .i64 0,.int .i64 code])∧Below w.heap.size w w':=by
  have z1:=int_ne0 z
  clear z
  go_enter Try.func52,Try.ntmps52
  go_wp2_with fail
  refine (V.out _ (by (repeat' (first | exact Below.refl _ _ | refine Below.setCell ?_ (by simp <;> omega) _ | refine balloc ?_ _ | refine Below.drew ?_ | refine bdrewN ?_ _)))).mono ?_
  rintro e w1 ⟨rfl,hb1⟩
  have PT:=own_below (own_new w p 38) hb1
  have B1:=Lib.hid (bstep (balloc (Below.refl _ w) _) hb1)
  clear hb1
  clear PT
  go_wp2
  go_ret2
  exact ⟨rfl,B1.out⟩
theorem rr2_no (a:Option Addr) (n cap:Nat) (p:P3) (code:Int) (w:World) (V:Hid (∀ W,Below w.heap.size w W→Calls Try.prog 108 #[.slice a n cap,ptv p] W fun e w'=>e=.returned (.int .i64 code)∧Below W.heap.size W w')) (z:code ≠ 0):Calls Try.prog 87 #[.slice a n cap,ptv p] w fun e w'=>e=.returned (.tuple #[.int .i64 0,.int .i64 code])∧Below w.heap.size w w':=by
  have z1:=int_ne0 z
  clear z
  go_enter Try.func87,Try.ntmps87
  go_wp2_with fail
  refine (V.out _ (by (repeat' (first | exact Below.refl _ _ | refine Below.setCell ?_ (by simp <;> omega) _ | refine balloc ?_ _ | refine Below.drew ?_ | refine bdrewN ?_ _)))).mono ?_
  rintro e w1 ⟨rfl,hb1⟩
  have PT:=own_below (own_new w p 38) hb1
  have B1:=Lib.hid (bstep (balloc (Below.refl _ w) _) hb1)
  clear hb1
  clear PT
  go_wp2
  go_ret2
  exact ⟨rfl,B1.out⟩
set_option maxRecDepth 100000 in
set_option maxHeartbeats 4000000 in
theorem pr2_ok (a:Option Addr) (n cap:Nat) (p:P3) (w:World) (V:Hid (∀ W,Below w.heap.size w W→Calls Try.prog 80 #[.slice a n cap,ptv p] W fun e w'=>e=.returned (.int .i64 0)∧Below W.heap.size W w')) (Q:Nat→Ch) (r:LstC w a n Q) (hn:n≤96) (hp:BdP 64 p) (hq:chcodes Q n=0):Calls Try.prog 52 #[.slice a n cap,ptv p] w fun e w'=>e=.returned (.tuple #[.int .i64 (far2 p Q n),.int .i64 0])∧Below w.heap.size w w':=by
  have R:=Lib.hid r
  have HP:=Lib.hid hp
  have HC:=Lib.hid (fun k (h:k < n)=>chcodes_all hq k h)
  have hn':(n:Int)≤96:=by omega
  clear r hp hq
  go_enter Try.func52,Try.ntmps52
  go_wp2_with fail
  refine (V.out _ (by (repeat' (first | exact Below.refl _ _ | refine Below.setCell ?_ (by simp <;> omega) _ | refine balloc ?_ _ | refine Below.drew ?_ | refine bdrewN ?_ _)))).mono ?_
  rintro e w1 ⟨rfl,hb1⟩
  have PT:=own_below (own_new w p 38) hb1
  have B1:=Lib.hid (bstep (balloc (Below.refl _ w) _) hb1)
  clear hb1
  obtain ⟨t1,t2,t3,t4,t5,t6,t7⟩:=PT
  go_wp2_with fail
  refine (abt_any p _).mono ?_
  rintro e w2 ⟨rfl,hb2⟩
  clear t1 t2 t3 t4 t5 t6 t7
  have ST:=Lib.hid (show Own (w2.alloc (ptc p 109)) w2.heap.size p∧Below w.heap.size w (w2.alloc (ptc p 109)) from ⟨own_new w2 p 109,balloc (bstep B1.out hb2) _⟩)
  clear hb2 B1
  go_wp2
  go_loopw [8,23] (fun sv kv wr=>∃ k:Nat,k≤n∧kv=.int .i64 k∧sv=.int .i64 (far2 p Q k)∧Own wr w2.heap.size p∧Below w.heap.size w wr) (fun _ kv _=>n - (intOf kv).toNat)
  case atStart=>exact ⟨0,Nat.zero_le _,rfl,rfl,ST.out⟩
  case round =>
    clear ST
    obtain ⟨k,hk,rfl,rfl,st⟩:=hrel
    have ST:=Lib.hid st
    clear st
    by_cases hlt:k < n
    · skip
      obtain ⟨b,off,rfl,rr⟩:=R.out (by omega)
      have r2:=rowC_in rr ST.out.2 rr.1
      obtain ⟨c0,c1,c2,c3,c4,c5,c6,c7,c8,c9⟩:=r2.2 k hlt
      have r5:=r2.1
      clear r2 rr
      have hk1:(k:Int) < (n:Int):=by omega
      obtain ⟨⟨h1,h2,h3⟩,hc⟩:=chcode_ok' (HC.out k hlt)
      have E:=Lib.hid (show far2 p Q (k + 1)=mxI (mxI (mxI (far2 p Q k) (sq (sub (Q k).1.1 p))) (sq (sub (Q k).1.2.1 p))) (sq (sub (Q k).1.2.2 p)) from rfl)
      have A1:=sub_bd h1 HP.out
      have A2:=sub_bd h2 HP.out
      have A3:=sub_bd h3 HP.out
      generalize Q k=q at *
      generalize far2 p Q k=m at *
      have CO:=Lib.hid (fun W=>cor_any p q.1.1 q.1.2.1 q.1.2.2 W HP.out h1 h2 h3)
      have S1:=Lib.hid (fun W=>vsc_any (sub q.1.1 p) (sub q.1.1 p) W ((pw4_bd A1).mono (by decide)))
      have S2:=Lib.hid (fun W=>vsc_any (sub q.1.2.1 p) (sub q.1.2.1 p) W ((pw4_bd A2).mono (by decide)))
      have S3:=Lib.hid (fun W=>vsc_any (sub q.1.2.2 p) (sub q.1.2.2 p) W ((pw4_bd A3).mono (by decide)))
      have E':=Lib.hid (show far2 p Q (k + 1)=mxI (mxI (mxI m (dot (sub q.1.1 p) (sub q.1.1 p))) (dot (sub q.1.2.1 p) (sub q.1.2.1 p))) (dot (sub q.1.2.2 p) (sub q.1.2.2 p)) from E.out)
      clear E
      generalize sub q.1.1 p=A at *
      generalize sub q.1.2.1 p=B at *
      generalize sub q.1.2.2 p=C at *
      generalize dot A A=s1 at *
      generalize dot B B=s2 at *
      generalize dot C C=s3 at *
      obtain ⟨t1,t2,t3,t4,t5,t6,t7⟩:=ST.out.1
      clear h1 h2 h3 hc A1 A2 A3
      go_wp2_with fail
      refine (CO.out _).mono ?_
      rintro e w3 ⟨rfl,hb3⟩
      have O3:=Lib.hid (own_below (own_alloc ST.out.1 (chb q 75)) hb3)
      have B3:=Lib.hid (bstep (balloc ST.out.2 (chb q 75)) hb3)
      clear t1 t2 t3 t4 t5 t6 t7 c0 c1 c2 c3 c4 c5 c6 c7 c8 c9 hb3 ST CO
      have j0:∀ w,(Instr.index 111 (.agg #[.int .i64 A.1,.int .i64 A.2.1,.int .i64 A.2.2,.int .i64 B.1,.int .i64 B.2.1,.int .i64 B.2.2,.int .i64 C.1,.int .i64 C.2.1,.int .i64 C.2.2]) (.int .i64 0)).run Try.prog w=.ok (ptv A) w:=fun _=>by kernel_rfl
      have j1:∀ w,(Instr.index 111 (.agg #[.int .i64 A.1,.int .i64 A.2.1,.int .i64 A.2.2,.int .i64 B.1,.int .i64 B.2.1,.int .i64 B.2.2,.int .i64 C.1,.int .i64 C.2.1,.int .i64 C.2.2]) (.int .i64 1)).run Try.prog w=.ok (ptv B) w:=fun _=>by kernel_rfl
      have j2:∀ w,(Instr.index 111 (.agg #[.int .i64 A.1,.int .i64 A.2.1,.int .i64 A.2.2,.int .i64 B.1,.int .i64 B.2.1,.int .i64 B.2.2,.int .i64 C.1,.int .i64 C.2.1,.int .i64 C.2.2]) (.int .i64 2)).run Try.prog w=.ok (ptv C) w:=fun _=>by kernel_rfl
      go_wp2_with fail
      refine wp_loop_rounds 4 ?_
      rw [rounds_succ]
      go_wp2_with fail
      refine (S1.out _).mono ?_
      rintro e w4 ⟨rfl,hb4⟩
      have O4:=Lib.hid (own_below (own_alloc O3.out (ptc A 107)) hb4)
      have B4:=Lib.hid (bstep (balloc B3.out (ptc A 107)) hb4)
      clear hb4
      go_wp2_with fail
      rw [rounds_succ]
      go_wp2_with fail
      refine (S2.out _).mono ?_
      rintro e w5 ⟨rfl,hb5⟩
      have O5:=Lib.hid (own_below (own_alloc O4.out (ptc B 107)) hb5)
      have B5:=Lib.hid (bstep (balloc B4.out (ptc B 107)) hb5)
      clear hb5
      go_wp2_with fail
      rw [rounds_succ]
      go_wp2_with fail
      refine (S3.out _).mono ?_
      rintro e w6 ⟨rfl,hb6⟩
      have O6:=Lib.hid (own_below (own_alloc O5.out (ptc C 107)) hb6)
      have B6:=Lib.hid (bstep (balloc B5.out (ptc C 107)) hb6)
      clear hb6
      go_wp2_with fail
      rw [rounds_succ]
      go_wp2_with fail
      go_roundw
      case rel=>exact ⟨k + 1,by omega,by go_num,by rw [E'.out],O6.out,B6.out⟩
      case measure=>simp [intOf];omega
    · obtain rfl:k=n:=by omega
      go_wp2
      go_ret2
      exact ⟨rfl,ST.out.2⟩
theorem rad_cells {w W:World} {pb:Nat} {x y z p:P3} (h:RAD w W pb x y z p):(W.cell? ⟨w.heap.size,0,none⟩=some (.int .i64 p.1)∧W.cell? ⟨w.heap.size,1,none⟩=some (.int .i64 p.2.1)∧W.cell? ⟨w.heap.size,2,none⟩=some (.int .i64 p.2.2))∧W.cell? ⟨pb,0,none⟩=some (.int .i64 x.1)∧W.cell? ⟨pb,1,none⟩=some (.int .i64 x.2.1)∧W.cell? ⟨pb,2,none⟩=some (.int .i64 x.2.2)∧W.cell? ⟨pb,3,none⟩=some (.int .i64 y.1)∧W.cell? ⟨pb,4,none⟩=some (.int .i64 y.2.1)∧W.cell? ⟨pb,5,none⟩=some (.int .i64 y.2.2)∧W.cell? ⟨pb,6,none⟩=some (.int .i64 z.1)∧W.cell? ⟨pb,7,none⟩=some (.int .i64 z.2.1)∧W.cell? ⟨pb,8,none⟩=some (.int .i64 z.2.2):=⟨own_cells h.2.1,pan_cells h.1⟩
set_option maxRecDepth 100000 in
set_option maxHeartbeats 4000000 in
theorem rr2_ok (a:Option Addr) (n cap:Nat) (p:P3) (w:World) (V:Hid (∀ W,Below w.heap.size w W→Calls Try.prog 108 #[.slice a n cap,ptv p] W fun e w'=>e=.returned (.int .i64 0)∧Below W.heap.size W w')) (Q:Nat→Ch) (r:LstC w a n Q) (hn:n≤96) (hp:BdP 64 p) (hq:chcodes Q n=0):Calls Try.prog 87 #[.slice a n cap,ptv p] w fun e w'=>e=.returned (.tuple #[.int .i64 (far2 p Q n),.int .i64 0])∧Below w.heap.size w w':=by
  have R:=Lib.hid r
  have HP:=Lib.hid hp
  have HC:=Lib.hid (fun k (h:k < n)=>chcodes_all hq k h)
  have hn':(n:Int)≤96:=by omega
  clear r hp hq
  go_enter Try.func87,Try.ntmps87
  go_wp2_with fail
  refine (V.out _ (by (repeat' (first | exact Below.refl _ _ | refine Below.setCell ?_ (by simp <;> omega) _ | refine balloc ?_ _ | refine Below.drew ?_ | refine bdrewN ?_ _)))).mono ?_
  rintro e w1 ⟨rfl,hb1⟩
  have PT:=own_below (own_new w p 38) hb1
  have B1:=Lib.hid (bstep (balloc (Below.refl _ w) _) hb1)
  clear hb1
  have ST:=Lib.hid (show Own w1 w.heap.size p∧Below w.heap.size w w1 from ⟨PT,B1.out⟩)
  clear PT B1
  go_wp2
  go_loopw [7,8] (fun sv kv wr=>∃ k:Nat,k≤n∧kv=.int .i64 k∧sv=.int .i64 (far2 p Q k)∧Own wr w.heap.size p∧Below w.heap.size w wr) (fun _ kv _=>n - (intOf kv).toNat)
  case atStart=>exact ⟨0,Nat.zero_le _,rfl,rfl,ST.out⟩
  case round =>
    clear ST
    rename World=>w3
    obtain ⟨k,hk,rfl,rfl,st⟩:=hrel
    have ST:=Lib.hid st
    clear st
    by_cases hlt:k < n
    · skip
      obtain ⟨b,off,rfl,rr⟩:=R.out (by omega)
      have r2:=rowC_in rr ST.out.2 rr.1
      obtain ⟨c0,c1,c2,c3,c4,c5,c6,c7,c8,c9⟩:=r2.2 k hlt
      have r5:=r2.1
      clear r2 rr
      have hk1:(k:Int) < (n:Int):=by omega
      obtain ⟨⟨h1,h2,h3⟩,hc⟩:=chcode_ok' (HC.out k hlt)
      have E:=Lib.hid (show far2 p Q (k + 1)=mxI (mxI (mxI (far2 p Q k) (sq (sub (Q k).1.1 p))) (sq (sub (Q k).1.2.1 p))) (sq (sub (Q k).1.2.2 p)) from rfl)
      have A1:=sub_bd h1 HP.out
      have A2:=sub_bd h2 HP.out
      have A3:=sub_bd h3 HP.out
      generalize Q k=q at *
      generalize far2 p Q k=m at *
      obtain ⟨⟨x,y,z⟩,qc⟩:=q
      have M1:=Lib.hid (fun W=>minus4_any x p W (A1.mono (by decide)))
      have M2:=Lib.hid (fun W=>minus4_any y p W (A2.mono (by decide)))
      have M3:=Lib.hid (fun W=>minus4_any z p W (A3.mono (by decide)))
      have S1:=Lib.hid (fun W=>square4_any (sub x p) W ((pw4_bd A1).mono (by decide)))
      have S2:=Lib.hid (fun W=>square4_any (sub y p) W ((pw4_bd A2).mono (by decide)))
      have S3:=Lib.hid (fun W=>square4_any (sub z p) W ((pw4_bd A3).mono (by decide)))
      have E':=Lib.hid (show far2 p Q (k + 1)=mxI (mxI (mxI m (sq (sub x p))) (sq (sub y p))) (sq (sub z p)) from E.out)
      clear E
      generalize sub x p=A at *
      generalize sub y p=B at *
      generalize sub z p=C at *
      generalize sq A=s1 at *
      generalize sq B=s2 at *
      generalize sq C=s3 at *
      have X0:=Lib.hid (show RAD w (w3.alloc (pnc x y z 73)) w3.heap.size x y z p from ⟨pan_new w3 x y z 73,own_alloc ST.out.1 _,balloc ST.out.2 _⟩)
      clear h1 h2 h3 hc A1 A2 A3
      go_wp2_with fail
      clear c0 c1 c2 c3 c4 c5 c6 c7 c8 c9 ST
      have X:=Lib.hid (rad_drew X0.out)
      go_region_held3 (fun w'=>(w'.cell? ⟨w.heap.size,0,none⟩=some (.int .i64 p.1)∧w'.cell? ⟨w.heap.size,1,none⟩=some (.int .i64 p.2.1)∧w'.cell? ⟨w.heap.size,2,none⟩=some (.int .i64 p.2.2))∧w'.cell? ⟨w3.heap.size,0,none⟩=some (.int .i64 x.1)∧w'.cell? ⟨w3.heap.size,1,none⟩=some (.int .i64 x.2.1)∧w'.cell? ⟨w3.heap.size,2,none⟩=some (.int .i64 x.2.2)∧w'.cell? ⟨w3.heap.size,3,none⟩=some (.int .i64 y.1)∧w'.cell? ⟨w3.heap.size,4,none⟩=some (.int .i64 y.2.1)∧w'.cell? ⟨w3.heap.size,5,none⟩=some (.int .i64 y.2.2)∧w'.cell? ⟨w3.heap.size,6,none⟩=some (.int .i64 z.1)∧w'.cell? ⟨w3.heap.size,7,none⟩=some (.int .i64 z.2.1)∧w'.cell? ⟨w3.heap.size,8,none⟩=some (.int .i64 z.2.2))
        (first | with_reducible exact rad_cells X.out | fail)
        (first | (go_at_call 71;(with_reducible refine (M1.out _).mono ?_);rintro e vv ⟨rfl,hv⟩;have X:=Lib.hid (rad_below X.out hv)) | (go_at_call 71;(with_reducible refine (M2.out _).mono ?_);rintro e vv ⟨rfl,hv⟩;have X:=Lib.hid (rad_below X.out hv)) | (go_at_call 71;(with_reducible refine (M3.out _).mono ?_);rintro e vv ⟨rfl,hv⟩;have X:=Lib.hid (rad_below X.out hv)) | (go_at_call 70;(with_reducible refine (S1.out _).mono ?_);rintro e vv ⟨rfl,hv⟩;have X:=Lib.hid (rad_below X.out hv)) | (go_at_call 70;(with_reducible refine (S2.out _).mono ?_);rintro e vv ⟨rfl,hv⟩;have X:=Lib.hid (rad_below X.out hv)) | (go_at_call 70;(with_reducible refine (S3.out _).mono ?_);rintro e vv ⟨rfl,hv⟩;have X:=Lib.hid (rad_below X.out hv)) | fail)
      all_goals
        go_wp2_with fail
        go_roundw
        case rel=>exact ⟨k + 1,by omega,by go_num,by rw [E'.out],X.out.2.1,X.out.2.2⟩
        case measure=>simp [intOf];omega
    · obtain rfl:k=n:=by omega
      go_wp2
      go_ret2
      exact ⟨rfl,ST.out.2⟩
theorem pr2_any (a:Option Addr) (n cap:Nat) (Q:Nat→Ch) (p:P3) (w:World) (r:LstC w a n Q) (hn:n≤140737488355328):Calls Try.prog 52 #[.slice a n cap,ptv p] w fun e w'=>e=.returned (.tuple #[.int .i64 (if ocode n Q p=0 then far2 p Q n else 0),.int .i64 (ocode n Q p)])∧Below w.heap.size w w':=by
  have V:=fun W (B:Below w.heap.size w W)=>chk_any a n cap Q p W (lstC_below r B) hn
  by_cases z:ocode n Q p=0
  · obtain ⟨h1,h2,h3⟩:=ocode_parts z
    rw [z] at V
    rw [if_pos z,z]
    exact pr2_ok a n cap p w (Lib.hid V) Q r h1 h2 h3
  · rw [if_neg z]
    exact pr2_no a n cap p _ w (Lib.hid V) z
theorem rr2_any (a:Option Addr) (n cap:Nat) (Q:Nat→Ch) (p:P3) (w:World) (r:LstC w a n Q) (hn:n≤140737488355328):Calls Try.prog 87 #[.slice a n cap,ptv p] w fun e w'=>e=.returned (.tuple #[.int .i64 (if ocode n Q p=0 then far2 p Q n else 0),.int .i64 (ocode n Q p)])∧Below w.heap.size w w':=by
  have V:=fun W (B:Below w.heap.size w W)=>giv_any a n cap Q p W (lstC_below r B) hn
  by_cases z:ocode n Q p=0
  · obtain ⟨h1,h2,h3⟩:=ocode_parts z
    rw [z] at V
    rw [if_pos z,z]
    exact rr2_ok a n cap p w (Lib.hid V) Q r h1 h2 h3
  · rw [if_neg z]
    exact rr2_no a n cap p _ w (Lib.hid V) z
end Go.Proofs.Ytpocbdompamnnaa
