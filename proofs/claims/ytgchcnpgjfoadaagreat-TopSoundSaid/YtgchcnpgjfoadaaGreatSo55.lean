import Derived.Test.YtgchcnpgjfoadaaGreatSo54
namespace Go.Proofs.YtgchcnpgjfoadaaGreat
open Go.ChangeShapes Go.WideShapes Go.RowKit
open Sh
attribute [local go_sem 1000000] run_min_mn run_max_mx
set_option maxRecDepth 100000 in
set_option maxHeartbeats 1000000 in
theorem q8rtk_any (n s:Int) (w:World) (h1:n≤100000000) (h2:1≤s) (h3:s≤16) :
    Calls Tryz.prog 60 #[.int .i64 n,.int .i64 s] w fun e w'=>e=.returned (.int .i64 (tkf n s:Nat))∧w=w':=by
  have LO:=Lib.hid (fun (u:Nat) (h:u < tkf n s)=>tkf_low h)
  have EN:=Lib.hid (tkf_end (n:=n) h2)
  have LE:tkf n s≤100000000:=by have:=tkf_le n s;omega
  generalize tkf n s=L at *
  go_enter Tryz.func60,Tryz.ntmps60
  go_wp2_with fail
  go_loopw [5] (fun tv wr=>∃ k:Nat,k≤L∧tv=.int .i64 k∧wr=w) (fun tv _=>L - (intOf tv).toNat)
  case atStart=>exact ⟨0,Nat.zero_le _,rfl,rfl⟩
  case round =>
    obtain ⟨k,hk,rfl,rfl⟩:=hrel
    obtain ⟨⟨b1,b2⟩,⟨b3,b4⟩,⟨b5,b6⟩,⟨b7,b8⟩,b9⟩:=tk_bd h2 h3 (Nat.le_trans hk LE)
    have hkl:(k:Int)≤100000000:=by omega
    by_cases hlt:k < L
    · have T:=LO.out k hlt
      clear LO EN
      rw [← b9] at b3 b4 T
      clear b9
      go_wp2
      go_roundw
      case rel=>exact ⟨k + 1,by omega,by go_num,by first | rfl | trivial⟩
      case measure=>simp [intOf];omega
    · obtain rfl:k=L:=by omega
      have T:=EN.out
      clear LO EN
      rw [← b9] at b3 b4 T
      clear b9
      go_wp2
      go_ret
      exact ⟨rfl,rfl⟩
def mnA (f:Nat→Int):Nat→Int
  | 0=>f 0
  | k + 1=>Sp.mn (mnA f k) (f k)
def mxA (f:Nat→Int):Nat→Int
  | 0=>f 0
  | k + 1=>Sp.mx (mxA f k) (f k)
theorem mnA_eq (f:Nat→Int):∀ k,mnA f (k + 1)=mnf f k
  | 0=>by show Sp.mn (f 0) (f 0)=f 0;rw [Sp.mn_eq];omega
  | k + 1=>by show Sp.mn (mnA f (k + 1)) (f (k + 1))=Sp.mn (mnf f k) (f (k + 1));rw [mnA_eq f k]
theorem mxA_eq (f:Nat→Int):∀ k,mxA f (k + 1)=mxf f k
  | 0=>by show Sp.mx (f 0) (f 0)=f 0;rw [Sp.mx_eq];omega
  | k + 1=>by show Sp.mx (mxA f (k + 1)) (f (k + 1))=Sp.mx (mxf f k) (f (k + 1));rw [mxA_eq f k]
set_option maxRecDepth 100000 in
set_option maxHeartbeats 4000000 in
theorem rti_v (a:Option Addr) (n c:Nat) (x:P3) (s:Int) (vc:Int) (w:World) (V:Hid (∀ W,Below w.heap.size w W→Calls Tryz.prog 38 #[.slice a n c] W fun e w'=>e=.returned (.int .i64 vc)∧Below W.heap.size W w')) (z:(vc != 0)=true):Calls Tryz.prog 17 #[.slice a n c,ptv x,.int .i64 s] w fun e w'=>e=.returned (.tuple #[.int .i64 0,.int .i64 0,.int .i64 vc])∧Below w.heap.size w w':=by
  have X0:=Lib.hid (own_new w x 24)
  have B0:=Lib.hid (show Below w.heap.size w (w.alloc (ptc x 24)) by (repeat' (first | exact Below.refl _ _ | refine Below.setCell ?_ (by simp <;> omega) _ | refine balloc ?_ _ | refine Below.drew ?_ | refine bdrewN ?_ _)))
  go_enter Tryz.func17,Tryz.ntmps17
  go_wp2_with fail
  refine (V.out _ B0.out).mono ?_
  rintro e w1 ⟨rfl,hb1⟩
  have X1:=Lib.hid (own_below X0.out hb1)
  have B1:=Lib.hid (bstep B0.out hb1)
  clear hb1 X0 B0
  have hB:=B1.out
  go_wp2
  go_ret3
  exact ⟨rfl,by (repeat' (first | with_reducible exact hB | with_reducible refine Below.drew ?_ | (with_reducible refine balloc ?_ _) | (with_reducible refine Below.setCell ?_ (by simp <;> omega) _)))⟩
set_option maxRecDepth 100000 in
set_option maxHeartbeats 4000000 in
theorem rti_a (a:Option Addr) (n c:Nat) (x:P3) (s:Int) (ac:Int) (w:World) (V:Hid (∀ W,Below w.heap.size w W→Calls Tryz.prog 38 #[.slice a n c] W fun e w'=>e=.returned (.int .i64 0)∧Below W.heap.size W w')) (A:Hid (∀ W,Calls Tryz.prog 39 #[ptv x,.int .i64 s,.int .i64 0,.int .i64 0] W fun e w'=>e=.returned (.int .i64 ac)∧Below W.heap.size W w')) (z:(ac != 0)=true):Calls Tryz.prog 17 #[.slice a n c,ptv x,.int .i64 s] w fun e w'=>e=.returned (.tuple #[.int .i64 0,.int .i64 0,.int .i64 ac])∧Below w.heap.size w w':=by
  have X0:=Lib.hid (own_new w x 24)
  have B0:=Lib.hid (show Below w.heap.size w (w.alloc (ptc x 24)) by (repeat' (first | exact Below.refl _ _ | refine Below.setCell ?_ (by simp <;> omega) _ | refine balloc ?_ _ | refine Below.drew ?_ | refine bdrewN ?_ _)))
  go_enter Tryz.func17,Tryz.ntmps17
  go_wp2_with fail
  refine (V.out _ B0.out).mono ?_
  rintro e w1 ⟨rfl,hb1⟩
  have X1:=Lib.hid (own_below X0.out hb1)
  have B1:=Lib.hid (bstep B0.out hb1)
  clear hb1 X0 B0
  obtain ⟨x0,x1,x2⟩:=own_cells X1.out
  go_wp2_with fail
  refine (A.out _).mono ?_
  rintro e w2 ⟨rfl,hb2⟩
  have X2:=Lib.hid (own_below X1.out hb2)
  have B2:=Lib.hid (bstep B1.out hb2)
  clear x0 x1 x2 hb2 X1 B1
  have hB:=B2.out
  go_wp2
  go_ret3
  exact ⟨rfl,by (repeat' (first | with_reducible exact hB | with_reducible refine Below.drew ?_ | (with_reducible refine balloc ?_ _) | (with_reducible refine Below.setCell ?_ (by simp <;> omega) _)))⟩
set_option maxRecDepth 100000 in
set_option maxHeartbeats 4000000 in
theorem rti_n (a:Option Addr) (c:Nat) (x:P3) (s:Int) (w:World) (V:Hid (∀ W,Below w.heap.size w W→Calls Tryz.prog 38 #[.slice a 0 c] W fun e w'=>e=.returned (.int .i64 0)∧Below W.heap.size W w')) (A:Hid (∀ W,Calls Tryz.prog 39 #[ptv x,.int .i64 s,.int .i64 0,.int .i64 0] W fun e w'=>e=.returned (.int .i64 0)∧Below W.heap.size W w')):Calls Tryz.prog 17 #[.slice a 0 c,ptv x,.int .i64 s] w fun e w'=>e=.returned (.tuple #[.int .i64 0,.int .i64 0,.int .i64 5])∧Below w.heap.size w w':=by
  have X0:=Lib.hid (own_new w x 24)
  have B0:=Lib.hid (show Below w.heap.size w (w.alloc (ptc x 24)) by (repeat' (first | exact Below.refl _ _ | refine Below.setCell ?_ (by simp <;> omega) _ | refine balloc ?_ _ | refine Below.drew ?_ | refine bdrewN ?_ _)))
  go_enter Tryz.func17,Tryz.ntmps17
  go_wp2_with fail
  refine (V.out _ B0.out).mono ?_
  rintro e w1 ⟨rfl,hb1⟩
  have X1:=Lib.hid (own_below X0.out hb1)
  have B1:=Lib.hid (bstep B0.out hb1)
  clear hb1 X0 B0
  obtain ⟨x0,x1,x2⟩:=own_cells X1.out
  go_wp2_with fail
  refine (A.out _).mono ?_
  rintro e w2 ⟨rfl,hb2⟩
  have X2:=Lib.hid (own_below X1.out hb2)
  have B2:=Lib.hid (bstep B1.out hb2)
  clear x0 x1 x2 hb2 X1 B1
  have hB:=B2.out
  go_wp2
  go_ret3
  exact ⟨rfl,by (repeat' (first | with_reducible exact hB | with_reducible refine Below.drew ?_ | (with_reducible refine balloc ?_ _) | (with_reducible refine Below.setCell ?_ (by simp <;> omega) _)))⟩
set_option maxRecDepth 100000 in
set_option maxHeartbeats 4000000 in
theorem rti_ok (a:Option Addr) (n c:Nat) (x:P3) (s:Int) (f g:Nat→Int) (w:World) (V:Hid (∀ W,Below w.heap.size w W→Calls Tryz.prog 38 #[.slice a n c] W fun e w'=>e=.returned (.int .i64 0)∧Below W.heap.size W w')) (A:Hid (∀ W,Calls Tryz.prog 39 #[ptv x,.int .i64 s,.int .i64 0,.int .i64 0] W fun e w'=>e=.returned (.int .i64 0)∧Below W.heap.size W w')) (h0:0 < n) (hn:n≤16)
    (TM:Hid (∀ W,Below w.heap.size w W→Calls Tryz.prog 40 #[.slice a n c,ptv x,.int .i64 s] W fun e w'=>∃ v1 v2,e=.returned (.tuple #[v1,v2])∧RT w' W.heap.size f g v1 n v2 n∧Below W.heap.size W w')) :
    Calls Tryz.prog 17 #[.slice a n c,ptv x,.int .i64 s] w fun e w'=>e=.returned (.tuple #[.int .i64 (mnA f n),.int .i64 (mxA g n),.int .i64 0])∧Below w.heap.size w w':=by
  have hn1:(n:Int) ≠ 0:=by omega
  have hn2:(0:Int) < (n:Int):=by omega
  have X0:=Lib.hid (own_new w x 24)
  have B0:=Lib.hid (show Below w.heap.size w (w.alloc (ptc x 24)) by (repeat' (first | exact Below.refl _ _ | refine Below.setCell ?_ (by simp <;> omega) _ | refine balloc ?_ _ | refine Below.drew ?_ | refine bdrewN ?_ _)))
  go_enter Tryz.func17,Tryz.ntmps17
  go_wp2_with fail
  refine (V.out _ B0.out).mono ?_
  rintro e w1 ⟨rfl,hb1⟩
  have X1:=Lib.hid (own_below X0.out hb1)
  have B1:=Lib.hid (bstep B0.out hb1)
  clear hb1 X0 B0
  obtain ⟨x0,x1,x2⟩:=own_cells X1.out
  go_wp2_with fail
  refine (A.out _).mono ?_
  rintro e w2 ⟨rfl,hb2⟩
  have X2:=Lib.hid (own_below X1.out hb2)
  have B2:=Lib.hid (bstep B1.out hb2)
  clear x0 x1 x2 hb2 X1 B1
  obtain ⟨x0,x1,x2⟩:=own_cells X2.out
  go_wp2_with fail
  with_reducible refine (TM.out _ B2.out).mono ?_
  rintro e w3 ⟨v1,v2,rfl,rt,hb3⟩
  obtain ⟨q1,p1,rfl,_,r1⟩:=rwi_of rt.1 h0
  obtain ⟨q2,p2,rfl,_,r2⟩:=rwi_of rt.2.1 h0
  have R1:=Lib.hid r1
  have R2:=Lib.hid r2
  have B3:=Lib.hid (bstep B2.out hb3)
  clear x0 x1 x2 hb3 rt X2 B2
  have c1:=r1.2 0 h0
  have c2:=r2.2 0 h0
  have z1:=r1.1
  have z2:=r2.1
  clear r1 r2
  go_upto_region 10 with fail
  go_cut [12,13] (fun t12 t13 wx=>t12=.int .i64 (f 0)∧t13=.int .i64 (g 0)∧Below w3.heap.size w3 wx)
  case first =>
    go_region
    all_goals
      go_wp2
      go_meet
      exact ⟨rfl,rfl,by (repeat' (first | exact Below.refl _ _ | refine Below.drew ?_ | refine bdrewN ?_ _))⟩
  case rest =>
    obtain ⟨rfl,rfl,hbc⟩:=hcut
    have BC:=Lib.hid hbc
    clear c1 c2 z1 z2 hbc
    go_wp2
    go_loopw [12,13,14] (fun t12 t13 kv wr=>∃ k:Nat,k≤n∧kv=.int .i64 k∧t12=.int .i64 (mnA f k)∧t13=.int .i64 (mxA g k)∧Below w3.heap.size w3 wr) (fun _ _ kv _=>n - (intOf kv).toNat)
    case atStart=>exact ⟨0,Nat.zero_le _,rfl,rfl,rfl,BC.out⟩
    case round =>
      obtain ⟨k,hk,rfl,rfl,rfl,hbb⟩:=hrel
      have BB:=Lib.hid hbb
      by_cases hlt:k < n
      · have hk1:(k:Int) < (n:Int):=by omega
        have c1:=(hbb.cell (p:=⟨q1,k,none⟩) R1.out.1).trans (R1.out.2 k hlt)
        have c2:=(hbb.cell (p:=⟨q2,k,none⟩) R2.out.1).trans (R2.out.2 k hlt)
        have E1:=Lib.hid (show mnA f (k + 1)=Sp.mn (mnA f k) (f k)∧mxA g (k + 1)=Sp.mx (mxA g k) (g k) from ⟨rfl,rfl⟩)
        clear hbb
        generalize f k=fk at *
        generalize g k=gk at *
        generalize mnA f k=u at *
        generalize mxA g k=v at *
        go_wp2
        go_roundw
        case rel=>exact ⟨k + 1,by omega,by go_num,by rw [E1.out.1],by rw [E1.out.2],BB.out⟩
        case measure=>simp [intOf];omega
      · obtain rfl:k=n:=by omega
        have hB:=B3.out.trans (BB.out.mono B3.out.size)
        clear hbb
        go_wp2
        go_ret3
        exact ⟨rfl,by (repeat' (first | with_reducible exact hB | with_reducible refine Below.drew ?_ | (with_reducible refine balloc ?_ _) | (with_reducible refine Below.setCell ?_ (by simp <;> omega) _)))⟩
theorem tms_any (a:Option Addr) (n c:Nat) (Q:Nat→Pu) (x:P3) (s:Int) (w:World) (rr:LstU w a n Q) (hn:n≤16) (hp:∀ k,k < n→pucode (Q k)=0) (hx:BdP 256 x) (s1:1≤s) (s2:s≤16) :
    Calls Tryz.prog 40 #[.slice a n c,ptv x,.int .i64 s] w fun e w'=>∃ v1 v2,e=.returned (.tuple #[v1,v2])∧RT w' w.heap.size (fT Q x s) (gT Q x s) v1 n v2 n∧Below w.heap.size w w':=by
  have bd:=fun k (hk:k < n)=>pucode_ok (hp k hk)
  have nf:=fun k (hk:k < n)=>dist_bd (bd k hk).1 hx
  refine tms_walk a n c x s Q (fT Q x s) (gT Q x s) (fun k=>nearN (Q k).1 x) (fun k=>farN (Q k).1 x) (fun k=>(tkf (nearN (Q k).1 x) s:Nat)) (fun k=>(tkf (farN (Q k).1 x) s:Nat)) w rr hn
    (Lib.hid fun k hk W=>rnear8_any (Q k).1 x W ((bd k hk).1.mono (by decide)) (hx.mono (by decide))) (Lib.hid fun k hk W=>rfar8_any (Q k).1 x W ((bd k hk).1.mono (by decide)) (hx.mono (by decide)))
    (Lib.hid fun k hk W=>(q8rtk_any _ s W (by have:=(nf k hk).1.2;omega) s1 s2).mono fun e w' ⟨h,e2⟩=>⟨h,e2 ▸ Below.refl _ _⟩) (Lib.hid fun k hk W=>(q8rtk_any _ s W (by have:=(nf k hk).2.2;omega) s1 s2).mono fun e w' ⟨h,e2⟩=>⟨h,e2 ▸ Below.refl _ _⟩)
    (Lib.hid fun k hk=>?_)
  have l1:=tkf_le (nearN (Q k).1 x) s
  have l2:=tkf_le (farN (Q k).1 x) s
  obtain ⟨⟨n1,n2⟩,n3,n4⟩:=nf k hk
  obtain ⟨_,_,⟨a1,a2⟩,_⟩:=bd k hk
  exact ⟨rfl,rfl,a1,a2,by omega,by omega,by omega,by omega⟩
theorem rtic_any (a:Option Addr) (n c:Nat) (Q:Nat→Pu) (x:P3) (s:Int) (w:World) (rr:LstU w a n Q) (hn:n≤140737488355328):Calls Tryz.prog 17 #[.slice a n c,ptv x,.int .i64 s] w fun e w'=>e=.returned (.tuple #[.int .i64 (tk1 n Q x s),.int .i64 (tk2 n Q x s),.int .i64 (tkE n Q x s)])∧Below w.heap.size w w':=by
  have V:=fun W (B:Below w.heap.size w W)=>rsvp_any a n c Q W (lstU_below rr B) hn
  have A:=fun W=>ask_any x s 0 0 W
  unfold tk1 tk2 tkE
  by_cases z:mcT n Q x s=0
  · have z9:=z
    unfold mcT at z9
    have zv:vpcode n Q=0:=by
      by_cases y:vpcode n Q=0
      · exact y
      · rw [if_neg y] at z9;exact absurd z9 y
    rw [if_pos zv] at z9
    rw [if_pos z]
    rw [zv] at V
    rw [z9] at A
    obtain ⟨⟨h16,hp⟩,hx,s1,s2⟩:=mcT_ok z
    by_cases y:n=0
    · subst y
      rw [if_pos rfl,if_neg (by decide),if_neg (by decide)]
      exact rti_n a c x s w (Lib.hid V) (Lib.hid A)
    · rw [if_neg y,if_pos rfl,if_pos rfl]
      have e:n - 1 + 1=n:=by omega
      have e1:=mnA_eq (fT Q x s) (n - 1)
      have e2:=mxA_eq (gT Q x s) (n - 1)
      rw [e] at e1 e2
      rw [← e1,← e2]
      exact rti_ok a n c x s (fT Q x s) (gT Q x s) w (Lib.hid V) (Lib.hid A) (by omega) h16 (Lib.hid fun W B=>tms_any a n c Q x s W (lstU_below rr B) h16 hp hx s1 s2)
  · simp only [if_neg z]
    have z9:=z
    unfold mcT at z9
    by_cases zv:vpcode n Q=0
    · rw [if_pos zv] at z9
      rw [zv] at V
      rw [show mcT n Q x s=acode8 x s 0 0 from if_pos zv]
      exact rti_a a n c x s _ w (Lib.hid V) (Lib.hid A) (bne_iff_ne.2 z9)
    · rw [show mcT n Q x s=vpcode n Q from if_neg zv]
      exact rti_v a n c x s _ w (Lib.hid V) (bne_iff_ne.2 zv)
end Go.Proofs.YtgchcnpgjfoadaaGreat
