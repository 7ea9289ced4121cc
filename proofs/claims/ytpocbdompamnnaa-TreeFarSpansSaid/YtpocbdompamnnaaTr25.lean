import Derived.Test.YtpocbdompamnnaaTr24
namespace Go.Proofs.Ytpocbdompamnnaa
open Go.ChangeShapes Go.WideShapes Go.RowKit
open Sh
set_option maxRecDepth 100000 in
set_option maxHeartbeats 4000000 in
theorem reach5 (a b:Ni) (w:World) (h:ballB a=true) (k:ballB b=true):Calls Try.prog 37 #[niv a,niv b] w fun e w'=>e=.returned (.tuple #[.int .i64 (nearD a b),.int .i64 (farD a b),.int .i64 0])∧Below w.heap.size w w':=by
  have x:=ball5 h
  have y:=ball5 k
  have z:=sq5 (sub5 x.2.2 y.2.2)
  have q1:=rt_bd z.1 (by omega)
  have q2:=rt_bd x.1 (by omega)
  have q3:=rt_bd y.1 (by omega)
  have l1:=len5 z.1 (by omega)
  have l2:=len5 x.1 (by omega)
  have l3:=len5 y.1 (by omega)
  have key:∀ p q r r' t t':Int,lenR (sq (sub a.2.2.2.2.1 b.2.2.2.2.1))=((p,q),0)→lenR a.2.2.2.2.2=((r,r'),0)→lenR b.2.2.2.2.2=((t,t'),0)→0≤p→p≤1099511627776→0≤q→q≤1099511627776→0≤r'→r'≤1099511627776→0≤t'→t'≤1099511627776 →
      Calls Try.prog 37 #[niv a,niv b] w fun e w'=>e=.returned (.tuple #[.int .i64 (p - (r' + t')),.int .i64 (q + (r' + t')),.int .i64 0])∧Below w.heap.size w w':=fun p q r r' t t' h1 h2 h3 p1 p2 p3 p4 p5 p6 p7 p8 =>
    reach_any a b (p,q) (r,r') (t,t') w (x.2.2.mono (by decide)) (y.2.2.mono (by decide)) h1 h2 h3 ⟨p1,p2,p3,p4⟩ ⟨p5,p6⟩ ⟨p7,p8⟩
  exact key _ _ _ _ _ _ l1 l2 l3 (by omega) (by omega) (by omega) (by omega) (by omega) (by omega) (by omega) (by omega)
set_option maxRecDepth 100000 in
set_option maxHeartbeats 4000000 in
theorem fs_no1 (a b:Ni) (w:World) (BA:Hid (∀ W,Calls Try.prog 36 #[niv a] W fun e w'=>e=.returned (.bool false)∧Below W.heap.size W w')):Calls Try.prog 19 #[niv a,niv b] w fun e w'=>e=.returned (spr ((0,0),1))∧Below w.heap.size w w':=by
  obtain ⟨a1,a2,a3,a4,⟨a5,a6,a7⟩,a8⟩:=a
  obtain ⟨b1,b2,b3,b4,⟨b5,b6,b7⟩,b8⟩:=b
  go_enter Try.func19,Try.ntmps19
  go_wp2_with fail
  have G0:=Lib.hid (ndB_below (ndB_new w (a1,a2,a3,a4,(a5,a6,a7),a8) (nib (b1,b2,b3,b4,(b5,b6,b7),b8) 44)) ((Below.refl _ _).alloc (Nat.le_refl _) (.cells #[.int .i64 0,.int .i64 0] 47)))
  have G1:=Lib.hid (ndB_below (ndB_new1 (w.alloc (nib (a1,a2,a3,a4,(a5,a6,a7),a8) 44)) (b1,b2,b3,b4,(b5,b6,b7),b8) (w.heap.size + 1) (by simp)) ((Below.refl _ _).alloc (Nat.le_refl _) (.cells #[.int .i64 0,.int .i64 0] 47)))
  have P:=Lib.hid (show Pair (((w.alloc (nib (a1,a2,a3,a4,(a5,a6,a7),a8) 44)).alloc (nib (b1,b2,b3,b4,(b5,b6,b7),b8) 44)).alloc (.cells #[.int .i64 0,.int .i64 0] 47)) (w.heap.size + 1 + 1) 0 0 by have z:=pair_new ((w.alloc (nib (a1,a2,a3,a4,(a5,a6,a7),a8) 44)).alloc (nib (b1,b2,b3,b4,(b5,b6,b7),b8) 44)) 0 0 47;simpa using z)
  have W0:=Lib.hid (show Below w.heap.size w (((w.alloc (nib (a1,a2,a3,a4,(a5,a6,a7),a8) 44)).alloc (nib (b1,b2,b3,b4,(b5,b6,b7),b8) 44)).alloc (.cells #[.int .i64 0,.int .i64 0] 47)) from (((Below.refl _ w).alloc (Nat.le_refl _) _).alloc (by simp) _).alloc (by simp <;> omega) _)
  refine (BA.out _).mono ?_
  rintro e w1 ⟨rfl,hb1⟩
  have F0:=Lib.hid (ndB_below G0.out hb1)
  have F1:=Lib.hid (ndB_below G1.out hb1)
  have W1:=Lib.hid (bstep W0.out hb1)
  have P':=Lib.hid (pair_below P.out hb1)
  clear G0 G1 W0 hb1 P
  have G0:=F0
  have G1:=F1
  have P:=P'
  clear F0 F1 P'
  obtain ⟨z0,z1,z2,z3,z4⟩:=P.out
  go_wp2
  have hB:=W1.out
  refine bodyPost_ret (v:=spr ((0,0),1)) (by rw [results_cell_tmp rfl];go_simp) rfl ⟨rfl,?_⟩
  (repeat' (first | with_reducible exact hB | exact hB | refine Below.setCell ?_ (by simp <;> omega) _ | refine balloc ?_ _ | refine Below.drew ?_ | refine bdrewN ?_ _))
set_option maxRecDepth 100000 in
set_option maxHeartbeats 4000000 in
theorem fs_no2 (a b:Ni) (w:World) (BA:Hid (∀ W,Calls Try.prog 36 #[niv a] W fun e w'=>e=.returned (.bool true)∧Below W.heap.size W w')) (BB:Hid (∀ W,Calls Try.prog 36 #[niv b] W fun e w'=>e=.returned (.bool false)∧Below W.heap.size W w')):Calls Try.prog 19 #[niv a,niv b] w fun e w'=>e=.returned (spr ((0,0),1))∧Below w.heap.size w w':=by
  obtain ⟨a1,a2,a3,a4,⟨a5,a6,a7⟩,a8⟩:=a
  obtain ⟨b1,b2,b3,b4,⟨b5,b6,b7⟩,b8⟩:=b
  go_enter Try.func19,Try.ntmps19
  go_wp2_with fail
  have G0:=Lib.hid (ndB_below (ndB_new w (a1,a2,a3,a4,(a5,a6,a7),a8) (nib (b1,b2,b3,b4,(b5,b6,b7),b8) 44)) ((Below.refl _ _).alloc (Nat.le_refl _) (.cells #[.int .i64 0,.int .i64 0] 47)))
  have G1:=Lib.hid (ndB_below (ndB_new1 (w.alloc (nib (a1,a2,a3,a4,(a5,a6,a7),a8) 44)) (b1,b2,b3,b4,(b5,b6,b7),b8) (w.heap.size + 1) (by simp)) ((Below.refl _ _).alloc (Nat.le_refl _) (.cells #[.int .i64 0,.int .i64 0] 47)))
  have P:=Lib.hid (show Pair (((w.alloc (nib (a1,a2,a3,a4,(a5,a6,a7),a8) 44)).alloc (nib (b1,b2,b3,b4,(b5,b6,b7),b8) 44)).alloc (.cells #[.int .i64 0,.int .i64 0] 47)) (w.heap.size + 1 + 1) 0 0 by have z:=pair_new ((w.alloc (nib (a1,a2,a3,a4,(a5,a6,a7),a8) 44)).alloc (nib (b1,b2,b3,b4,(b5,b6,b7),b8) 44)) 0 0 47;simpa using z)
  have W0:=Lib.hid (show Below w.heap.size w (((w.alloc (nib (a1,a2,a3,a4,(a5,a6,a7),a8) 44)).alloc (nib (b1,b2,b3,b4,(b5,b6,b7),b8) 44)).alloc (.cells #[.int .i64 0,.int .i64 0] 47)) from (((Below.refl _ w).alloc (Nat.le_refl _) _).alloc (by simp) _).alloc (by simp <;> omega) _)
  refine (BA.out _).mono ?_
  rintro e w1 ⟨rfl,hb1⟩
  have F0:=Lib.hid (ndB_below G0.out hb1)
  have F1:=Lib.hid (ndB_below G1.out hb1)
  have W1:=Lib.hid (bstep W0.out hb1)
  have P':=Lib.hid (pair_below P.out hb1)
  clear G0 G1 W0 hb1 P
  have G0:=F0
  have G1:=F1
  have P:=P'
  clear F0 F1 P'
  obtain ⟨x0,x1,x2,x3,x4,x5,x6,x7⟩:=ndB_cells G0.out
  obtain ⟨y0,y1,y2,y3,y4,y5,y6,y7⟩:=ndB_cells G1.out
  dsimp only at x0 y0 x1 y1 x2 y2 x3 y3 x4 y4 x5 y5 x6 y6 x7 y7
  go_wp2_with fail
  clear x0 y0 x1 y1 x2 y2 x3 y3 x4 y4 x5 y5 x6 y6 x7 y7
  refine (BB.out _).mono ?_
  rintro e w2 ⟨rfl,hb2⟩
  have F0:=Lib.hid (ndB_below G0.out hb2)
  have F1:=Lib.hid (ndB_below G1.out hb2)
  have W2:=Lib.hid (bstep W1.out hb2)
  have P':=Lib.hid (pair_below P.out hb2)
  clear G0 G1 W1 hb2 P
  have G0:=F0
  have G1:=F1
  have P:=P'
  clear F0 F1 P'
  obtain ⟨z0,z1,z2,z3,z4⟩:=P.out
  go_wp2
  have hB:=W2.out
  refine bodyPost_ret (v:=spr ((0,0),1)) (by rw [results_cell_tmp rfl];go_simp) rfl ⟨rfl,?_⟩
  (repeat' (first | with_reducible exact hB | exact hB | refine Below.setCell ?_ (by simp <;> omega) _ | refine balloc ?_ _ | refine Below.drew ?_ | refine bdrewN ?_ _))
set_option maxRecDepth 100000 in
set_option maxHeartbeats 4000000 in
theorem fs_near (a b:Ni) (near far:Int) (w:World) (hn:near≤0) (BA:Hid (∀ W,Calls Try.prog 36 #[niv a] W fun e w'=>e=.returned (.bool true)∧Below W.heap.size W w')) (BB:Hid (∀ W,Calls Try.prog 36 #[niv b] W fun e w'=>e=.returned (.bool true)∧Below W.heap.size W w')) (RR:Hid (∀ W,Calls Try.prog 37 #[niv a,niv b] W fun e w'=>e=.returned (.tuple #[.int .i64 near,.int .i64 far,.int .i64 0])∧Below W.heap.size W w')):Calls Try.prog 19 #[niv a,niv b] w fun e w'=>e=.returned (spr ((0,0),10))∧Below w.heap.size w w':=by
  obtain ⟨a1,a2,a3,a4,⟨a5,a6,a7⟩,a8⟩:=a
  obtain ⟨b1,b2,b3,b4,⟨b5,b6,b7⟩,b8⟩:=b
  go_enter Try.func19,Try.ntmps19
  go_wp2_with fail
  have G0:=Lib.hid (ndB_below (ndB_new w (a1,a2,a3,a4,(a5,a6,a7),a8) (nib (b1,b2,b3,b4,(b5,b6,b7),b8) 44)) ((Below.refl _ _).alloc (Nat.le_refl _) (.cells #[.int .i64 0,.int .i64 0] 47)))
  have G1:=Lib.hid (ndB_below (ndB_new1 (w.alloc (nib (a1,a2,a3,a4,(a5,a6,a7),a8) 44)) (b1,b2,b3,b4,(b5,b6,b7),b8) (w.heap.size + 1) (by simp)) ((Below.refl _ _).alloc (Nat.le_refl _) (.cells #[.int .i64 0,.int .i64 0] 47)))
  have P:=Lib.hid (show Pair (((w.alloc (nib (a1,a2,a3,a4,(a5,a6,a7),a8) 44)).alloc (nib (b1,b2,b3,b4,(b5,b6,b7),b8) 44)).alloc (.cells #[.int .i64 0,.int .i64 0] 47)) (w.heap.size + 1 + 1) 0 0 by have z:=pair_new ((w.alloc (nib (a1,a2,a3,a4,(a5,a6,a7),a8) 44)).alloc (nib (b1,b2,b3,b4,(b5,b6,b7),b8) 44)) 0 0 47;simpa using z)
  have W0:=Lib.hid (show Below w.heap.size w (((w.alloc (nib (a1,a2,a3,a4,(a5,a6,a7),a8) 44)).alloc (nib (b1,b2,b3,b4,(b5,b6,b7),b8) 44)).alloc (.cells #[.int .i64 0,.int .i64 0] 47)) from (((Below.refl _ w).alloc (Nat.le_refl _) _).alloc (by simp) _).alloc (by simp <;> omega) _)
  refine (BA.out _).mono ?_
  rintro e w1 ⟨rfl,hb1⟩
  have F0:=Lib.hid (ndB_below G0.out hb1)
  have F1:=Lib.hid (ndB_below G1.out hb1)
  have W1:=Lib.hid (bstep W0.out hb1)
  have P':=Lib.hid (pair_below P.out hb1)
  clear G0 G1 W0 hb1 P
  have G0:=F0
  have G1:=F1
  have P:=P'
  clear F0 F1 P'
  obtain ⟨x0,x1,x2,x3,x4,x5,x6,x7⟩:=ndB_cells G0.out
  obtain ⟨y0,y1,y2,y3,y4,y5,y6,y7⟩:=ndB_cells G1.out
  dsimp only at x0 y0 x1 y1 x2 y2 x3 y3 x4 y4 x5 y5 x6 y6 x7 y7
  go_wp2_with fail
  clear x0 y0 x1 y1 x2 y2 x3 y3 x4 y4 x5 y5 x6 y6 x7 y7
  refine (BB.out _).mono ?_
  rintro e w2 ⟨rfl,hb2⟩
  have F0:=Lib.hid (ndB_below G0.out hb2)
  have F1:=Lib.hid (ndB_below G1.out hb2)
  have W2:=Lib.hid (bstep W1.out hb2)
  have P':=Lib.hid (pair_below P.out hb2)
  clear G0 G1 W1 hb2 P
  have G0:=F0
  have G1:=F1
  have P:=P'
  clear F0 F1 P'
  obtain ⟨x0,x1,x2,x3,x4,x5,x6,x7⟩:=ndB_cells G0.out
  obtain ⟨y0,y1,y2,y3,y4,y5,y6,y7⟩:=ndB_cells G1.out
  dsimp only at x0 y0 x1 y1 x2 y2 x3 y3 x4 y4 x5 y5 x6 y6 x7 y7
  go_wp2_with fail
  clear x0 y0 x1 y1 x2 y2 x3 y3 x4 y4 x5 y5 x6 y6 x7 y7
  refine (RR.out _).mono ?_
  rintro e w3 ⟨rfl,hb3⟩
  have F0:=Lib.hid (ndB_below G0.out hb3)
  have F1:=Lib.hid (ndB_below G1.out hb3)
  have W3:=Lib.hid (bstep W2.out hb3)
  have P':=Lib.hid (pair_below P.out hb3)
  clear G0 G1 W2 hb3 P
  have G0:=F0
  have G1:=F1
  have P:=P'
  clear F0 F1 P'
  obtain ⟨z0,z1,z2,z3,z4⟩:=P.out
  go_wp2
  have hB:=W3.out
  refine bodyPost_ret (v:=spr ((0,0),10)) (by rw [results_cell_tmp rfl];go_simp) rfl ⟨rfl,?_⟩
  (repeat' (first | with_reducible exact hB | exact hB | refine Below.setCell ?_ (by simp <;> omega) _ | refine balloc ?_ _ | refine Below.drew ?_ | refine bdrewN ?_ _))
set_option maxRecDepth 100000 in
set_option maxHeartbeats 4000000 in
theorem fs_far (a b:Ni) (near far l1 l2 m1 m2:Int) (r1 r2:Int) (w:World) (hn:0 < near) (BA:Hid (∀ W,Calls Try.prog 36 #[niv a] W fun e w'=>e=.returned (.bool true)∧Below W.heap.size W w')) (BB:Hid (∀ W,Calls Try.prog 36 #[niv b] W fun e w'=>e=.returned (.bool true)∧Below W.heap.size W w')) (RR:Hid (∀ W,Calls Try.prog 37 #[niv a,niv b] W fun e w'=>e=.returned (.tuple #[.int .i64 near,.int .i64 far,.int .i64 0])∧Below W.heap.size W w'))
    (Q1:Hid (∀ W,Calls Try.prog 38 #[.int .i64 1048576,.int .i64 far] W fun e w'=>e=.returned (spr ((l1,l2),0))∧Below W.heap.size W w')) (Q2:Hid (∀ W,Calls Try.prog 38 #[.int .i64 1048576,.int .i64 near] W fun e w'=>e=.returned (spr ((m1,m2),0))∧Below W.heap.size W w')) (HH:Hid (∀ W,Calls Try.prog 39 #[spv l1 l2,spv m1 m2] W fun e w'=>e=.returned (spr ((r1,r2),0))∧Below W.heap.size W w')):Calls Try.prog 19 #[niv a,niv b] w fun e w'=>e=.returned (spr ((r1,r2),0))∧Below w.heap.size w w':=by
  obtain ⟨a1,a2,a3,a4,⟨a5,a6,a7⟩,a8⟩:=a
  obtain ⟨b1,b2,b3,b4,⟨b5,b6,b7⟩,b8⟩:=b
  go_enter Try.func19,Try.ntmps19
  go_wp2_with fail
  have G0:=Lib.hid (ndB_below (ndB_new w (a1,a2,a3,a4,(a5,a6,a7),a8) (nib (b1,b2,b3,b4,(b5,b6,b7),b8) 44)) ((Below.refl _ _).alloc (Nat.le_refl _) (.cells #[.int .i64 0,.int .i64 0] 47)))
  have G1:=Lib.hid (ndB_below (ndB_new1 (w.alloc (nib (a1,a2,a3,a4,(a5,a6,a7),a8) 44)) (b1,b2,b3,b4,(b5,b6,b7),b8) (w.heap.size + 1) (by simp)) ((Below.refl _ _).alloc (Nat.le_refl _) (.cells #[.int .i64 0,.int .i64 0] 47)))
  have P:=Lib.hid (show Pair (((w.alloc (nib (a1,a2,a3,a4,(a5,a6,a7),a8) 44)).alloc (nib (b1,b2,b3,b4,(b5,b6,b7),b8) 44)).alloc (.cells #[.int .i64 0,.int .i64 0] 47)) (w.heap.size + 1 + 1) 0 0 by have z:=pair_new ((w.alloc (nib (a1,a2,a3,a4,(a5,a6,a7),a8) 44)).alloc (nib (b1,b2,b3,b4,(b5,b6,b7),b8) 44)) 0 0 47;simpa using z)
  have W0:=Lib.hid (show Below w.heap.size w (((w.alloc (nib (a1,a2,a3,a4,(a5,a6,a7),a8) 44)).alloc (nib (b1,b2,b3,b4,(b5,b6,b7),b8) 44)).alloc (.cells #[.int .i64 0,.int .i64 0] 47)) from (((Below.refl _ w).alloc (Nat.le_refl _) _).alloc (by simp) _).alloc (by simp <;> omega) _)
  refine (BA.out _).mono ?_
  rintro e w1 ⟨rfl,hb1⟩
  have F0:=Lib.hid (ndB_below G0.out hb1)
  have F1:=Lib.hid (ndB_below G1.out hb1)
  have W1:=Lib.hid (bstep W0.out hb1)
  have P':=Lib.hid (pair_below P.out hb1)
  clear G0 G1 W0 hb1 P
  have G0:=F0
  have G1:=F1
  have P:=P'
  clear F0 F1 P'
  obtain ⟨x0,x1,x2,x3,x4,x5,x6,x7⟩:=ndB_cells G0.out
  obtain ⟨y0,y1,y2,y3,y4,y5,y6,y7⟩:=ndB_cells G1.out
  dsimp only at x0 y0 x1 y1 x2 y2 x3 y3 x4 y4 x5 y5 x6 y6 x7 y7
  go_wp2_with fail
  clear x0 y0 x1 y1 x2 y2 x3 y3 x4 y4 x5 y5 x6 y6 x7 y7
  refine (BB.out _).mono ?_
  rintro e w2 ⟨rfl,hb2⟩
  have F0:=Lib.hid (ndB_below G0.out hb2)
  have F1:=Lib.hid (ndB_below G1.out hb2)
  have W2:=Lib.hid (bstep W1.out hb2)
  have P':=Lib.hid (pair_below P.out hb2)
  clear G0 G1 W1 hb2 P
  have G0:=F0
  have G1:=F1
  have P:=P'
  clear F0 F1 P'
  obtain ⟨x0,x1,x2,x3,x4,x5,x6,x7⟩:=ndB_cells G0.out
  obtain ⟨y0,y1,y2,y3,y4,y5,y6,y7⟩:=ndB_cells G1.out
  dsimp only at x0 y0 x1 y1 x2 y2 x3 y3 x4 y4 x5 y5 x6 y6 x7 y7
  go_wp2_with fail
  clear x0 y0 x1 y1 x2 y2 x3 y3 x4 y4 x5 y5 x6 y6 x7 y7
  refine (RR.out _).mono ?_
  rintro e w3 ⟨rfl,hb3⟩
  have F0:=Lib.hid (ndB_below G0.out hb3)
  have F1:=Lib.hid (ndB_below G1.out hb3)
  have W3:=Lib.hid (bstep W2.out hb3)
  have P':=Lib.hid (pair_below P.out hb3)
  clear G0 G1 W2 hb3 P
  have G0:=F0
  have G1:=F1
  have P:=P'
  clear F0 F1 P'
  clear G0 G1
  go_wp2_with fail
  refine (Q1.out _).mono ?_
  rintro e w4 ⟨rfl,hb4⟩
  have b4:Below w4.heap.size w4 (w4.alloc (.cells #[.int .i64 l1,.int .i64 l2] 47)):=(Below.refl _ w4).alloc (Nat.le_refl _) _
  have W4:=Lib.hid (bstep (bstep W3.out hb4) b4)
  have P4:=Lib.hid (pair_below (pair_below P.out hb4) b4)
  have L4:=Lib.hid (pair_new w4 l1 l2 47)
  clear hb4 b4 W3 P
  go_wp2_with fail
  refine (Q2.out _).mono ?_
  rintro e w5 ⟨rfl,hb5⟩
  have b5:Below w5.heap.size w5 (w5.alloc (.cells #[.int .i64 m1,.int .i64 m2] 47)):=(Below.refl _ w5).alloc (Nat.le_refl _) _
  have W5:=Lib.hid (bstep (bstep W4.out hb5) b5)
  have P5:=Lib.hid (pair_below (pair_below P4.out hb5) b5)
  have L5:=Lib.hid (pair_below (pair_below L4.out hb5) b5)
  have M5:=Lib.hid (pair_new w5 m1 m2 47)
  clear hb5 b5 W4 P4 L4
  obtain ⟨x0,x1,_,_,_⟩:=L5.out
  obtain ⟨y0,y1,_,_,_⟩:=M5.out
  go_wp2_with fail
  refine (HH.out _).mono ?_
  rintro e w6 ⟨rfl,hb6⟩
  have hB:=bstep W5.out hb6
  obtain ⟨z0,z1,z2,z3,z4⟩:=pair_below P5.out hb6
  clear hb6
  go_wp2
  refine bodyPost_ret (v:=spr ((r1,r2),0)) (by rw [results_cell_tmp rfl];go_simp) rfl ⟨rfl,?_⟩
  (repeat' (first | with_reducible exact hB | exact hB | refine Below.setCell ?_ (by simp <;> omega) _ | refine balloc ?_ _ | refine Below.drew ?_ | refine bdrewN ?_ _))
theorem fs_any (a b:Ni) (w:World):Calls Try.prog 19 #[niv a,niv b] w fun e w'=>e=.returned (spr (fsR a b))∧Below w.heap.size w w':=by
  have BA:=Lib.hid (fun W=>ball_any a W)
  have BB:=Lib.hid (fun W=>ball_any b W)
  unfold fsR
  cases h:ballB a with
  | false =>
    rw [h] at BA
    exact fs_no1 a b w BA
  | true =>
    rw [h] at BA
    cases k:ballB b with
    | false =>
      rw [k] at BB
      exact fs_no2 a b w BA BB
    | true =>
      rw [k] at BB
      rw [if_pos (show (true && true)=true from rfl)]
      have RR:=Lib.hid (fun W=>reach5 a b W h k)
      have bd:=fsD_bd h k
      by_cases z:nearD a b≤0
      · rw [if_pos z]
        exact fs_near a b _ _ w z BA BB RR
      · rw [if_neg z]
        exact fs_far a b _ _ _ _ _ _ _ _ w (by omega) BA BB RR
          (Lib.hid fun W=>by have q:=quo_any 1048576 (farD a b) W;rw [quo5 (by omega) (by omega)] at q;exact q)
          (Lib.hid fun W=>by have q:=quo_any 1048576 (nearD a b) W;rw [quo5 (by omega) (by omega)] at q;exact q)
          (Lib.hid fun W=>by have q:=hull9_any (Sp.fl 1099511627776 (farD a b)) (Sp.ce 1099511627776 (farD a b)) (Sp.fl 1099511627776 (nearD a b)) (Sp.ce 1099511627776 (nearD a b)) W;rw [hull5 (by omega) (by omega)] at q;exact q)
end Go.Proofs.Ytpocbdompamnnaa
