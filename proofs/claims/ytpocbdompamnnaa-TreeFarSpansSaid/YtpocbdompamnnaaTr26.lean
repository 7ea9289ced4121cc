import Derived.Test.YtpocbdompamnnaaTr24
import Derived.Test.YtpocbdompamnnaaMoM
import Derived.Deep.RegionHeld3
import Derived.StillTailTactics
namespace Go.Proofs.Ytpocbdompamnnaa
open Go.ChangeShapes Go.WideShapes Go.RowKit
open Sh
theorem rwi5_any (n lo hi:Int) (w:World) :
    Calls Try.prog 40 #[.int .i64 n,.int .i64 lo,.int .i64 hi] w fun e w'=>e=.returned (.bool (rngB n lo hi))∧w=w':=by
  by_cases h:lo≤n
  · by_cases k:n≤hi
    · rw [rngB_iff.2 ⟨h,k⟩]
      go_enter Try.func40,Try.ntmps40
      go_wp2
      go_ret
      exact ⟨rfl,rfl⟩
    · rw [rngB_not.2 (fun x=>k x.2)]
      have k':decide (n≤hi)=false:=decide_eq_false k
      clear k
      go_enter Try.func40,Try.ntmps40
      go_wp2
      go_ret
      exact ⟨rfl,rfl⟩
  · rw [rngB_not.2 (fun x=>h x.1)]
    go_enter Try.func40,Try.ntmps40
    go_wp2
    go_ret
    exact ⟨rfl,rfl⟩
set_option maxRecDepth 100000 in
set_option maxHeartbeats 4000000 in
theorem rap5_any (a b:Ni) (w:World) (ha:BdP 64 a.2.2.2.2.1) (hb:BdP 64 b.2.2.2.2.1):Calls Try.prog 42 #[niv a,niv b] w fun e w'=>e=.returned (.int .i64 (sq (sub a.2.2.2.2.1 b.2.2.2.2.1)))∧Below w.heap.size w w':=by
  have s1:=sub5 ha hb
  have p1:BdP 1152921504606846976 (pw (sub a.2.2.2.2.1 b.2.2.2.2.1) (sub a.2.2.2.2.1 b.2.2.2.2.1)):=by
    obtain ⟨h1,h2,h3,h4,h5,h6⟩:=s1
    have x:=mul_bd h1 h2 h1 h2
    have y:=mul_bd h3 h4 h3 h4
    have z:=mul_bd h5 h6 h5 h6
    unfold pw BdP
    dsimp only
    omega
  have MM:=Lib.hid (fun W=>minus4_any a.2.2.2.2.1 b.2.2.2.2.1 W (s1.mono (by decide)))
  have SS:=Lib.hid (fun W=>square4_any (sub a.2.2.2.2.1 b.2.2.2.2.1) W p1)
  clear s1 p1 ha hb
  obtain ⟨a1,a2,a3,a4,⟨a5,a6,a7⟩,a8⟩:=a
  obtain ⟨b1,b2,b3,b4,⟨b5,b6,b7⟩,b8⟩:=b
  dsimp only at *
  generalize sub (a5,a6,a7) (b5,b6,b7)=u at *
  obtain ⟨u1,u2,u3⟩:=u
  go_enter Try.func42,Try.ntmps42
  go_wp2_with fail
  refine (MM.out _).mono ?_
  rintro e w1 ⟨rfl,hb1⟩
  have B1:=Lib.hid (bstep (show Below w.heap.size w ((w.alloc (nib (a1,a2,a3,a4,(a5,a6,a7),a8) 44)).alloc (nib (b1,b2,b3,b4,(b5,b6,b7),b8) 44)) from ((Below.refl _ w).alloc (Nat.le_refl _) _).alloc (by simp) _) hb1)
  clear hb1
  go_wp2_with fail
  refine (SS.out _).mono ?_
  rintro e w2 ⟨rfl,hb2⟩
  have hB:=bstep B1.out hb2
  clear hb2
  go_wp2
  go_ret
  exact ⟨rfl,hB⟩
set_option maxRecDepth 100000 in
set_option maxHeartbeats 4000000 in
theorem rfs_no1 (a b:Ni) (w:World) (C1:Hid (∀ W,Calls Try.prog 40 #[.int .i64 a.2.2.2.2.2,.int .i64 0,.int .i64 131072] W fun e w'=>e=.returned (.bool false)∧W=w')):Calls Try.prog 20 #[niv a,niv b] w fun e w'=>e=.returned (spr ((0,0),1))∧Below w.heap.size w w':=by
  obtain ⟨a1,a2,a3,a4,⟨a5,a6,a7⟩,a8⟩:=a
  obtain ⟨b1,b2,b3,b4,⟨b5,b6,b7⟩,b8⟩:=b
  dsimp only at *
  go_enter Try.func20,Try.ntmps20
  go_wp2_with fail
  have G0:=Lib.hid (ndB_below (ndB_new w (a1,a2,a3,a4,(a5,a6,a7),a8) (nib (b1,b2,b3,b4,(b5,b6,b7),b8) 44)) ((Below.refl _ _).alloc (Nat.le_refl _) (.cells #[.int .i64 0,.int .i64 0] 47)))
  have G1:=Lib.hid (ndB_below (ndB_new1 (w.alloc (nib (a1,a2,a3,a4,(a5,a6,a7),a8) 44)) (b1,b2,b3,b4,(b5,b6,b7),b8) (w.heap.size + 1) (by simp)) ((Below.refl _ _).alloc (Nat.le_refl _) (.cells #[.int .i64 0,.int .i64 0] 47)))
  have P:=Lib.hid (show Pair (((w.alloc (nib (a1,a2,a3,a4,(a5,a6,a7),a8) 44)).alloc (nib (b1,b2,b3,b4,(b5,b6,b7),b8) 44)).alloc (.cells #[.int .i64 0,.int .i64 0] 47)) (w.heap.size + 1 + 1) 0 0 by have z:=pair_new ((w.alloc (nib (a1,a2,a3,a4,(a5,a6,a7),a8) 44)).alloc (nib (b1,b2,b3,b4,(b5,b6,b7),b8) 44)) 0 0 47;simpa using z)
  have V:=Lib.hid (show Below w.heap.size w (((w.alloc (nib (a1,a2,a3,a4,(a5,a6,a7),a8) 44)).alloc (nib (b1,b2,b3,b4,(b5,b6,b7),b8) 44)).alloc (.cells #[.int .i64 0,.int .i64 0] 47)) from (((Below.refl _ w).alloc (Nat.le_refl _) _).alloc (by simp) _).alloc (by simp <;> omega) _)
  refine (C1.out _).mono ?_
  rintro e w9 ⟨rfl,rfl⟩
  have hB:=V.out
  obtain ⟨z0,z1,z2,z3,z4⟩:=P.out
  go_wp2
  refine bodyPost_ret (v:=spr ((0,0),1)) (by rw [results_cell_tmp rfl];go_simp) rfl ⟨rfl,?_⟩
  (repeat' (first | with_reducible exact hB | exact hB | refine Below.setCell ?_ (by simp <;> omega) _ | refine balloc ?_ _ | refine Below.drew ?_ | refine bdrewN ?_ _))
set_option maxRecDepth 100000 in
set_option maxHeartbeats 4000000 in
theorem rfs_no2 (a b:Ni) (w:World) (C1:Hid (∀ W,Calls Try.prog 40 #[.int .i64 a.2.2.2.2.2,.int .i64 0,.int .i64 131072] W fun e w'=>e=.returned (.bool true)∧W=w')) (C2:Hid (∀ W,Calls Try.prog 40 #[.int .i64 b.2.2.2.2.2,.int .i64 0,.int .i64 131072] W fun e w'=>e=.returned (.bool false)∧W=w')):Calls Try.prog 20 #[niv a,niv b] w fun e w'=>e=.returned (spr ((0,0),1))∧Below w.heap.size w w':=by
  obtain ⟨a1,a2,a3,a4,⟨a5,a6,a7⟩,a8⟩:=a
  obtain ⟨b1,b2,b3,b4,⟨b5,b6,b7⟩,b8⟩:=b
  dsimp only at *
  go_enter Try.func20,Try.ntmps20
  go_wp2_with fail
  have G0:=Lib.hid (ndB_below (ndB_new w (a1,a2,a3,a4,(a5,a6,a7),a8) (nib (b1,b2,b3,b4,(b5,b6,b7),b8) 44)) ((Below.refl _ _).alloc (Nat.le_refl _) (.cells #[.int .i64 0,.int .i64 0] 47)))
  have G1:=Lib.hid (ndB_below (ndB_new1 (w.alloc (nib (a1,a2,a3,a4,(a5,a6,a7),a8) 44)) (b1,b2,b3,b4,(b5,b6,b7),b8) (w.heap.size + 1) (by simp)) ((Below.refl _ _).alloc (Nat.le_refl _) (.cells #[.int .i64 0,.int .i64 0] 47)))
  have P:=Lib.hid (show Pair (((w.alloc (nib (a1,a2,a3,a4,(a5,a6,a7),a8) 44)).alloc (nib (b1,b2,b3,b4,(b5,b6,b7),b8) 44)).alloc (.cells #[.int .i64 0,.int .i64 0] 47)) (w.heap.size + 1 + 1) 0 0 by have z:=pair_new ((w.alloc (nib (a1,a2,a3,a4,(a5,a6,a7),a8) 44)).alloc (nib (b1,b2,b3,b4,(b5,b6,b7),b8) 44)) 0 0 47;simpa using z)
  have V:=Lib.hid (show Below w.heap.size w (((w.alloc (nib (a1,a2,a3,a4,(a5,a6,a7),a8) 44)).alloc (nib (b1,b2,b3,b4,(b5,b6,b7),b8) 44)).alloc (.cells #[.int .i64 0,.int .i64 0] 47)) from (((Below.refl _ w).alloc (Nat.le_refl _) _).alloc (by simp) _).alloc (by simp <;> omega) _)
  refine (C1.out _).mono ?_
  rintro e w9 ⟨rfl,rfl⟩
  go_wp2_with fail
  refine (C2.out _).mono ?_
  rintro e w9 ⟨rfl,rfl⟩
  have hB:=V.out
  obtain ⟨z0,z1,z2,z3,z4⟩:=P.out
  go_wp2
  refine bodyPost_ret (v:=spr ((0,0),1)) (by rw [results_cell_tmp rfl];go_simp) rfl ⟨rfl,?_⟩
  (repeat' (first | with_reducible exact hB | exact hB | refine Below.setCell ?_ (by simp <;> omega) _ | refine balloc ?_ _ | refine Below.drew ?_ | refine bdrewN ?_ _))
set_option maxRecDepth 100000 in
set_option maxHeartbeats 4000000 in
theorem rfs_no3 (a b:Ni) (w:World) (C1:Hid (∀ W,Calls Try.prog 40 #[.int .i64 a.2.2.2.2.2,.int .i64 0,.int .i64 131072] W fun e w'=>e=.returned (.bool true)∧W=w')) (C2:Hid (∀ W,Calls Try.prog 40 #[.int .i64 b.2.2.2.2.2,.int .i64 0,.int .i64 131072] W fun e w'=>e=.returned (.bool true)∧W=w')) (C3:Hid (∀ W,Calls Try.prog 41 #[ptv a.2.2.2.2.1,.int .i64 64] W fun e w'=>e=.returned (.bool false)∧Below W.heap.size W w')):Calls Try.prog 20 #[niv a,niv b] w fun e w'=>e=.returned (spr ((0,0),1))∧Below w.heap.size w w':=by
  obtain ⟨a1,a2,a3,a4,⟨a5,a6,a7⟩,a8⟩:=a
  obtain ⟨b1,b2,b3,b4,⟨b5,b6,b7⟩,b8⟩:=b
  dsimp only at *
  go_enter Try.func20,Try.ntmps20
  go_wp2_with fail
  have G0:=Lib.hid (ndB_below (ndB_new w (a1,a2,a3,a4,(a5,a6,a7),a8) (nib (b1,b2,b3,b4,(b5,b6,b7),b8) 44)) ((Below.refl _ _).alloc (Nat.le_refl _) (.cells #[.int .i64 0,.int .i64 0] 47)))
  have G1:=Lib.hid (ndB_below (ndB_new1 (w.alloc (nib (a1,a2,a3,a4,(a5,a6,a7),a8) 44)) (b1,b2,b3,b4,(b5,b6,b7),b8) (w.heap.size + 1) (by simp)) ((Below.refl _ _).alloc (Nat.le_refl _) (.cells #[.int .i64 0,.int .i64 0] 47)))
  have P:=Lib.hid (show Pair (((w.alloc (nib (a1,a2,a3,a4,(a5,a6,a7),a8) 44)).alloc (nib (b1,b2,b3,b4,(b5,b6,b7),b8) 44)).alloc (.cells #[.int .i64 0,.int .i64 0] 47)) (w.heap.size + 1 + 1) 0 0 by have z:=pair_new ((w.alloc (nib (a1,a2,a3,a4,(a5,a6,a7),a8) 44)).alloc (nib (b1,b2,b3,b4,(b5,b6,b7),b8) 44)) 0 0 47;simpa using z)
  have V:=Lib.hid (show Below w.heap.size w (((w.alloc (nib (a1,a2,a3,a4,(a5,a6,a7),a8) 44)).alloc (nib (b1,b2,b3,b4,(b5,b6,b7),b8) 44)).alloc (.cells #[.int .i64 0,.int .i64 0] 47)) from (((Below.refl _ w).alloc (Nat.le_refl _) _).alloc (by simp) _).alloc (by simp <;> omega) _)
  refine (C1.out _).mono ?_
  rintro e w9 ⟨rfl,rfl⟩
  go_wp2_with fail
  refine (C2.out _).mono ?_
  rintro e w9 ⟨rfl,rfl⟩
  go_wp2_with fail
  refine (C3.out _).mono ?_
  rintro e w2 ⟨rfl,hb2⟩
  have G0':=Lib.hid (ndB_below G0.out hb2)
  have G1':=Lib.hid (ndB_below G1.out hb2)
  have V':=Lib.hid (bstep V.out hb2)
  have P':=Lib.hid (pair_below P.out hb2)
  clear G0 G1 V P hb2
  have P:=P'
  clear P'
  have G0:=G0'
  have G1:=G1'
  have V:=V'
  clear G0' G1' V'
  obtain ⟨x0,x1,x2,x3,x4,x5,x6,x7⟩:=ndB_cells G0.out
  obtain ⟨y0,y1,y2,y3,y4,y5,y6,y7⟩:=ndB_cells G1.out
  dsimp only at x0 y0 x1 y1 x2 y2 x3 y3 x4 y4 x5 y5 x6 y6 x7 y7
  have hB:=V.out
  obtain ⟨z0,z1,z2,z3,z4⟩:=P.out
  go_wp2
  refine bodyPost_ret (v:=spr ((0,0),1)) (by rw [results_cell_tmp rfl];go_simp) rfl ⟨rfl,?_⟩
  (repeat' (first | with_reducible exact hB | exact hB | refine Below.setCell ?_ (by simp <;> omega) _ | refine balloc ?_ _ | refine Below.drew ?_ | refine bdrewN ?_ _))
set_option maxRecDepth 100000 in
set_option maxHeartbeats 4000000 in
theorem rfs_no4 (a b:Ni) (w:World) (C1:Hid (∀ W,Calls Try.prog 40 #[.int .i64 a.2.2.2.2.2,.int .i64 0,.int .i64 131072] W fun e w'=>e=.returned (.bool true)∧W=w')) (C2:Hid (∀ W,Calls Try.prog 40 #[.int .i64 b.2.2.2.2.2,.int .i64 0,.int .i64 131072] W fun e w'=>e=.returned (.bool true)∧W=w')) (C3:Hid (∀ W,Calls Try.prog 41 #[ptv a.2.2.2.2.1,.int .i64 64] W fun e w'=>e=.returned (.bool true)∧Below W.heap.size W w')) (C4:Hid (∀ W,Calls Try.prog 41 #[ptv b.2.2.2.2.1,.int .i64 64] W fun e w'=>e=.returned (.bool false)∧Below W.heap.size W w')):Calls Try.prog 20 #[niv a,niv b] w fun e w'=>e=.returned (spr ((0,0),1))∧Below w.heap.size w w':=by
  obtain ⟨a1,a2,a3,a4,⟨a5,a6,a7⟩,a8⟩:=a
  obtain ⟨b1,b2,b3,b4,⟨b5,b6,b7⟩,b8⟩:=b
  dsimp only at *
  go_enter Try.func20,Try.ntmps20
  go_wp2_with fail
  have G0:=Lib.hid (ndB_below (ndB_new w (a1,a2,a3,a4,(a5,a6,a7),a8) (nib (b1,b2,b3,b4,(b5,b6,b7),b8) 44)) ((Below.refl _ _).alloc (Nat.le_refl _) (.cells #[.int .i64 0,.int .i64 0] 47)))
  have G1:=Lib.hid (ndB_below (ndB_new1 (w.alloc (nib (a1,a2,a3,a4,(a5,a6,a7),a8) 44)) (b1,b2,b3,b4,(b5,b6,b7),b8) (w.heap.size + 1) (by simp)) ((Below.refl _ _).alloc (Nat.le_refl _) (.cells #[.int .i64 0,.int .i64 0] 47)))
  have P:=Lib.hid (show Pair (((w.alloc (nib (a1,a2,a3,a4,(a5,a6,a7),a8) 44)).alloc (nib (b1,b2,b3,b4,(b5,b6,b7),b8) 44)).alloc (.cells #[.int .i64 0,.int .i64 0] 47)) (w.heap.size + 1 + 1) 0 0 by have z:=pair_new ((w.alloc (nib (a1,a2,a3,a4,(a5,a6,a7),a8) 44)).alloc (nib (b1,b2,b3,b4,(b5,b6,b7),b8) 44)) 0 0 47;simpa using z)
  have V:=Lib.hid (show Below w.heap.size w (((w.alloc (nib (a1,a2,a3,a4,(a5,a6,a7),a8) 44)).alloc (nib (b1,b2,b3,b4,(b5,b6,b7),b8) 44)).alloc (.cells #[.int .i64 0,.int .i64 0] 47)) from (((Below.refl _ w).alloc (Nat.le_refl _) _).alloc (by simp) _).alloc (by simp <;> omega) _)
  refine (C1.out _).mono ?_
  rintro e w9 ⟨rfl,rfl⟩
  go_wp2_with fail
  refine (C2.out _).mono ?_
  rintro e w9 ⟨rfl,rfl⟩
  go_wp2_with fail
  refine (C3.out _).mono ?_
  rintro e w2 ⟨rfl,hb2⟩
  have G0':=Lib.hid (ndB_below G0.out hb2)
  have G1':=Lib.hid (ndB_below G1.out hb2)
  have V':=Lib.hid (bstep V.out hb2)
  have P':=Lib.hid (pair_below P.out hb2)
  clear G0 G1 V P hb2
  have P:=P'
  clear P'
  have G0:=G0'
  have G1:=G1'
  have V:=V'
  clear G0' G1' V'
  obtain ⟨x0,x1,x2,x3,x4,x5,x6,x7⟩:=ndB_cells G0.out
  obtain ⟨y0,y1,y2,y3,y4,y5,y6,y7⟩:=ndB_cells G1.out
  dsimp only at x0 y0 x1 y1 x2 y2 x3 y3 x4 y4 x5 y5 x6 y6 x7 y7
  go_wp2_with fail
  clear x0 y0 x1 y1 x2 y2 x3 y3 x4 y4 x5 y5 x6 y6 x7 y7
  refine (C4.out _).mono ?_
  rintro e w3 ⟨rfl,hb3⟩
  have G0':=Lib.hid (ndB_below G0.out hb3)
  have G1':=Lib.hid (ndB_below G1.out hb3)
  have V':=Lib.hid (bstep V.out hb3)
  have P':=Lib.hid (pair_below P.out hb3)
  clear G0 G1 V P hb3
  have P:=P'
  clear P'
  have G0:=G0'
  have G1:=G1'
  have V:=V'
  clear G0' G1' V'
  obtain ⟨x0,x1,x2,x3,x4,x5,x6,x7⟩:=ndB_cells G0.out
  obtain ⟨y0,y1,y2,y3,y4,y5,y6,y7⟩:=ndB_cells G1.out
  dsimp only at x0 y0 x1 y1 x2 y2 x3 y3 x4 y4 x5 y5 x6 y6 x7 y7
  have hB:=V.out
  obtain ⟨z0,z1,z2,z3,z4⟩:=P.out
  go_wp2
  refine bodyPost_ret (v:=spr ((0,0),1)) (by rw [results_cell_tmp rfl];go_simp) rfl ⟨rfl,?_⟩
  (repeat' (first | with_reducible exact hB | exact hB | refine Below.setCell ?_ (by simp <;> omega) _ | refine balloc ?_ _ | refine Below.drew ?_ | refine bdrewN ?_ _))
set_option maxRecDepth 100000 in
set_option maxHeartbeats 4000000 in
theorem rfs_near (a b:Ni) (d p q l h:Int) (w:World) (hd:0≤d∧d≤49152) (hx:0≤a.2.2.2.2.2∧a.2.2.2.2.2≤131072) (hy:0≤b.2.2.2.2.2∧b.2.2.2.2.2≤131072) (hp:0≤p∧p≤1099511627776) (hq:0≤q∧q≤1099511627776) (hl:0≤l∧l≤1099511627776) (hh:0≤h∧h≤1099511627776) (hn:l≤p + q) (C1:Hid (∀ W,Calls Try.prog 40 #[.int .i64 a.2.2.2.2.2,.int .i64 0,.int .i64 131072] W fun e w'=>e=.returned (.bool true)∧W=w')) (C2:Hid (∀ W,Calls Try.prog 40 #[.int .i64 b.2.2.2.2.2,.int .i64 0,.int .i64 131072] W fun e w'=>e=.returned (.bool true)∧W=w')) (C3:Hid (∀ W,Calls Try.prog 41 #[ptv a.2.2.2.2.1,.int .i64 64] W fun e w'=>e=.returned (.bool true)∧Below W.heap.size W w')) (C4:Hid (∀ W,Calls Try.prog 41 #[ptv b.2.2.2.2.1,.int .i64 64] W fun e w'=>e=.returned (.bool true)∧Below W.heap.size W w')) (AA:Hid (∀ W,Calls Try.prog 42 #[niv a,niv b] W fun e w'=>e=.returned (.int .i64 d)∧Below W.heap.size W w')) (E1:Hid (∀ W,Calls Try.prog 43 #[.int .i64 (a.2.2.2.2.2 * 1048576 * 1048576)] W fun e w'=>e=.returned (.int .i64 p)∧w'=W)) (E2:Hid (∀ W,Calls Try.prog 43 #[.int .i64 (b.2.2.2.2.2 * 1048576 * 1048576)] W fun e w'=>e=.returned (.int .i64 q)∧w'=W)) (E3:Hid (∀ W,Calls Try.prog 44 #[.int .i64 (d * 1048576 * 1048576)] W fun e w'=>e=.returned (.int .i64 l)∧w'=W)) (E4:Hid (∀ W,Calls Try.prog 43 #[.int .i64 (d * 1048576 * 1048576)] W fun e w'=>e=.returned (.int .i64 h)∧w'=W)):Calls Try.prog 20 #[niv a,niv b] w fun e w'=>e=.returned (spr ((0,0),10))∧Below w.heap.size w w':=by
  obtain ⟨a1,a2,a3,a4,⟨a5,a6,a7⟩,a8⟩:=a
  obtain ⟨b1,b2,b3,b4,⟨b5,b6,b7⟩,b8⟩:=b
  dsimp only at *
  obtain ⟨hd1,hd2⟩:=hd
  obtain ⟨hx1,hx2⟩:=hx
  obtain ⟨hy1,hy2⟩:=hy
  obtain ⟨hp1,hp2⟩:=hp
  obtain ⟨hq1,hq2⟩:=hq
  obtain ⟨hl1,hl2⟩:=hl
  obtain ⟨hh1,hh2⟩:=hh
  go_enter Try.func20,Try.ntmps20
  go_wp2_with fail
  have G0:=Lib.hid (ndB_below (ndB_new w (a1,a2,a3,a4,(a5,a6,a7),a8) (nib (b1,b2,b3,b4,(b5,b6,b7),b8) 44)) ((Below.refl _ _).alloc (Nat.le_refl _) (.cells #[.int .i64 0,.int .i64 0] 47)))
  have G1:=Lib.hid (ndB_below (ndB_new1 (w.alloc (nib (a1,a2,a3,a4,(a5,a6,a7),a8) 44)) (b1,b2,b3,b4,(b5,b6,b7),b8) (w.heap.size + 1) (by simp)) ((Below.refl _ _).alloc (Nat.le_refl _) (.cells #[.int .i64 0,.int .i64 0] 47)))
  have P:=Lib.hid (show Pair (((w.alloc (nib (a1,a2,a3,a4,(a5,a6,a7),a8) 44)).alloc (nib (b1,b2,b3,b4,(b5,b6,b7),b8) 44)).alloc (.cells #[.int .i64 0,.int .i64 0] 47)) (w.heap.size + 1 + 1) 0 0 by have z:=pair_new ((w.alloc (nib (a1,a2,a3,a4,(a5,a6,a7),a8) 44)).alloc (nib (b1,b2,b3,b4,(b5,b6,b7),b8) 44)) 0 0 47;simpa using z)
  have V:=Lib.hid (show Below w.heap.size w (((w.alloc (nib (a1,a2,a3,a4,(a5,a6,a7),a8) 44)).alloc (nib (b1,b2,b3,b4,(b5,b6,b7),b8) 44)).alloc (.cells #[.int .i64 0,.int .i64 0] 47)) from (((Below.refl _ w).alloc (Nat.le_refl _) _).alloc (by simp) _).alloc (by simp <;> omega) _)
  refine (C1.out _).mono ?_
  rintro e w9 ⟨rfl,rfl⟩
  go_wp2_with fail
  refine (C2.out _).mono ?_
  rintro e w9 ⟨rfl,rfl⟩
  go_wp2_with fail
  refine (C3.out _).mono ?_
  rintro e w2 ⟨rfl,hb2⟩
  have G0':=Lib.hid (ndB_below G0.out hb2)
  have G1':=Lib.hid (ndB_below G1.out hb2)
  have V':=Lib.hid (bstep V.out hb2)
  have P':=Lib.hid (pair_below P.out hb2)
  clear G0 G1 V P hb2
  have P:=P'
  clear P'
  have G0:=G0'
  have G1:=G1'
  have V:=V'
  clear G0' G1' V'
  obtain ⟨x0,x1,x2,x3,x4,x5,x6,x7⟩:=ndB_cells G0.out
  obtain ⟨y0,y1,y2,y3,y4,y5,y6,y7⟩:=ndB_cells G1.out
  dsimp only at x0 y0 x1 y1 x2 y2 x3 y3 x4 y4 x5 y5 x6 y6 x7 y7
  go_wp2_with fail
  clear x0 y0 x1 y1 x2 y2 x3 y3 x4 y4 x5 y5 x6 y6 x7 y7
  refine (C4.out _).mono ?_
  rintro e w3 ⟨rfl,hb3⟩
  have G0':=Lib.hid (ndB_below G0.out hb3)
  have G1':=Lib.hid (ndB_below G1.out hb3)
  have V':=Lib.hid (bstep V.out hb3)
  have P':=Lib.hid (pair_below P.out hb3)
  clear G0 G1 V P hb3
  have P:=P'
  clear P'
  have G0:=G0'
  have G1:=G1'
  have V:=V'
  clear G0' G1' V'
  obtain ⟨x0,x1,x2,x3,x4,x5,x6,x7⟩:=ndB_cells G0.out
  obtain ⟨y0,y1,y2,y3,y4,y5,y6,y7⟩:=ndB_cells G1.out
  dsimp only at x0 y0 x1 y1 x2 y2 x3 y3 x4 y4 x5 y5 x6 y6 x7 y7
  go_wp2_with fail
  have wr0:IntKind.i64.wrap (a8 * 1048576)=a8 * 1048576:=IntWalk.i64_in _ (by omega)
  have wq0:IntKind.i64.wrap (a8 * 1048576 * 1048576)=a8 * 1048576 * 1048576:=IntWalk.i64_in _ (by omega)
  have wr1:IntKind.i64.wrap (b8 * 1048576)=b8 * 1048576:=IntWalk.i64_in _ (by omega)
  have wq1:IntKind.i64.wrap (b8 * 1048576 * 1048576)=b8 * 1048576 * 1048576:=IntWalk.i64_in _ (by omega)
  have wr2:IntKind.i64.wrap (d * 1048576)=d * 1048576:=IntWalk.i64_in _ (by omega)
  have wq2:IntKind.i64.wrap (d * 1048576 * 1048576)=d * 1048576 * 1048576:=IntWalk.i64_in _ (by omega)
  have wpq:IntKind.i64.wrap (p + q)=p + q:=IntWalk.i64_in _ (by omega)
  clear x0 y0 x1 y1 x2 y2 x3 y3 x4 y4 x5 y5 x6 y6 x7 y7
  refine (AA.out _).mono ?_
  rintro e w5 ⟨rfl,hb5⟩
  have G0':=Lib.hid (ndB_below G0.out hb5)
  have G1':=Lib.hid (ndB_below G1.out hb5)
  have V':=Lib.hid (bstep V.out hb5)
  have P':=Lib.hid (pair_below P.out hb5)
  clear G0 G1 V hb5 P
  obtain ⟨x0,x1,x2,x3,x4,x5,x6,x7⟩:=ndB_cells G0'.out
  obtain ⟨y0,y1,y2,y3,y4,y5,y6,y7⟩:=ndB_cells G1'.out
  dsimp only at x0 y0 x1 y1 x2 y2 x3 y3 x4 y4 x5 y5 x6 y6 x7 y7
  go_wp2_with fail
  clear x0 x1 x2 x3 x4 x5 x6 y0 y1 y2 y3 y4 y5 y6
  have S0:w5.cell? ⟨w.heap.size,7,none⟩=some (.int .i64 a8)∧w5.cell? ⟨w.heap.size + 1,7,none⟩=some (.int .i64 b8):=⟨x7,y7⟩
  clear x7 y7
  go_region_held3 (fun w'=>w'.cell? ⟨w.heap.size,7,none⟩=some (.int .i64 a8)∧w'.cell? ⟨w.heap.size + 1,7,none⟩=some (.int .i64 b8))
    (first | exact S0 | fail)
    (first | (go_at_call 43;(with_reducible refine (E1.out _).mono ?_);rintro e v1 ⟨rfl,rfl⟩) | (go_at_call 43;(with_reducible refine (E2.out _).mono ?_);rintro e v2 ⟨rfl,rfl⟩) | fail)
  all_goals
    have hB:=Below.drew V'.out
    have P6:=(show Pair w5.drew (w.heap.size + 1 + 1) 0 0 from P'.out)
    clear S0 G0' G1' V' P'
    generalize w5.drew=w6 at *
    obtain ⟨z0,z1,z2,z3,z4⟩:=P6
    go_wp2_with (first | (go_at_call 44;(with_reducible refine (E3.out _).mono ?_);rintro e v3 ⟨rfl,rfl⟩) | (go_at_call 43;(with_reducible refine (E4.out _).mono ?_);rintro e v4 ⟨rfl,rfl⟩))
  all_goals
    refine bodyPost_ret (v:=spr ((0,0),10)) (by rw [results_cell_tmp rfl];go_simp) rfl ⟨rfl,?_⟩
    (repeat' (first | with_reducible exact hB | exact hB | refine Below.setCell ?_ (by simp <;> omega) _ | refine balloc ?_ _ | refine Below.drew ?_ | refine bdrewN ?_ _))
set_option maxRecDepth 100000 in
set_option maxHeartbeats 4000000 in
theorem rfs_far (a b:Ni) (d p q l h f c:Int) (w:World) (hd:0≤d∧d≤49152) (hx:0≤a.2.2.2.2.2∧a.2.2.2.2.2≤131072) (hy:0≤b.2.2.2.2.2∧b.2.2.2.2.2≤131072) (hp:0≤p∧p≤1099511627776) (hq:0≤q∧q≤1099511627776) (hl:0≤l∧l≤1099511627776) (hh:0≤h∧h≤1099511627776) (hn:p + q < l) (hlh:l≤h) (hf:(1099511627776:Int).tdiv (h + (p + q))=f) (hc:(1099511627776 + l - (p + q) - 1:Int).tdiv (l - (p + q))=c) (hf1:0≤f∧f≤1099511627776) (hc1:0≤c∧c≤1099511627776) (C1:Hid (∀ W,Calls Try.prog 40 #[.int .i64 a.2.2.2.2.2,.int .i64 0,.int .i64 131072] W fun e w'=>e=.returned (.bool true)∧W=w')) (C2:Hid (∀ W,Calls Try.prog 40 #[.int .i64 b.2.2.2.2.2,.int .i64 0,.int .i64 131072] W fun e w'=>e=.returned (.bool true)∧W=w')) (C3:Hid (∀ W,Calls Try.prog 41 #[ptv a.2.2.2.2.1,.int .i64 64] W fun e w'=>e=.returned (.bool true)∧Below W.heap.size W w')) (C4:Hid (∀ W,Calls Try.prog 41 #[ptv b.2.2.2.2.1,.int .i64 64] W fun e w'=>e=.returned (.bool true)∧Below W.heap.size W w')) (AA:Hid (∀ W,Calls Try.prog 42 #[niv a,niv b] W fun e w'=>e=.returned (.int .i64 d)∧Below W.heap.size W w')) (E1:Hid (∀ W,Calls Try.prog 43 #[.int .i64 (a.2.2.2.2.2 * 1048576 * 1048576)] W fun e w'=>e=.returned (.int .i64 p)∧w'=W)) (E2:Hid (∀ W,Calls Try.prog 43 #[.int .i64 (b.2.2.2.2.2 * 1048576 * 1048576)] W fun e w'=>e=.returned (.int .i64 q)∧w'=W)) (E3:Hid (∀ W,Calls Try.prog 44 #[.int .i64 (d * 1048576 * 1048576)] W fun e w'=>e=.returned (.int .i64 l)∧w'=W)) (E4:Hid (∀ W,Calls Try.prog 43 #[.int .i64 (d * 1048576 * 1048576)] W fun e w'=>e=.returned (.int .i64 h)∧w'=W)):Calls Try.prog 20 #[niv a,niv b] w fun e w'=>e=.returned (spr ((f,c),0))∧Below w.heap.size w w':=by
  have wv0:IntKind.i64.wrap (h + (p + q))=h + (p + q):=IntWalk.i64_in _ (by omega)
  have wv1:IntKind.i64.wrap (1099511627776 + l)=1099511627776 + l:=IntWalk.i64_in _ (by omega)
  have wv2:IntKind.i64.wrap (1099511627776 + l - (p + q))=1099511627776 + l - (p + q):=IntWalk.i64_in _ (by omega)
  have wv3:IntKind.i64.wrap (1099511627776 + l - (p + q) - 1)=1099511627776 + l - (p + q) - 1:=IntWalk.i64_in _ (by omega)
  have wv4:IntKind.i64.wrap (l - (p + q))=l - (p + q):=IntWalk.i64_in _ (by omega)
  have wv5:IntKind.i64.wrap f=f:=IntWalk.i64_in _ (by omega)
  have wv6:IntKind.i64.wrap c=c:=IntWalk.i64_in _ (by omega)
  have nz0:¬ (h + (p + q)=0):=by omega
  have nz1:¬ (l - (p + q)=0):=by omega
  obtain ⟨a1,a2,a3,a4,⟨a5,a6,a7⟩,a8⟩:=a
  obtain ⟨b1,b2,b3,b4,⟨b5,b6,b7⟩,b8⟩:=b
  dsimp only at *
  obtain ⟨hd1,hd2⟩:=hd
  obtain ⟨hx1,hx2⟩:=hx
  obtain ⟨hy1,hy2⟩:=hy
  obtain ⟨hp1,hp2⟩:=hp
  obtain ⟨hq1,hq2⟩:=hq
  obtain ⟨hl1,hl2⟩:=hl
  obtain ⟨hh1,hh2⟩:=hh
  go_enter Try.func20,Try.ntmps20
  go_wp2_with fail
  have G0:=Lib.hid (ndB_below (ndB_new w (a1,a2,a3,a4,(a5,a6,a7),a8) (nib (b1,b2,b3,b4,(b5,b6,b7),b8) 44)) ((Below.refl _ _).alloc (Nat.le_refl _) (.cells #[.int .i64 0,.int .i64 0] 47)))
  have G1:=Lib.hid (ndB_below (ndB_new1 (w.alloc (nib (a1,a2,a3,a4,(a5,a6,a7),a8) 44)) (b1,b2,b3,b4,(b5,b6,b7),b8) (w.heap.size + 1) (by simp)) ((Below.refl _ _).alloc (Nat.le_refl _) (.cells #[.int .i64 0,.int .i64 0] 47)))
  have P:=Lib.hid (show Pair (((w.alloc (nib (a1,a2,a3,a4,(a5,a6,a7),a8) 44)).alloc (nib (b1,b2,b3,b4,(b5,b6,b7),b8) 44)).alloc (.cells #[.int .i64 0,.int .i64 0] 47)) (w.heap.size + 1 + 1) 0 0 by have z:=pair_new ((w.alloc (nib (a1,a2,a3,a4,(a5,a6,a7),a8) 44)).alloc (nib (b1,b2,b3,b4,(b5,b6,b7),b8) 44)) 0 0 47;simpa using z)
  have V:=Lib.hid (show Below w.heap.size w (((w.alloc (nib (a1,a2,a3,a4,(a5,a6,a7),a8) 44)).alloc (nib (b1,b2,b3,b4,(b5,b6,b7),b8) 44)).alloc (.cells #[.int .i64 0,.int .i64 0] 47)) from (((Below.refl _ w).alloc (Nat.le_refl _) _).alloc (by simp) _).alloc (by simp <;> omega) _)
  refine (C1.out _).mono ?_
  rintro e w9 ⟨rfl,rfl⟩
  go_wp2_with fail
  refine (C2.out _).mono ?_
  rintro e w9 ⟨rfl,rfl⟩
  go_wp2_with fail
  refine (C3.out _).mono ?_
  rintro e w2 ⟨rfl,hb2⟩
  have G0':=Lib.hid (ndB_below G0.out hb2)
  have G1':=Lib.hid (ndB_below G1.out hb2)
  have V':=Lib.hid (bstep V.out hb2)
  have P':=Lib.hid (pair_below P.out hb2)
  clear G0 G1 V P hb2
  have P:=P'
  clear P'
  have G0:=G0'
  have G1:=G1'
  have V:=V'
  clear G0' G1' V'
  obtain ⟨x0,x1,x2,x3,x4,x5,x6,x7⟩:=ndB_cells G0.out
  obtain ⟨y0,y1,y2,y3,y4,y5,y6,y7⟩:=ndB_cells G1.out
  dsimp only at x0 y0 x1 y1 x2 y2 x3 y3 x4 y4 x5 y5 x6 y6 x7 y7
  go_wp2_with fail
  clear x0 y0 x1 y1 x2 y2 x3 y3 x4 y4 x5 y5 x6 y6 x7 y7
  refine (C4.out _).mono ?_
  rintro e w3 ⟨rfl,hb3⟩
  have G0':=Lib.hid (ndB_below G0.out hb3)
  have G1':=Lib.hid (ndB_below G1.out hb3)
  have V':=Lib.hid (bstep V.out hb3)
  have P':=Lib.hid (pair_below P.out hb3)
  clear G0 G1 V P hb3
  have P:=P'
  clear P'
  have G0:=G0'
  have G1:=G1'
  have V:=V'
  clear G0' G1' V'
  obtain ⟨x0,x1,x2,x3,x4,x5,x6,x7⟩:=ndB_cells G0.out
  obtain ⟨y0,y1,y2,y3,y4,y5,y6,y7⟩:=ndB_cells G1.out
  dsimp only at x0 y0 x1 y1 x2 y2 x3 y3 x4 y4 x5 y5 x6 y6 x7 y7
  go_wp2_with fail
  have wr0:IntKind.i64.wrap (a8 * 1048576)=a8 * 1048576:=IntWalk.i64_in _ (by omega)
  have wq0:IntKind.i64.wrap (a8 * 1048576 * 1048576)=a8 * 1048576 * 1048576:=IntWalk.i64_in _ (by omega)
  have wr1:IntKind.i64.wrap (b8 * 1048576)=b8 * 1048576:=IntWalk.i64_in _ (by omega)
  have wq1:IntKind.i64.wrap (b8 * 1048576 * 1048576)=b8 * 1048576 * 1048576:=IntWalk.i64_in _ (by omega)
  have wr2:IntKind.i64.wrap (d * 1048576)=d * 1048576:=IntWalk.i64_in _ (by omega)
  have wq2:IntKind.i64.wrap (d * 1048576 * 1048576)=d * 1048576 * 1048576:=IntWalk.i64_in _ (by omega)
  have wpq:IntKind.i64.wrap (p + q)=p + q:=IntWalk.i64_in _ (by omega)
  clear x0 y0 x1 y1 x2 y2 x3 y3 x4 y4 x5 y5 x6 y6 x7 y7
  refine (AA.out _).mono ?_
  rintro e w5 ⟨rfl,hb5⟩
  have G0':=Lib.hid (ndB_below G0.out hb5)
  have G1':=Lib.hid (ndB_below G1.out hb5)
  have V':=Lib.hid (bstep V.out hb5)
  have P':=Lib.hid (pair_below P.out hb5)
  clear G0 G1 V hb5 P
  obtain ⟨x0,x1,x2,x3,x4,x5,x6,x7⟩:=ndB_cells G0'.out
  obtain ⟨y0,y1,y2,y3,y4,y5,y6,y7⟩:=ndB_cells G1'.out
  dsimp only at x0 y0 x1 y1 x2 y2 x3 y3 x4 y4 x5 y5 x6 y6 x7 y7
  go_wp2_with fail
  clear x0 x1 x2 x3 x4 x5 x6 y0 y1 y2 y3 y4 y5 y6
  have S0:w5.cell? ⟨w.heap.size,7,none⟩=some (.int .i64 a8)∧w5.cell? ⟨w.heap.size + 1,7,none⟩=some (.int .i64 b8):=⟨x7,y7⟩
  clear x7 y7
  go_region_held3 (fun w'=>w'.cell? ⟨w.heap.size,7,none⟩=some (.int .i64 a8)∧w'.cell? ⟨w.heap.size + 1,7,none⟩=some (.int .i64 b8))
    (first | exact S0 | fail)
    (first | (go_at_call 43;(with_reducible refine (E1.out _).mono ?_);rintro e v1 ⟨rfl,rfl⟩) | (go_at_call 43;(with_reducible refine (E2.out _).mono ?_);rintro e v2 ⟨rfl,rfl⟩) | fail)
  all_goals
    have hB:=Below.drew V'.out
    have P6:=(show Pair w5.drew (w.heap.size + 1 + 1) 0 0 from P'.out)
    clear S0 G0' G1' V' P'
    generalize w5.drew=w6 at *
    obtain ⟨z0,z1,z2,z3,z4⟩:=P6
    go_wp2_with (first | (go_at_call 44;(with_reducible refine (E3.out _).mono ?_);rintro e v3 ⟨rfl,rfl⟩) | (go_at_call 43;(with_reducible refine (E4.out _).mono ?_);rintro e v4 ⟨rfl,rfl⟩))
  go_still_tail 14,(by kernel_rfl)
  all_goals
    change wpList _ _ _ _ _ (World.drew _)
    go_wp2
    refine bodyPost_ret (v:=spr ((f,c),0)) (by rw [results_cell_tmp rfl];go_simp) rfl ⟨rfl,?_⟩
    (repeat' (first | with_reducible exact hB | exact hB | refine Below.setCell ?_ (by simp <;> omega) _ | refine balloc ?_ _ | refine Below.drew ?_ | refine bdrewN ?_ _))
end Go.Proofs.Ytpocbdompamnnaa
