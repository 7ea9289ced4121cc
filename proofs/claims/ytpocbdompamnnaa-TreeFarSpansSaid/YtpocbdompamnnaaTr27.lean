import Derived.Test.YtpocbdompamnnaaTr25
import Derived.Test.YtpocbdompamnnaaTr26
import Derived.Test.YtpocbdompamnnaaTr22
namespace Go.Proofs.Ytpocbdompamnnaa
open Go.ChangeShapes Go.WideShapes Go.RowKit
open Sh
theorem mul5 (n:Int) (h:0≤n):n * 1048576 * 1048576=((n.toNat * 1099511627776:Nat):Int):=by omega
theorem ab5_ru (n:Int) (h0:0≤n) (h1:n < 1048576) (w:World):Calls Try.prog 43 #[.int .i64 (n * 1048576 * 1048576)] w fun e w'=>e=.returned (.int .i64 (ruN n))∧w'=w:=by
  rw [mul5 n h0]
  exact (ab5_any (n.toNat * 1099511627776) w (by omega)).mono fun _ _ h=>⟨h.1,h.2.symm⟩
theorem be5_rt (n:Int) (h0:0≤n) (h1:n < 1048576) (w:World):Calls Try.prog 44 #[.int .i64 (n * 1048576 * 1048576)] w fun e w'=>e=.returned (.int .i64 (rtN n))∧w'=w:=by
  rw [mul5 n h0]
  exact (be5_any (n.toNat * 1099511627776) w (by omega)).mono fun _ _ h=>⟨h.1,h.2.symm⟩
theorem rfs_any (a b:Ni) (w:World):Calls Try.prog 20 #[niv a,niv b] w fun e w'=>e=.returned (spr (fsR a b))∧Below w.heap.size w w':=by
  have C1:=Lib.hid (fun (W:World)=>rwi5_any a.2.2.2.2.2 0 131072 W)
  have C2:=Lib.hid (fun (W:World)=>rwi5_any b.2.2.2.2.2 0 131072 W)
  have C3:=Lib.hid (fun (W:World)=>small_any a.2.2.2.2.1 64 W (by decide) (by decide))
  have C4:=Lib.hid (fun (W:World)=>small_any b.2.2.2.2.1 64 W (by decide) (by decide))
  have e0:ballB a=(rngB a.2.2.2.2.2 0 131072 && inP 64 a.2.2.2.2.1):=rfl
  have e1:ballB b=(rngB b.2.2.2.2.2 0 131072 && inP 64 b.2.2.2.2.1):=rfl
  cases h1:rngB a.2.2.2.2.2 0 131072 with
  | false =>
    rw [h1] at C1
    rw [show fsR a b=((0,0),1) by unfold fsR;rw [e0,h1,Bool.false_and,Bool.false_and];exact if_neg Bool.false_ne_true]
    exact rfs_no1 a b w C1
  | true =>
    rw [h1] at C1
    cases h2:rngB b.2.2.2.2.2 0 131072 with
    | false =>
      rw [h2] at C2
      rw [show fsR a b=((0,0),1) by unfold fsR;rw [e1,h2,Bool.false_and,Bool.and_false];exact if_neg Bool.false_ne_true]
      exact rfs_no2 a b w C1 C2
    | true =>
      rw [h2] at C2
      cases h3:inP 64 a.2.2.2.2.1 with
      | false =>
        rw [h3] at C3
        rw [show fsR a b=((0,0),1) by unfold fsR;rw [e0,h3,Bool.and_false,Bool.false_and];exact if_neg Bool.false_ne_true]
        exact rfs_no3 a b w C1 C2 C3
      | true =>
        rw [h3] at C3
        cases h4:inP 64 b.2.2.2.2.1 with
        | false =>
          rw [h4] at C4
          rw [show fsR a b=((0,0),1) by unfold fsR;rw [e1,h4,Bool.and_false,Bool.and_false];exact if_neg Bool.false_ne_true]
          exact rfs_no4 a b w C1 C2 C3 C4
        | true =>
          rw [h4] at C4
          have ba:ballB a=true:=by rw [e0,h1,h3];rfl
          have bb:ballB b=true:=by rw [e1,h2,h4];rfl
          have x:=ball5 ba
          have y:=ball5 bb
          have z:=sq5 (sub5 x.2.2 y.2.2)
          have q1:=rt_bd z.1 (by omega)
          have q2:=rt_bd x.1 (by omega)
          have q3:=rt_bd y.1 (by omega)
          have AA:=Lib.hid (fun (W:World)=>rap5_any a b W x.2.2 y.2.2)
          have E1:=Lib.hid (fun (W:World)=>ab5_ru a.2.2.2.2.2 x.1 (by omega) W)
          have E2:=Lib.hid (fun (W:World)=>ab5_ru b.2.2.2.2.2 y.1 (by omega) W)
          have E3:=Lib.hid (fun (W:World)=>be5_rt (sq (sub a.2.2.2.2.1 b.2.2.2.2.1)) z.1 (by omega) W)
          have E4:=Lib.hid (fun (W:World)=>ab5_ru (sq (sub a.2.2.2.2.1 b.2.2.2.2.1)) z.1 (by omega) W)
          have fs:fsR a b=if nearD a b≤0 then ((0,0),10) else ((Sp.fl 1099511627776 (farD a b),Sp.ce 1099511627776 (nearD a b)),0):=by
            unfold fsR
            rw [ba,bb]
            exact if_pos rfl
          rw [fs]
          have nd:nearD a b=rtN (sq (sub a.2.2.2.2.1 b.2.2.2.2.1)) - (ruN a.2.2.2.2.2 + ruN b.2.2.2.2.2):=rfl
          have fd:farD a b=ruN (sq (sub a.2.2.2.2.1 b.2.2.2.2.1)) + (ruN a.2.2.2.2.2 + ruN b.2.2.2.2.2):=rfl
          by_cases hn:nearD a b≤0
          · rw [if_pos hn]
            exact rfs_near a b _ _ _ _ _ w (by omega) (by omega) (by omega) (by omega) (by omega) (by omega) (by omega) (by omega) C1 C2 C3 C4 AA E1 E2 E3 E4
          · rw [if_neg hn]
            have f0:=fb5 (n:=1099511627776) (d:=farD a b) (by decide) (by omega)
            have f1:=fb5 (n:=1099511627776) (d:=nearD a b) (by decide) (by omega)
            refine rfs_far a b _ _ _ _ _ _ _ w (by omega) (by omega) (by omega) (by omega) (by omega) (by omega) (by omega) (by omega) q1.2.1 ?_ ?_ ⟨f0.1,f0.2.1⟩ ⟨f1.2.2.1,f1.2.2.2⟩ C1 C2 C3 C4 AA E1 E2 E3 E4
            · rw [← fd,Int.tdiv_eq_ediv_of_nonneg (by decide),Sp.fl_pos (by omega)]
            · rw [← nd,Int.tdiv_eq_ediv_of_nonneg (by omega),← ce5_up (by omega)]
              congr 1
              omega
set_option maxRecDepth 100000 in
set_option maxHeartbeats 4000000 in
theorem farspans_walk (a b:Ni) (w:World):Calls Try.prog 6 #[niv a,niv b] w fun e w'=>e=.returned (.bool true)∧Below w.heap.size w w':=by
  have X:=Lib.hid (fun W=>fs_any a b W)
  have Y:=Lib.hid (fun W=>rfs_any a b W)
  have Z:=Lib.hid (fun W=>fs_any b a W)
  have SN:=Lib.hid (fun W=>tsane_any W)
  rw [fsR_sw b a] at Z
  generalize fsR a b=R at *
  obtain ⟨⟨r1,r2⟩,e0⟩:=R
  obtain ⟨a1,a2,a3,a4,⟨a5,a6,a7⟩,a8⟩:=a
  obtain ⟨b1,b2,b3,b4,⟨b5,b6,b7⟩,b8⟩:=b
  go_enter Try.func6,Try.ntmps6
  go_wp2_with fail
  have G0:=Lib.hid (ndB_new w (a1,a2,a3,a4,(a5,a6,a7),a8) (nib (b1,b2,b3,b4,(b5,b6,b7),b8) 44))
  have G1:=Lib.hid (ndB_new1 (w.alloc (nib (a1,a2,a3,a4,(a5,a6,a7),a8) 44)) (b1,b2,b3,b4,(b5,b6,b7),b8) (w.heap.size + 1) (by simp))
  have V:=Lib.hid (show Below w.heap.size w ((w.alloc (nib (a1,a2,a3,a4,(a5,a6,a7),a8) 44)).alloc (nib (b1,b2,b3,b4,(b5,b6,b7),b8) 44)) from ((Below.refl _ w).alloc (Nat.le_refl _) _).alloc (by simp) _)
  refine (X.out _).mono ?_
  rintro e v1 ⟨rfl,hb1⟩
  have b1:Below v1.heap.size v1 (v1.alloc (.cells #[.int .i64 r1,.int .i64 r2] 47)):=(Below.refl _ v1).alloc (Nat.le_refl _) _
  have G0':=Lib.hid (ndB_below (ndB_below G0.out hb1) b1)
  have G1':=Lib.hid (ndB_below (ndB_below G1.out hb1) b1)
  have V':=Lib.hid (bstep (bstep V.out hb1) b1)
  have P1:=Lib.hid (pair_new v1 r1 r2 47)
  clear G0 G1 V hb1 b1
  have G0:=G0'
  have G1:=G1'
  have V:=V'
  clear G0' G1' V'
  obtain ⟨x0,x1,x2,x3,x4,x5,x6,x7⟩:=ndB_cells G0.out
  obtain ⟨y0,y1,y2,y3,y4,y5,y6,y7⟩:=ndB_cells G1.out
  dsimp only at x0 y0 x1 y1 x2 y2 x3 y3 x4 y4 x5 y5 x6 y6 x7 y7
  go_wp2_with fail
  clear x0 y0 x1 y1 x2 y2 x3 y3 x4 y4 x5 y5 x6 y6 x7 y7
  refine (Y.out _).mono ?_
  rintro e v2 ⟨rfl,hb2⟩
  have b2:Below v2.heap.size v2 (v2.alloc (.cells #[.int .i64 r1,.int .i64 r2] 47)):=(Below.refl _ v2).alloc (Nat.le_refl _) _
  have G0':=Lib.hid (ndB_below (ndB_below G0.out hb2) b2)
  have G1':=Lib.hid (ndB_below (ndB_below G1.out hb2) b2)
  have V':=Lib.hid (bstep (bstep V.out hb2) b2)
  have P1':=Lib.hid (pair_below (pair_below P1.out hb2) b2)
  have P2:=Lib.hid (pair_new v2 r1 r2 47)
  clear G0 G1 V hb2 b2 P1
  have G0:=G0'
  have G1:=G1'
  have V:=V'
  have P1:=P1'
  clear G0' G1' V' P1'
  obtain ⟨x0,x1,x2,x3,x4,x5,x6,x7⟩:=ndB_cells G0.out
  obtain ⟨y0,y1,y2,y3,y4,y5,y6,y7⟩:=ndB_cells G1.out
  dsimp only at x0 y0 x1 y1 x2 y2 x3 y3 x4 y4 x5 y5 x6 y6 x7 y7
  go_wp2_with fail
  clear x0 y0 x1 y1 x2 y2 x3 y3 x4 y4 x5 y5 x6 y6 x7 y7
  refine (Z.out _).mono ?_
  rintro e v3 ⟨rfl,hb3⟩
  have b3:Below v3.heap.size v3 (v3.alloc (.cells #[.int .i64 r1,.int .i64 r2] 47)):=(Below.refl _ v3).alloc (Nat.le_refl _) _
  have G0':=Lib.hid (ndB_below (ndB_below G0.out hb3) b3)
  have G1':=Lib.hid (ndB_below (ndB_below G1.out hb3) b3)
  have V':=Lib.hid (bstep (bstep V.out hb3) b3)
  have P1':=Lib.hid (pair_below (pair_below P1.out hb3) b3)
  have P2':=Lib.hid (pair_below (pair_below P2.out hb3) b3)
  have P3:=Lib.hid (pair_new v3 r1 r2 47)
  clear G0 G1 V hb3 b3 P1 P2
  have G0:=G0'
  have G1:=G1'
  have V:=V'
  have P1:=P1'
  have P2:=P2'
  clear G0' G1' V' P1' P2'
  obtain ⟨p0,p1,_,_,_⟩:=P1.out
  obtain ⟨q0,q1,_,_,_⟩:=P2.out
  obtain ⟨r0',r1',_,_,_⟩:=P3.out
  clear G0 G1 P1 P2 P3
  go_wp2_with fail
  refine (SN.out _).mono ?_
  rintro e v4 ⟨rfl,hb4⟩
  have hB:=bstep V.out hb4
  clear hb4
  go_wp2
  go_ret
  exact ⟨rfl,hB⟩
end Go.Proofs.Ytpocbdompamnnaa
