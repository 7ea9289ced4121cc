import Derived.Test.YtciimaojoococaaGreatSo51
import Derived.Test.YtciimaojoococaaGreatSoE
namespace Go.Proofs.YtciimaojoococaaGreat
open Go.ChangeShapes Go.WideShapes Go.RowKit
open Sh
set_option maxRecDepth 100000 in
set_option maxHeartbeats 4000000 in
theorem scenes_hi (a:Option Addr) (n c:Nat) (x:P3) (s t d:Int) (w:World) (h:(60:Int) < (n:Int)) (K:Hid (∀ W,Calls Tryz.prog 5 #[] W fun e w'=>e=.returned (.bool true)∧Below W.heap.size W w')):Calls Tryz.prog 3 #[.slice a n c,earv x s t d] w fun e w'=>e=.returned (.bool true)∧Below w.heap.size w w':=by
  have E0:=Lib.hid (ownE_new w x s t d 26)
  have B0:=Lib.hid (show Below w.heap.size w (w.alloc (earb x s t d 26)) from (Below.refl _ w).alloc (Nat.le_refl _) _)
  go_enter Tryz.func3,Tryz.ntmps3
  go_wp2_with fail
  with_reducible refine (K.out _).mono ?_
  rintro e w1 ⟨rfl,hb1⟩
  have hB:=bstep B0.out hb1
  clear hb1
  go_wp2
  go_ret
  exact ⟨rfl,by (repeat' (first | with_reducible exact hB | with_reducible refine Below.drew ?_ | (with_reducible refine balloc ?_ _) | (with_reducible refine Below.setCell ?_ (by simp <;> omega) _)))⟩
set_option maxRecDepth 100000 in
set_option maxHeartbeats 4000000 in
theorem scenes_lo (a:Option Addr) (n c:Nat) (x:P3) (s t d p q cd u v ce:Int) (w:World) (h:¬ (60:Int) < (n:Int)) (K:Hid (∀ W,Calls Tryz.prog 5 #[] W fun e w'=>e=.returned (.bool true)∧Below W.heap.size W w')) (C1:Hid (∀ W,Below w.heap.size w W→Calls Tryz.prog 6 #[.slice a n c,ptv x,.int .i64 s,.int .i64 t,.int .i64 d] W fun e w'=>e=.returned (spr ((p,q),cd))∧Below W.heap.size W w')) (C2:Hid (∀ W,Below w.heap.size w W→Calls Tryz.prog 7 #[.slice a n c,ptv x,.int .i64 s,.int .i64 t,.int .i64 d] W fun e w'=>e=.returned (spr ((p,q),cd))∧Below W.heap.size W w')) (C3:Hid (∀ W,Below w.heap.size w W→Calls Tryz.prog 8 #[.slice a n c,ptv x,.int .i64 d] W fun e w'=>e=.returned (spr ((u,v),ce))∧Below W.heap.size W w')) (C4:Hid (∀ W,Below w.heap.size w W→Calls Tryz.prog 9 #[.slice a n c,ptv x,.int .i64 d] W fun e w'=>e=.returned (spr ((u,v),ce))∧Below W.heap.size W w')):Calls Tryz.prog 3 #[.slice a n c,earv x s t d] w fun e w'=>e=.returned (.bool true)∧Below w.heap.size w w':=by
  have E0:=Lib.hid (ownE_new w x s t d 26)
  have B0:=Lib.hid (show Below w.heap.size w (w.alloc (earb x s t d 26)) from (Below.refl _ w).alloc (Nat.le_refl _) _)
  go_enter Tryz.func3,Tryz.ntmps3
  obtain ⟨⟨h0,h1,h2,h3,h4,h5⟩,el⟩:=E0.out
  go_wp2_with fail
  with_reducible refine (C1.out _ B0.out).mono ?_
  rintro e w1 ⟨rfl,hb1⟩
  clear h0 h1 h2 h3 h4 h5 el
  have ZB:=Lib.hid ((Below.refl w1.heap.size w1).alloc (Nat.le_refl _) (.cells #[.int .i64 p,.int .i64 q] 29))
  have E1:=Lib.hid (ownE_below (ownE_below E0.out hb1) ZB.out)
  have B1:=Lib.hid (balloc (bstep B0.out hb1) (.cells #[.int .i64 p,.int .i64 q] 29))
  have P11:=Lib.hid (pair_new w1 p q 29)
  clear hb1 ZB E0 B0
  obtain ⟨⟨h0,h1,h2,h3,h4,h5⟩,el⟩:=E1.out
  go_wp2_with fail
  with_reducible refine (C2.out _ B1.out).mono ?_
  rintro e w2 ⟨rfl,hb2⟩
  clear h0 h1 h2 h3 h4 h5 el
  have ZB:=Lib.hid ((Below.refl w2.heap.size w2).alloc (Nat.le_refl _) (.cells #[.int .i64 p,.int .i64 q] 29))
  have E2:=Lib.hid (ownE_below (ownE_below E1.out hb2) ZB.out)
  have B2:=Lib.hid (balloc (bstep B1.out hb2) (.cells #[.int .i64 p,.int .i64 q] 29))
  have P21:=Lib.hid (pair_below (pair_below P11.out hb2) ZB.out)
  have P22:=Lib.hid (pair_new w2 p q 29)
  clear hb2 ZB E1 B1 P11
  obtain ⟨⟨h0,h1,h2,h3,h4,h5⟩,el⟩:=E2.out
  go_wp2_with fail
  with_reducible refine (C3.out _ B2.out).mono ?_
  rintro e w3 ⟨rfl,hb3⟩
  clear h0 h1 h2 h3 h4 h5 el
  have ZB:=Lib.hid ((Below.refl w3.heap.size w3).alloc (Nat.le_refl _) (.cells #[.int .i64 u,.int .i64 v] 29))
  have E3:=Lib.hid (ownE_below (ownE_below E2.out hb3) ZB.out)
  have B3:=Lib.hid (balloc (bstep B2.out hb3) (.cells #[.int .i64 u,.int .i64 v] 29))
  have P31:=Lib.hid (pair_below (pair_below P21.out hb3) ZB.out)
  have P32:=Lib.hid (pair_below (pair_below P22.out hb3) ZB.out)
  have P33:=Lib.hid (pair_new w3 u v 29)
  clear hb3 ZB E2 B2 P21 P22
  obtain ⟨⟨h0,h1,h2,h3,h4,h5⟩,el⟩:=E3.out
  go_wp2_with fail
  with_reducible refine (C4.out _ B3.out).mono ?_
  rintro e w4 ⟨rfl,hb4⟩
  clear h0 h1 h2 h3 h4 h5 el
  have ZB:=Lib.hid ((Below.refl w4.heap.size w4).alloc (Nat.le_refl _) (.cells #[.int .i64 u,.int .i64 v] 29))
  have E4:=Lib.hid (ownE_below (ownE_below E3.out hb4) ZB.out)
  have B4:=Lib.hid (balloc (bstep B3.out hb4) (.cells #[.int .i64 u,.int .i64 v] 29))
  have P41:=Lib.hid (pair_below (pair_below P31.out hb4) ZB.out)
  have P42:=Lib.hid (pair_below (pair_below P32.out hb4) ZB.out)
  have P43:=Lib.hid (pair_below (pair_below P33.out hb4) ZB.out)
  have P44:=Lib.hid (pair_new w4 u v 29)
  clear hb4 ZB E3 B3 P31 P32 P33
  obtain ⟨a10,a11,a12,a13,a14⟩:=P41.out
  obtain ⟨a20,a21,a22,a23,a24⟩:=P42.out
  obtain ⟨a30,a31,a32,a33,a34⟩:=P43.out
  obtain ⟨a40,a41,a42,a43,a44⟩:=P44.out
  go_wp2_with fail
  with_reducible refine (K.out _).mono ?_
  rintro e w6 ⟨rfl,hb6⟩
  have hB:=bstep B4.out hb6
  clear hb6 a10 a11 a12 a13 a14 a20 a21 a22 a23 a24 a30 a31 a32 a33 a34 a40 a41 a42 a43 a44
  go_wp2
  go_ret
  exact ⟨rfl,by (repeat' (first | with_reducible exact hB | with_reducible refine Below.drew ?_ | (with_reducible refine balloc ?_ _) | (with_reducible refine Below.setCell ?_ (by simp <;> omega) _)))⟩
theorem scenes_walk (a:Option Addr) (n c:Nat) (Q:Nat→Pu) (x:P3) (s t d:Int) (w:World) (hm:n≤maxLen) (_:a=none→c=0) (r:LstU w a n Q):Calls Tryz.prog 3 #[.slice a n c,earv x s t d] w fun e w'=>e=.returned (.bool true)∧Below w.heap.size w w':=by
  unfold maxLen at hm
  by_cases h:(60:Int) < (n:Int)
  · exact scenes_hi a n c x s t d w h (Lib.hid fun W=>sane_any W)
  · exact scenes_lo a n c x s t d _ _ _ _ _ _ w h (Lib.hid fun W=>sane_any W)
      (Lib.hid fun W B=>scn_any a n c Q x s t d W (lstU_below r B) (by omega)) (Lib.hid fun W B=>rscn_any a n c Q x s t d W (lstU_below r B) (by omega))
      (Lib.hid fun W B=>tot_any a n c Q x d W (lstU_below r B) (by omega)) (Lib.hid fun W B=>rtot_any a n c Q x d W (lstU_below r B) (by omega))
end Go.Proofs.YtciimaojoococaaGreat
