import Derived.Test.YtgchcnpgjfoadaaGreatSo66
import Derived.Test.YtgchcnpgjfoadaaGreatSo62
import Derived.Test.YtgchcnpgjfoadaaGreatSo45
import Derived.Test.YtgchcnpgjfoadaaGreatSo40
import Derived.Test.YtgchcnpgjfoadaaGreatMeet
namespace Go.Proofs.YtgchcnpgjfoadaaGreat
open Go.ChangeShapes Go.WideShapes Go.RowKit
open Sh
set_option maxRecDepth 100000 in
set_option maxHeartbeats 4000000 in
theorem tops_n (a:Option Addr) (n c:Nat) (x:P3) (s t d:Int) (w:World) (h:(16:Int) < (n:Int)) (TV:Hid (∀ W,Below w.heap.size w W→Calls Tryz.prog 4 #[ptv (0,0,0),ptv (4,0,0),.int .i64 2] W fun e w'=>e=.returned (.tuple #[.int .i64 2,.int .i64 0])∧Below W.heap.size W w')) (_:Hid (∀ W,Below w.heap.size w W→Calls Tryz.prog 5 #[.slice a n c,earv x s t d] W fun e w'=>e=.returned (.bool true)∧Below W.heap.size W w')) (_:Hid (∀ W,Below w.heap.size w W→Calls Tryz.prog 6 #[.slice a n c,earv x s t d] W fun e w'=>e=.returned (.bool true)∧Below W.heap.size W w')):Calls Tryz.prog 3 #[.slice a n c,earv x s t d] w fun e w'=>e=.returned (.bool true)∧Below w.heap.size w w':=by
  have E0:=Lib.hid (ownE_new w x s t d 26)
  have B0:=Lib.hid (show Below w.heap.size w (w.alloc (earb x s t d 26)) from (Below.refl _ w).alloc (Nat.le_refl _) _)
  go_enter Tryz.func3,Tryz.ntmps3
  obtain ⟨⟨h0,h1,h2,h3,h4,h5⟩,el⟩:=E0.out
  go_wp2_with fail
  with_reducible refine (TV.out _ B0.out).mono ?_
  rintro e w1 ⟨rfl,hb1⟩
  clear h0 h1 h2 h3 h4 h5 el
  have E1:=Lib.hid (ownE_below E0.out hb1)
  have B1:=Lib.hid (bstep B0.out hb1)
  have hB:=B1.out
  go_wp2
  go_ret
  exact ⟨rfl,by (repeat' (first | with_reducible exact hB | with_reducible refine Below.drew ?_ | (with_reducible refine balloc ?_ _) | (with_reducible refine Below.setCell ?_ (by simp <;> omega) _)))⟩
set_option maxRecDepth 100000 in
set_option maxHeartbeats 4000000 in
theorem tops_n3 (a:Option Addr) (n c:Nat) (x:P3) (s t d:Int) (w:World) (h:¬ (16:Int) < (n:Int)) (z:(3:Int) < (n:Int)) (TV:Hid (∀ W,Below w.heap.size w W→Calls Tryz.prog 4 #[ptv (0,0,0),ptv (4,0,0),.int .i64 2] W fun e w'=>e=.returned (.tuple #[.int .i64 2,.int .i64 0])∧Below W.heap.size W w')) (QU:Hid (∀ W,Below w.heap.size w W→Calls Tryz.prog 5 #[.slice a n c,earv x s t d] W fun e w'=>e=.returned (.bool true)∧Below W.heap.size W w')) (WA:Hid (∀ W,Below w.heap.size w W→Calls Tryz.prog 6 #[.slice a n c,earv x s t d] W fun e w'=>e=.returned (.bool true)∧Below W.heap.size W w')):Calls Tryz.prog 3 #[.slice a n c,earv x s t d] w fun e w'=>e=.returned (.bool true)∧Below w.heap.size w w':=by
  have E0:=Lib.hid (ownE_new w x s t d 26)
  have B0:=Lib.hid (show Below w.heap.size w (w.alloc (earb x s t d 26)) from (Below.refl _ w).alloc (Nat.le_refl _) _)
  go_enter Tryz.func3,Tryz.ntmps3
  have h9:decide ((16:Int) < (n:Int))=false:=decide_eq_false h
  obtain ⟨⟨h0,h1,h2,h3,h4,h5⟩,el⟩:=E0.out
  go_wp2_with fail
  with_reducible refine (TV.out _ B0.out).mono ?_
  rintro e w1 ⟨rfl,hb1⟩
  clear h0 h1 h2 h3 h4 h5 el
  have E1:=Lib.hid (ownE_below E0.out hb1)
  have B1:=Lib.hid (bstep B0.out hb1)
  obtain ⟨⟨h0,h1,h2,h3,h4,h5⟩,el⟩:=E1.out
  go_wp2_with fail
  with_reducible refine (QU.out _ B1.out).mono ?_
  rintro e w2 ⟨rfl,hb2⟩
  clear h0 h1 h2 h3 h4 h5 el
  have E2:=Lib.hid (ownE_below E1.out hb2)
  have B2:=Lib.hid (bstep B1.out hb2)
  obtain ⟨⟨h0,h1,h2,h3,h4,h5⟩,el⟩:=E2.out
  go_wp2_with fail
  with_reducible refine (WA.out _ B2.out).mono ?_
  rintro e w3 ⟨rfl,hb3⟩
  clear h0 h1 h2 h3 h4 h5 el
  have E3:=Lib.hid (ownE_below E2.out hb3)
  have B3:=Lib.hid (bstep B2.out hb3)
  obtain ⟨⟨h0,h1,h2,h3,h4,h5⟩,el⟩:=E3.out
  have hB:=B3.out
  go_wp2
  go_ret
  exact ⟨rfl,by (repeat' (first | with_reducible exact hB | with_reducible refine Below.drew ?_ | (with_reducible refine balloc ?_ _) | (with_reducible refine Below.setCell ?_ (by simp <;> omega) _)))⟩
set_option maxRecDepth 100000 in
set_option maxHeartbeats 4000000 in
theorem tops_dl (a:Option Addr) (n c:Nat) (x:P3) (s t d:Int) (w:World) (h:¬ (16:Int) < (n:Int)) (z0:¬ (3:Int) < (n:Int)) (z:d < 0) (TV:Hid (∀ W,Below w.heap.size w W→Calls Tryz.prog 4 #[ptv (0,0,0),ptv (4,0,0),.int .i64 2] W fun e w'=>e=.returned (.tuple #[.int .i64 2,.int .i64 0])∧Below W.heap.size W w')) (QU:Hid (∀ W,Below w.heap.size w W→Calls Tryz.prog 5 #[.slice a n c,earv x s t d] W fun e w'=>e=.returned (.bool true)∧Below W.heap.size W w')) (WA:Hid (∀ W,Below w.heap.size w W→Calls Tryz.prog 6 #[.slice a n c,earv x s t d] W fun e w'=>e=.returned (.bool true)∧Below W.heap.size W w')):Calls Tryz.prog 3 #[.slice a n c,earv x s t d] w fun e w'=>e=.returned (.bool true)∧Below w.heap.size w w':=by
  have E0:=Lib.hid (ownE_new w x s t d 26)
  have B0:=Lib.hid (show Below w.heap.size w (w.alloc (earb x s t d 26)) from (Below.refl _ w).alloc (Nat.le_refl _) _)
  go_enter Tryz.func3,Tryz.ntmps3
  have h8:decide ((3:Int) < (n:Int))=false:=decide_eq_false z0
  have h9:decide ((16:Int) < (n:Int))=false:=decide_eq_false h
  obtain ⟨⟨h0,h1,h2,h3,h4,h5⟩,el⟩:=E0.out
  go_wp2_with fail
  with_reducible refine (TV.out _ B0.out).mono ?_
  rintro e w1 ⟨rfl,hb1⟩
  clear h0 h1 h2 h3 h4 h5 el
  have E1:=Lib.hid (ownE_below E0.out hb1)
  have B1:=Lib.hid (bstep B0.out hb1)
  obtain ⟨⟨h0,h1,h2,h3,h4,h5⟩,el⟩:=E1.out
  go_wp2_with fail
  with_reducible refine (QU.out _ B1.out).mono ?_
  rintro e w2 ⟨rfl,hb2⟩
  clear h0 h1 h2 h3 h4 h5 el
  have E2:=Lib.hid (ownE_below E1.out hb2)
  have B2:=Lib.hid (bstep B1.out hb2)
  obtain ⟨⟨h0,h1,h2,h3,h4,h5⟩,el⟩:=E2.out
  go_wp2_with fail
  with_reducible refine (WA.out _ B2.out).mono ?_
  rintro e w3 ⟨rfl,hb3⟩
  clear h0 h1 h2 h3 h4 h5 el
  have E3:=Lib.hid (ownE_below E2.out hb3)
  have B3:=Lib.hid (bstep B2.out hb3)
  obtain ⟨⟨h0,h1,h2,h3,h4,h5⟩,el⟩:=E3.out
  have hB:=B3.out
  go_wp2
  go_ret
  exact ⟨rfl,by (repeat' (first | with_reducible exact hB | with_reducible refine Below.drew ?_ | (with_reducible refine balloc ?_ _) | (with_reducible refine Below.setCell ?_ (by simp <;> omega) _)))⟩
set_option maxRecDepth 100000 in
set_option maxHeartbeats 4000000 in
theorem tops_dh (a:Option Addr) (n c:Nat) (x:P3) (s t d:Int) (w:World) (h:¬ (16:Int) < (n:Int)) (z0:¬ (3:Int) < (n:Int)) (z1:¬ d < 0) (z:(1:Int) < d) (TV:Hid (∀ W,Below w.heap.size w W→Calls Tryz.prog 4 #[ptv (0,0,0),ptv (4,0,0),.int .i64 2] W fun e w'=>e=.returned (.tuple #[.int .i64 2,.int .i64 0])∧Below W.heap.size W w')) (QU:Hid (∀ W,Below w.heap.size w W→Calls Tryz.prog 5 #[.slice a n c,earv x s t d] W fun e w'=>e=.returned (.bool true)∧Below W.heap.size W w')) (WA:Hid (∀ W,Below w.heap.size w W→Calls Tryz.prog 6 #[.slice a n c,earv x s t d] W fun e w'=>e=.returned (.bool true)∧Below W.heap.size W w')):Calls Tryz.prog 3 #[.slice a n c,earv x s t d] w fun e w'=>e=.returned (.bool true)∧Below w.heap.size w w':=by
  have E0:=Lib.hid (ownE_new w x s t d 26)
  have B0:=Lib.hid (show Below w.heap.size w (w.alloc (earb x s t d 26)) from (Below.refl _ w).alloc (Nat.le_refl _) _)
  go_enter Tryz.func3,Tryz.ntmps3
  have h8:decide ((3:Int) < (n:Int))=false:=decide_eq_false z0
  have h7:decide (d < 0)=false:=decide_eq_false z1
  have h9:decide ((16:Int) < (n:Int))=false:=decide_eq_false h
  obtain ⟨⟨h0,h1,h2,h3,h4,h5⟩,el⟩:=E0.out
  go_wp2_with fail
  with_reducible refine (TV.out _ B0.out).mono ?_
  rintro e w1 ⟨rfl,hb1⟩
  clear h0 h1 h2 h3 h4 h5 el
  have E1:=Lib.hid (ownE_below E0.out hb1)
  have B1:=Lib.hid (bstep B0.out hb1)
  obtain ⟨⟨h0,h1,h2,h3,h4,h5⟩,el⟩:=E1.out
  go_wp2_with fail
  with_reducible refine (QU.out _ B1.out).mono ?_
  rintro e w2 ⟨rfl,hb2⟩
  clear h0 h1 h2 h3 h4 h5 el
  have E2:=Lib.hid (ownE_below E1.out hb2)
  have B2:=Lib.hid (bstep B1.out hb2)
  obtain ⟨⟨h0,h1,h2,h3,h4,h5⟩,el⟩:=E2.out
  go_wp2_with fail
  with_reducible refine (WA.out _ B2.out).mono ?_
  rintro e w3 ⟨rfl,hb3⟩
  clear h0 h1 h2 h3 h4 h5 el
  have E3:=Lib.hid (ownE_below E2.out hb3)
  have B3:=Lib.hid (bstep B2.out hb3)
  obtain ⟨⟨h0,h1,h2,h3,h4,h5⟩,el⟩:=E3.out
  have hB:=B3.out
  go_wp2
  go_ret
  exact ⟨rfl,by (repeat' (first | with_reducible exact hB | with_reducible refine Below.drew ?_ | (with_reducible refine balloc ?_ _) | (with_reducible refine Below.setCell ?_ (by simp <;> omega) _)))⟩
set_option maxRecDepth 100000 in
set_option maxHeartbeats 4000000 in
theorem tops_e1 (a:Option Addr) (n c:Nat) (x:P3) (s t d k l lt ht e1 e2:Int) (w:World) (h:¬ (16:Int) < (n:Int)) (z0:¬ (3:Int) < (n:Int)) (z1:¬ d < 0) (z2:¬ (1:Int) < d) (z:(e1 != 0)=true) (TV:Hid (∀ W,Below w.heap.size w W→Calls Tryz.prog 4 #[ptv (0,0,0),ptv (4,0,0),.int .i64 2] W fun e w'=>e=.returned (.tuple #[.int .i64 2,.int .i64 0])∧Below W.heap.size W w')) (QU:Hid (∀ W,Below w.heap.size w W→Calls Tryz.prog 5 #[.slice a n c,earv x s t d] W fun e w'=>e=.returned (.bool true)∧Below W.heap.size W w')) (WA:Hid (∀ W,Below w.heap.size w W→Calls Tryz.prog 6 #[.slice a n c,earv x s t d] W fun e w'=>e=.returned (.bool true)∧Below W.heap.size W w')) (TI:Hid (∀ W,Below w.heap.size w W→Calls Tryz.prog 7 #[.slice a n c,ptv x,.int .i64 s] W fun e w'=>e=.returned (.tuple #[.int .i64 k,.int .i64 l,.int .i64 e1])∧Below W.heap.size W w')) (TT:Hid (∀ W,Below w.heap.size w W→Calls Tryz.prog 8 #[.slice a n c,ptv x,.int .i64 d] W fun e w'=>e=.returned (spr ((lt,ht),e2))∧Below W.heap.size W w')):Calls Tryz.prog 3 #[.slice a n c,earv x s t d] w fun e w'=>e=.returned (.bool true)∧Below w.heap.size w w':=by
  have E0:=Lib.hid (ownE_new w x s t d 26)
  have B0:=Lib.hid (show Below w.heap.size w (w.alloc (earb x s t d 26)) from (Below.refl _ w).alloc (Nat.le_refl _) _)
  go_enter Tryz.func3,Tryz.ntmps3
  have h8:decide ((3:Int) < (n:Int))=false:=decide_eq_false z0
  have h7:decide (d < 0)=false:=decide_eq_false z1
  have h6:decide ((1:Int) < d)=false:=decide_eq_false z2
  have h9:decide ((16:Int) < (n:Int))=false:=decide_eq_false h
  obtain ⟨⟨h0,h1,h2,h3,h4,h5⟩,el⟩:=E0.out
  go_wp2_with fail
  with_reducible refine (TV.out _ B0.out).mono ?_
  rintro e w1 ⟨rfl,hb1⟩
  clear h0 h1 h2 h3 h4 h5 el
  have E1:=Lib.hid (ownE_below E0.out hb1)
  have B1:=Lib.hid (bstep B0.out hb1)
  obtain ⟨⟨h0,h1,h2,h3,h4,h5⟩,el⟩:=E1.out
  go_wp2_with fail
  with_reducible refine (QU.out _ B1.out).mono ?_
  rintro e w2 ⟨rfl,hb2⟩
  clear h0 h1 h2 h3 h4 h5 el
  have E2:=Lib.hid (ownE_below E1.out hb2)
  have B2:=Lib.hid (bstep B1.out hb2)
  obtain ⟨⟨h0,h1,h2,h3,h4,h5⟩,el⟩:=E2.out
  go_wp2_with fail
  with_reducible refine (WA.out _ B2.out).mono ?_
  rintro e w3 ⟨rfl,hb3⟩
  clear h0 h1 h2 h3 h4 h5 el
  have E3:=Lib.hid (ownE_below E2.out hb3)
  have B3:=Lib.hid (bstep B2.out hb3)
  obtain ⟨⟨h0,h1,h2,h3,h4,h5⟩,el⟩:=E3.out
  go_wp2_with fail
  with_reducible refine (TI.out _ B3.out).mono ?_
  rintro e w4 ⟨rfl,hb4⟩
  clear h0 h1 h2 h3 h4 h5 el
  have E4:=Lib.hid (ownE_below E3.out hb4)
  have B4:=Lib.hid (bstep B3.out hb4)
  obtain ⟨⟨h0,h1,h2,h3,h4,h5⟩,el⟩:=E4.out
  go_wp2_with fail
  with_reducible refine (TT.out _ B4.out).mono ?_
  rintro e w5 ⟨rfl,hb5⟩
  clear h0 h1 h2 h3 h4 h5 el
  have ZB:=Lib.hid ((Below.refl w5.heap.size w5).alloc (Nat.le_refl _) (.cells #[.int .i64 lt,.int .i64 ht] 34))
  have E5:=Lib.hid (ownE_below (ownE_below E4.out hb5) ZB.out)
  have B5:=Lib.hid (balloc (bstep B4.out hb5) (.cells #[.int .i64 lt,.int .i64 ht] 34))
  obtain ⟨⟨h0,h1,h2,h3,h4,h5⟩,el⟩:=E5.out
  have hB:=B5.out
  go_wp2
  go_ret
  exact ⟨rfl,by (repeat' (first | with_reducible exact hB | with_reducible refine Below.drew ?_ | (with_reducible refine balloc ?_ _) | (with_reducible refine Below.setCell ?_ (by simp <;> omega) _)))⟩
set_option maxRecDepth 100000 in
set_option maxHeartbeats 4000000 in
theorem tops_e2 (a:Option Addr) (n c:Nat) (x:P3) (s t d k l lt ht e2:Int) (w:World) (h:¬ (16:Int) < (n:Int)) (z0:¬ (3:Int) < (n:Int)) (z1:¬ d < 0) (z2:¬ (1:Int) < d) (z:(e2 != 0)=true) (TV:Hid (∀ W,Below w.heap.size w W→Calls Tryz.prog 4 #[ptv (0,0,0),ptv (4,0,0),.int .i64 2] W fun e w'=>e=.returned (.tuple #[.int .i64 2,.int .i64 0])∧Below W.heap.size W w')) (QU:Hid (∀ W,Below w.heap.size w W→Calls Tryz.prog 5 #[.slice a n c,earv x s t d] W fun e w'=>e=.returned (.bool true)∧Below W.heap.size W w')) (WA:Hid (∀ W,Below w.heap.size w W→Calls Tryz.prog 6 #[.slice a n c,earv x s t d] W fun e w'=>e=.returned (.bool true)∧Below W.heap.size W w')) (TI:Hid (∀ W,Below w.heap.size w W→Calls Tryz.prog 7 #[.slice a n c,ptv x,.int .i64 s] W fun e w'=>e=.returned (.tuple #[.int .i64 k,.int .i64 l,.int .i64 0])∧Below W.heap.size W w')) (TT:Hid (∀ W,Below w.heap.size w W→Calls Tryz.prog 8 #[.slice a n c,ptv x,.int .i64 d] W fun e w'=>e=.returned (spr ((lt,ht),e2))∧Below W.heap.size W w')):Calls Tryz.prog 3 #[.slice a n c,earv x s t d] w fun e w'=>e=.returned (.bool true)∧Below w.heap.size w w':=by
  have E0:=Lib.hid (ownE_new w x s t d 26)
  have B0:=Lib.hid (show Below w.heap.size w (w.alloc (earb x s t d 26)) from (Below.refl _ w).alloc (Nat.le_refl _) _)
  go_enter Tryz.func3,Tryz.ntmps3
  have h8:decide ((3:Int) < (n:Int))=false:=decide_eq_false z0
  have h7:decide (d < 0)=false:=decide_eq_false z1
  have h6:decide ((1:Int) < d)=false:=decide_eq_false z2
  have h9:decide ((16:Int) < (n:Int))=false:=decide_eq_false h
  obtain ⟨⟨h0,h1,h2,h3,h4,h5⟩,el⟩:=E0.out
  go_wp2_with fail
  with_reducible refine (TV.out _ B0.out).mono ?_
  rintro e w1 ⟨rfl,hb1⟩
  clear h0 h1 h2 h3 h4 h5 el
  have E1:=Lib.hid (ownE_below E0.out hb1)
  have B1:=Lib.hid (bstep B0.out hb1)
  obtain ⟨⟨h0,h1,h2,h3,h4,h5⟩,el⟩:=E1.out
  go_wp2_with fail
  with_reducible refine (QU.out _ B1.out).mono ?_
  rintro e w2 ⟨rfl,hb2⟩
  clear h0 h1 h2 h3 h4 h5 el
  have E2:=Lib.hid (ownE_below E1.out hb2)
  have B2:=Lib.hid (bstep B1.out hb2)
  obtain ⟨⟨h0,h1,h2,h3,h4,h5⟩,el⟩:=E2.out
  go_wp2_with fail
  with_reducible refine (WA.out _ B2.out).mono ?_
  rintro e w3 ⟨rfl,hb3⟩
  clear h0 h1 h2 h3 h4 h5 el
  have E3:=Lib.hid (ownE_below E2.out hb3)
  have B3:=Lib.hid (bstep B2.out hb3)
  obtain ⟨⟨h0,h1,h2,h3,h4,h5⟩,el⟩:=E3.out
  go_wp2_with fail
  with_reducible refine (TI.out _ B3.out).mono ?_
  rintro e w4 ⟨rfl,hb4⟩
  clear h0 h1 h2 h3 h4 h5 el
  have E4:=Lib.hid (ownE_below E3.out hb4)
  have B4:=Lib.hid (bstep B3.out hb4)
  obtain ⟨⟨h0,h1,h2,h3,h4,h5⟩,el⟩:=E4.out
  go_wp2_with fail
  with_reducible refine (TT.out _ B4.out).mono ?_
  rintro e w5 ⟨rfl,hb5⟩
  clear h0 h1 h2 h3 h4 h5 el
  have ZB:=Lib.hid ((Below.refl w5.heap.size w5).alloc (Nat.le_refl _) (.cells #[.int .i64 lt,.int .i64 ht] 34))
  have E5:=Lib.hid (ownE_below (ownE_below E4.out hb5) ZB.out)
  have B5:=Lib.hid (balloc (bstep B4.out hb5) (.cells #[.int .i64 lt,.int .i64 ht] 34))
  obtain ⟨⟨h0,h1,h2,h3,h4,h5⟩,el⟩:=E5.out
  have hB:=B5.out
  go_wp2
  go_ret
  exact ⟨rfl,by (repeat' (first | with_reducible exact hB | with_reducible refine Below.drew ?_ | (with_reducible refine balloc ?_ _) | (with_reducible refine Below.setCell ?_ (by simp <;> omega) _)))⟩
set_option maxRecDepth 100000 in
set_option maxHeartbeats 4000000 in
theorem tops_e3 (a:Option Addr) (n c:Nat) (x:P3) (s t d k l lt ht :Int) (w:World) (h:¬ (16:Int) < (n:Int)) (z0:¬ (3:Int) < (n:Int)) (z1:¬ d < 0) (z2:¬ (1:Int) < d) (k1:0≤k) (k2:k≤1073741824) (l1:0≤l) (l2:l≤1073741824) (z:(200:Int) < l - k) (TV:Hid (∀ W,Below w.heap.size w W→Calls Tryz.prog 4 #[ptv (0,0,0),ptv (4,0,0),.int .i64 2] W fun e w'=>e=.returned (.tuple #[.int .i64 2,.int .i64 0])∧Below W.heap.size W w')) (QU:Hid (∀ W,Below w.heap.size w W→Calls Tryz.prog 5 #[.slice a n c,earv x s t d] W fun e w'=>e=.returned (.bool true)∧Below W.heap.size W w')) (WA:Hid (∀ W,Below w.heap.size w W→Calls Tryz.prog 6 #[.slice a n c,earv x s t d] W fun e w'=>e=.returned (.bool true)∧Below W.heap.size W w')) (TI:Hid (∀ W,Below w.heap.size w W→Calls Tryz.prog 7 #[.slice a n c,ptv x,.int .i64 s] W fun e w'=>e=.returned (.tuple #[.int .i64 k,.int .i64 l,.int .i64 0])∧Below W.heap.size W w')) (TT:Hid (∀ W,Below w.heap.size w W→Calls Tryz.prog 8 #[.slice a n c,ptv x,.int .i64 d] W fun e w'=>e=.returned (spr ((lt,ht),0))∧Below W.heap.size W w')):Calls Tryz.prog 3 #[.slice a n c,earv x s t d] w fun e w'=>e=.returned (.bool true)∧Below w.heap.size w w':=by
  have E0:=Lib.hid (ownE_new w x s t d 26)
  have B0:=Lib.hid (show Below w.heap.size w (w.alloc (earb x s t d 26)) from (Below.refl _ w).alloc (Nat.le_refl _) _)
  go_enter Tryz.func3,Tryz.ntmps3
  have h8:decide ((3:Int) < (n:Int))=false:=decide_eq_false z0
  have h7:decide (d < 0)=false:=decide_eq_false z1
  have h6:decide ((1:Int) < d)=false:=decide_eq_false z2
  have h9:decide ((16:Int) < (n:Int))=false:=decide_eq_false h
  obtain ⟨⟨h0,h1,h2,h3,h4,h5⟩,el⟩:=E0.out
  go_wp2_with fail
  with_reducible refine (TV.out _ B0.out).mono ?_
  rintro e w1 ⟨rfl,hb1⟩
  clear h0 h1 h2 h3 h4 h5 el
  have E1:=Lib.hid (ownE_below E0.out hb1)
  have B1:=Lib.hid (bstep B0.out hb1)
  obtain ⟨⟨h0,h1,h2,h3,h4,h5⟩,el⟩:=E1.out
  go_wp2_with fail
  with_reducible refine (QU.out _ B1.out).mono ?_
  rintro e w2 ⟨rfl,hb2⟩
  clear h0 h1 h2 h3 h4 h5 el
  have E2:=Lib.hid (ownE_below E1.out hb2)
  have B2:=Lib.hid (bstep B1.out hb2)
  obtain ⟨⟨h0,h1,h2,h3,h4,h5⟩,el⟩:=E2.out
  go_wp2_with fail
  with_reducible refine (WA.out _ B2.out).mono ?_
  rintro e w3 ⟨rfl,hb3⟩
  clear h0 h1 h2 h3 h4 h5 el
  have E3:=Lib.hid (ownE_below E2.out hb3)
  have B3:=Lib.hid (bstep B2.out hb3)
  obtain ⟨⟨h0,h1,h2,h3,h4,h5⟩,el⟩:=E3.out
  go_wp2_with fail
  with_reducible refine (TI.out _ B3.out).mono ?_
  rintro e w4 ⟨rfl,hb4⟩
  clear h0 h1 h2 h3 h4 h5 el
  have E4:=Lib.hid (ownE_below E3.out hb4)
  have B4:=Lib.hid (bstep B3.out hb4)
  obtain ⟨⟨h0,h1,h2,h3,h4,h5⟩,el⟩:=E4.out
  go_wp2_with fail
  with_reducible refine (TT.out _ B4.out).mono ?_
  rintro e w5 ⟨rfl,hb5⟩
  clear h0 h1 h2 h3 h4 h5 el
  have ZB:=Lib.hid ((Below.refl w5.heap.size w5).alloc (Nat.le_refl _) (.cells #[.int .i64 lt,.int .i64 ht] 34))
  have E5:=Lib.hid (ownE_below (ownE_below E4.out hb5) ZB.out)
  have B5:=Lib.hid (balloc (bstep B4.out hb5) (.cells #[.int .i64 lt,.int .i64 ht] 34))
  obtain ⟨⟨h0,h1,h2,h3,h4,h5⟩,el⟩:=E5.out
  have hB:=B5.out
  go_wp2
  go_ret
  exact ⟨rfl,by (repeat' (first | with_reducible exact hB | with_reducible refine Below.drew ?_ | (with_reducible refine balloc ?_ _) | (with_reducible refine Below.setCell ?_ (by simp <;> omega) _)))⟩
set_option maxRecDepth 100000 in
set_option maxHeartbeats 4000000 in
theorem tops_e4 (a:Option Addr) (n c:Nat) (x:P3) (s t d k l lt ht :Int) (w:World) (h:¬ (16:Int) < (n:Int)) (z0:¬ (3:Int) < (n:Int)) (z1:¬ d < 0) (z2:¬ (1:Int) < d) (k1:0≤k) (k2:k≤1073741824) (l1:0≤l) (l2:l≤1073741824) (z:¬ (200:Int) < l - k) (y:(2000:Int) < l) (TV:Hid (∀ W,Below w.heap.size w W→Calls Tryz.prog 4 #[ptv (0,0,0),ptv (4,0,0),.int .i64 2] W fun e w'=>e=.returned (.tuple #[.int .i64 2,.int .i64 0])∧Below W.heap.size W w')) (QU:Hid (∀ W,Below w.heap.size w W→Calls Tryz.prog 5 #[.slice a n c,earv x s t d] W fun e w'=>e=.returned (.bool true)∧Below W.heap.size W w')) (WA:Hid (∀ W,Below w.heap.size w W→Calls Tryz.prog 6 #[.slice a n c,earv x s t d] W fun e w'=>e=.returned (.bool true)∧Below W.heap.size W w')) (TI:Hid (∀ W,Below w.heap.size w W→Calls Tryz.prog 7 #[.slice a n c,ptv x,.int .i64 s] W fun e w'=>e=.returned (.tuple #[.int .i64 k,.int .i64 l,.int .i64 0])∧Below W.heap.size W w')) (TT:Hid (∀ W,Below w.heap.size w W→Calls Tryz.prog 8 #[.slice a n c,ptv x,.int .i64 d] W fun e w'=>e=.returned (spr ((lt,ht),0))∧Below W.heap.size W w')):Calls Tryz.prog 3 #[.slice a n c,earv x s t d] w fun e w'=>e=.returned (.bool true)∧Below w.heap.size w w':=by
  have E0:=Lib.hid (ownE_new w x s t d 26)
  have B0:=Lib.hid (show Below w.heap.size w (w.alloc (earb x s t d 26)) from (Below.refl _ w).alloc (Nat.le_refl _) _)
  go_enter Tryz.func3,Tryz.ntmps3
  have h5:decide ((200:Int) < l - k)=false:=decide_eq_false z
  have h8:decide ((3:Int) < (n:Int))=false:=decide_eq_false z0
  have h7:decide (d < 0)=false:=decide_eq_false z1
  have h6:decide ((1:Int) < d)=false:=decide_eq_false z2
  have h9:decide ((16:Int) < (n:Int))=false:=decide_eq_false h
  obtain ⟨⟨h0,h1,h2,h3,h4,h5⟩,el⟩:=E0.out
  go_wp2_with fail
  with_reducible refine (TV.out _ B0.out).mono ?_
  rintro e w1 ⟨rfl,hb1⟩
  clear h0 h1 h2 h3 h4 h5 el
  have E1:=Lib.hid (ownE_below E0.out hb1)
  have B1:=Lib.hid (bstep B0.out hb1)
  obtain ⟨⟨h0,h1,h2,h3,h4,h5⟩,el⟩:=E1.out
  go_wp2_with fail
  with_reducible refine (QU.out _ B1.out).mono ?_
  rintro e w2 ⟨rfl,hb2⟩
  clear h0 h1 h2 h3 h4 h5 el
  have E2:=Lib.hid (ownE_below E1.out hb2)
  have B2:=Lib.hid (bstep B1.out hb2)
  obtain ⟨⟨h0,h1,h2,h3,h4,h5⟩,el⟩:=E2.out
  go_wp2_with fail
  with_reducible refine (WA.out _ B2.out).mono ?_
  rintro e w3 ⟨rfl,hb3⟩
  clear h0 h1 h2 h3 h4 h5 el
  have E3:=Lib.hid (ownE_below E2.out hb3)
  have B3:=Lib.hid (bstep B2.out hb3)
  obtain ⟨⟨h0,h1,h2,h3,h4,h5⟩,el⟩:=E3.out
  go_wp2_with fail
  with_reducible refine (TI.out _ B3.out).mono ?_
  rintro e w4 ⟨rfl,hb4⟩
  clear h0 h1 h2 h3 h4 h5 el
  have E4:=Lib.hid (ownE_below E3.out hb4)
  have B4:=Lib.hid (bstep B3.out hb4)
  obtain ⟨⟨h0,h1,h2,h3,h4,h5⟩,el⟩:=E4.out
  go_wp2_with fail
  with_reducible refine (TT.out _ B4.out).mono ?_
  rintro e w5 ⟨rfl,hb5⟩
  clear h0 h1 h2 h3 h4 h5 el
  have ZB:=Lib.hid ((Below.refl w5.heap.size w5).alloc (Nat.le_refl _) (.cells #[.int .i64 lt,.int .i64 ht] 34))
  have E5:=Lib.hid (ownE_below (ownE_below E4.out hb5) ZB.out)
  have B5:=Lib.hid (balloc (bstep B4.out hb5) (.cells #[.int .i64 lt,.int .i64 ht] 34))
  obtain ⟨⟨h0,h1,h2,h3,h4,h5⟩,el⟩:=E5.out
  have hB:=B5.out
  go_wp2
  go_ret
  exact ⟨rfl,by (repeat' (first | with_reducible exact hB | with_reducible refine Below.drew ?_ | (with_reducible refine balloc ?_ _) | (with_reducible refine Below.setCell ?_ (by simp <;> omega) _)))⟩
set_option maxRecDepth 100000 in
set_option maxHeartbeats 4000000 in
theorem tops_ok (a:Option Addr) (n c:Nat) (x:P3) (s t d k l lt ht te sl sh se:Int) (w:World) (h:¬ (16:Int) < (n:Int)) (z0:¬ (3:Int) < (n:Int)) (z1:¬ d < 0) (z2:¬ (1:Int) < d) (k1:0≤k) (k2:k≤1073741824) (l1:0≤l) (l2:l≤1073741824) (z:¬ (200:Int) < l - k) (y:¬ (2000:Int) < l) (PR:World→Value→Prop) (TV:Hid (∀ W,Below w.heap.size w W→Calls Tryz.prog 4 #[ptv (0,0,0),ptv (4,0,0),.int .i64 2] W fun e w'=>e=.returned (.tuple #[.int .i64 2,.int .i64 0])∧Below W.heap.size W w')) (QU:Hid (∀ W,Below w.heap.size w W→Calls Tryz.prog 5 #[.slice a n c,earv x s t d] W fun e w'=>e=.returned (.bool true)∧Below W.heap.size W w')) (WA:Hid (∀ W,Below w.heap.size w W→Calls Tryz.prog 6 #[.slice a n c,earv x s t d] W fun e w'=>e=.returned (.bool true)∧Below W.heap.size W w')) (TI:Hid (∀ W,Below w.heap.size w W→Calls Tryz.prog 7 #[.slice a n c,ptv x,.int .i64 s] W fun e w'=>e=.returned (.tuple #[.int .i64 k,.int .i64 l,.int .i64 0])∧Below W.heap.size W w')) (TT:Hid (∀ W,Below w.heap.size w W→Calls Tryz.prog 8 #[.slice a n c,ptv x,.int .i64 d] W fun e w'=>e=.returned (spr ((lt,ht),0))∧Below W.heap.size W w')) (TC:Hid (∀ W,Below w.heap.size w W→Calls Tryz.prog 9 #[.slice a n c,ptv x,.int .i64 s,.int .i64 k,.int .i64 l,.int .i64 d] W fun e w'=>∃ v,e=.returned (.tuple #[v,.int .i64 te])∧PR w' v∧Below W.heap.size W w'))
    (SM:Hid (te=0→∀ u W,PR W u→Calls Tryz.prog 10 #[u] W fun e w'=>e=.returned (spr ((sl,sh),se))∧Below W.heap.size W w'))
    (CO:Hid (te=0→se=0→∀ W,Calls Tryz.prog 11 #[spv sl sh,spv lt ht] W fun e w'=>e=.returned (.bool true)∧Below W.heap.size W w')):Calls Tryz.prog 3 #[.slice a n c,earv x s t d] w fun e w'=>e=.returned (.bool true)∧Below w.heap.size w w':=by
  have E0:=Lib.hid (ownE_new w x s t d 26)
  have B0:=Lib.hid (show Below w.heap.size w (w.alloc (earb x s t d 26)) from (Below.refl _ w).alloc (Nat.le_refl _) _)
  go_enter Tryz.func3,Tryz.ntmps3
  have h5:decide ((200:Int) < l - k)=false:=decide_eq_false z
  have h4:decide ((2000:Int) < l)=false:=decide_eq_false y
  have h8:decide ((3:Int) < (n:Int))=false:=decide_eq_false z0
  have h7:decide (d < 0)=false:=decide_eq_false z1
  have h6:decide ((1:Int) < d)=false:=decide_eq_false z2
  have h9:decide ((16:Int) < (n:Int))=false:=decide_eq_false h
  obtain ⟨⟨h0,h1,h2,h3,h4,h5⟩,el⟩:=E0.out
  go_wp2_with fail
  with_reducible refine (TV.out _ B0.out).mono ?_
  rintro e w1 ⟨rfl,hb1⟩
  clear h0 h1 h2 h3 h4 h5 el
  have E1:=Lib.hid (ownE_below E0.out hb1)
  have B1:=Lib.hid (bstep B0.out hb1)
  obtain ⟨⟨h0,h1,h2,h3,h4,h5⟩,el⟩:=E1.out
  go_wp2_with fail
  with_reducible refine (QU.out _ B1.out).mono ?_
  rintro e w2 ⟨rfl,hb2⟩
  clear h0 h1 h2 h3 h4 h5 el
  have E2:=Lib.hid (ownE_below E1.out hb2)
  have B2:=Lib.hid (bstep B1.out hb2)
  obtain ⟨⟨h0,h1,h2,h3,h4,h5⟩,el⟩:=E2.out
  go_wp2_with fail
  with_reducible refine (WA.out _ B2.out).mono ?_
  rintro e w3 ⟨rfl,hb3⟩
  clear h0 h1 h2 h3 h4 h5 el
  have E3:=Lib.hid (ownE_below E2.out hb3)
  have B3:=Lib.hid (bstep B2.out hb3)
  obtain ⟨⟨h0,h1,h2,h3,h4,h5⟩,el⟩:=E3.out
  go_wp2_with fail
  with_reducible refine (TI.out _ B3.out).mono ?_
  rintro e w4 ⟨rfl,hb4⟩
  clear h0 h1 h2 h3 h4 h5 el
  have E4:=Lib.hid (ownE_below E3.out hb4)
  have B4:=Lib.hid (bstep B3.out hb4)
  obtain ⟨⟨h0,h1,h2,h3,h4,h5⟩,el⟩:=E4.out
  go_wp2_with fail
  with_reducible refine (TT.out _ B4.out).mono ?_
  rintro e w5 ⟨rfl,hb5⟩
  clear h0 h1 h2 h3 h4 h5 el
  have ZB:=Lib.hid ((Below.refl w5.heap.size w5).alloc (Nat.le_refl _) (.cells #[.int .i64 lt,.int .i64 ht] 34))
  have E5:=Lib.hid (ownE_below (ownE_below E4.out hb5) ZB.out)
  have P5:=Lib.hid (pair_new w5 lt ht 34)
  have B5:=Lib.hid (balloc (bstep B4.out hb5) (.cells #[.int .i64 lt,.int .i64 ht] 34))
  obtain ⟨⟨h0,h1,h2,h3,h4,h5⟩,el⟩:=E5.out
  go_wp2_with fail
  with_reducible refine (TC.out _ B5.out).mono ?_
  rintro e w6 ⟨v,rfl,p6,hb6⟩
  have R6:=Lib.hid p6
  have P6:=Lib.hid (pair_below P5.out hb6)
  have B6:=Lib.hid (bstep B5.out hb6)
  clear h0 h1 h2 h3 h4 h5 el
  clear p6 hb6 P5 E0 E1 E2 E3 E4 E5 B0 B1 B2 B3 B4 B5 k1 k2 l1 l2 z y
  by_cases t0:te=0
  · have SM0:=Lib.hid (SM.out t0)
    have CO0:=Lib.hid (CO.out t0)
    subst t0
    go_wp2_with fail
    with_reducible refine (SM0.out _ _ R6.out).mono ?_
    rintro e w7 ⟨rfl,hb7⟩
    have P7:=Lib.hid (pair_alloc (pair_below P6.out hb7) (.cells #[.int .i64 sl,.int .i64 sh] 34))
    have S7:=Lib.hid (pair_new w7 sl sh 34)
    have B7:=Lib.hid (balloc (bstep B6.out hb7) (.cells #[.int .i64 sl,.int .i64 sh] 34))
    clear hb7
    by_cases t1:se=0
    · have CO1:=Lib.hid (CO0.out t1)
      subst t1
      obtain ⟨a0,a1,a2,a3,a4⟩:=P7.out
      obtain ⟨b0,b1,b2,b3,b4⟩:=S7.out
      go_wp2_with fail
      with_reducible refine (CO1.out _).mono ?_
      rintro e w8 ⟨rfl,hb8⟩
      have hB:=bstep B7.out hb8
      clear hb8
      go_wp2
      go_ret
      exact ⟨rfl,by (repeat' (first | with_reducible exact hB | with_reducible refine Below.drew ?_ | (with_reducible refine balloc ?_ _) | (with_reducible refine Below.setCell ?_ (by simp <;> omega) _)))⟩
    · have t2:(se != 0)=true:=bne_iff_ne.2 t1
      have hB:=B7.out
      go_wp2
      go_ret
      exact ⟨rfl,by (repeat' (first | with_reducible exact hB | with_reducible refine Below.drew ?_ | (with_reducible refine balloc ?_ _) | (with_reducible refine Below.setCell ?_ (by simp <;> omega) _)))⟩
  · have t2:(te != 0)=true:=bne_iff_ne.2 t0
    have hB:=B6.out
    go_wp2
    go_ret
    exact ⟨rfl,by (repeat' (first | with_reducible exact hB | with_reducible refine Below.drew ?_ | (with_reducible refine balloc ?_ _) | (with_reducible refine Below.setCell ?_ (by simp <;> omega) _)))⟩
theorem com_yes (al ah bl bh:Int) (w:World) (h:Sp.vldB al ah=true) (k:Sp.vldB bl bh=true) (c1:bl≤ah) (c2:al≤bh):Calls Tryz.prog 11 #[spv al ah,spv bl bh] w fun e w'=>e=.returned (.bool true)∧Below w.heap.size w w':=by
  go_enter Tryz.func11,Tryz.ntmps11
  go_wp2_with fail
  with_reducible refine (meet_yes _ _ _ _ _ h k c1 c2).mono ?_
  rintro e w1 ⟨rfl,hb1⟩
  go_wp2
  go_ret
  exact ⟨rfl,by (repeat' (first | exact Below.refl _ _ | refine bstep ?_ hb1 | refine Below.setCell ?_ (by simp <;> omega) _ | refine balloc ?_ _ | refine Below.drew ?_ | refine bdrewN ?_ _))⟩
theorem mnf_nn {f:Nat→Int}:∀ {n:Nat},(∀ k,k≤n→0≤f k)→0≤mnf f n
  | 0,h=>h 0 (Nat.le_refl 0)
  | n + 1,h=>by
    show 0≤Sp.mn (mnf f n) (f (n + 1))
    have a:=mnf_nn (n:=n) fun k hk=>h k (by omega:k≤n + 1)
    have b:=h (n + 1) (Nat.le_refl _)
    rw [Sp.mn_eq]
    omega
theorem mxf_up {f:Nat→Int} {B:Int}:∀ {n:Nat},(∀ k,k≤n→f k≤B)→mxf f n≤B
  | 0,h=>h 0 (Nat.le_refl 0)
  | n + 1,h=>by
    show Sp.mx (mxf f n) (f (n + 1))≤B
    have a:=mxf_up (n:=n) fun k hk=>h k (by omega:k≤n + 1)
    have b:=h (n + 1) (Nat.le_refl _)
    rw [Sp.mx_eq]
    omega
theorem bdP_up8 {B C:Int} (h:B≤C) {p:P3} (k:BdP B p):BdP C p:=by
  unfold BdP at *
  omega
theorem tk_rng {n:Nat} {Q:Nat→Pu} {x:P3} {s:Int} (e:tkE n Q x s=0):(0≤tk1 n Q x s∧tk1 n Q x s≤1073741824)∧0≤tk2 n Q x s∧tk2 n Q x s≤1073741824:=by
  have e9:=e
  unfold tkE at e9
  have z:mcT n Q x s=0:=by
    by_cases z:mcT n Q x s=0
    · exact z
    · rw [if_neg z] at e9;exact absurd e9 z
  rw [if_pos z] at e9
  have n0:n ≠ 0:=fun y=>by rw [if_pos y] at e9;exact absurd e9 (by decide)
  obtain ⟨⟨h16,hp⟩,hx,_,_⟩:=mcT_ok z
  have key:∀ k,k≤n - 1→0≤fT Q x s k∧fT Q x s k≤1073741824∧0≤gT Q x s k∧gT Q x s k≤1073741824:=fun k hk=>by
    obtain ⟨b0,_,⟨b,b'⟩,_⟩:=pucode_ok (hp k (by omega))
    have bt:BdT 512 (Q k).1:=⟨bdP_up8 (by decide) b0.1,bdP_up8 (by decide) b0.2.1,bdP_up8 (by decide) b0.2.2⟩
    have f1:=far_bd9 bt (bdP_up8 (by decide) hx:BdP 2048 x)
    have f2:=near_far (Q k).1 x
    have g1:=tkf_le (nearN (Q k).1 x) s
    have g2:=tkf_le (farN (Q k).1 x) s
    unfold fT gT
    omega
  unfold tk1 tk2
  rw [if_pos e,if_pos e]
  have a:=mxf_ge (gT Q x s) (n:=n - 1) (k:=0) (by omega)
  have b:=mnf_le (fT Q x s) (n:=n - 1) (k:=0) (by omega)
  have a':=mxf_up fun k hk=>(key k hk).2.2.2
  have b':=mnf_nn fun k hk=>(key k hk).1
  have c:=key 0 (by omega)
  omega
theorem trE_ok {n:Nat} {Q:Nat→Pu} {x:P3} {s f t d:Int} (h:trE n Q x s f t d=0):trc0 n Q x s f t d=0∧(0≤t - f∧t - f≤200)∧geN (trG x s d Q n f) (t - f + 1).toNat=0:=by
  unfold trE at h
  have z:trcC n Q x s f t d=0:=by
    by_cases z:trcC n Q x s f t d=0
    · exact z
    · rw [if_neg z] at h;exact absurd h z
  rw [if_pos z] at h
  unfold trcC at z
  by_cases y:trc0 n Q x s f t d=0
  · rw [if_pos y] at z
    cases r:rngB (t - f) 0 200 with
    | false=>rw [r] at z;simp at z
    | true=>exact ⟨y,rngB_iff.1 r,h⟩
  · rw [if_neg y] at z;exact absurd z y
theorem trG_scn {n:Nat} {Q:Nat→Pu} {x:P3} {s f t d:Int} (h:trc0 n Q x s f t d=0) (k:Nat) (hk:f + (k:Int)≤t):trG x s d Q n f k=scnR n Q x s (f + (k:Int)) d:=by
  obtain ⟨⟨h0,h1⟩,h2,h3,h4,h5,h6⟩:=trc0_ok h
  have v:vpcode n Q=0:=by
    unfold trc0 mcode8 at h
    by_cases z:vpcode n Q=0
    · exact z
    · rw [if_neg z] at h;exact absurd h z
  have sc:scode n Q x s (f + (k:Int)) d=0:=by
    unfold scode
    rw [if_pos v]
    unfold acode8
    rw [inP_iff.2 h2,rngB_iff.2 h3,rngB_iff.2 h4,rngB_iff.2 (show 0≤f + (k:Int)∧f + (k:Int)≤2000 by omega)]
    rfl
  unfold scnR trG
  rw [if_pos sc]
theorem tot_vld9 {n:Nat} {Q:Nat→Pu} {x:P3} {d:Int} (h:(totR n Q x d).2=0):Sp.vldB (totR n Q x d).1.1 (totR n Q x d).1.2=true:=by
  unfold totR at h ⊢
  by_cases v:vpcode n Q=0
  · rw [if_pos v] at h ⊢
    by_cases a:akc x d=0
    · rw [if_pos a] at h ⊢
      obtain ⟨e,y⟩:=q8sceR_ok h
      rw [e]
      exact y
    · rw [if_neg a] at h;exact absurd h a
  · rw [if_neg v] at h;exact absurd h v
theorem tops_walk (a:Option Addr) (n c:Nat) (Q:Nat→Pu) (x:P3) (s t d:Int) (w:World) (hm:n≤maxLen) (hz:(a=none→c=0)∧n≤c) (r:LstU w a n Q):Calls Tryz.prog 3 #[.slice a n c,earv x s t d] w fun e w'=>e=.returned (.bool true)∧Below w.heap.size w w':=by
  have hm0:=hm
  unfold maxLen at hm
  have TV:=Lib.hid fun W (_:Below w.heap.size w W)=>trv_any (0,0,0) (4,0,0) 2 W
  have e1:trvR (0,0,0) (4,0,0) 2=2:=by decide +kernel
  have e2:trcode (0,0,0) (4,0,0) 2=0:=by decide +kernel
  rw [e1,e2] at TV
  have QU:=Lib.hid fun W (B:Below w.heap.size w W)=>quiet_walk a n c Q x s t d W hm0 hz (lstU_below r B)
  have WA:=Lib.hid fun W (B:Below w.heap.size w W)=>walls_walk a n c Q x s t d W hm0 hz.1 (lstU_below r B)
  by_cases h:(16:Int) < (n:Int)
  · exact tops_n a n c x s t d w h TV QU WA
  by_cases z0:(3:Int) < (n:Int)
  · exact tops_n3 a n c x s t d w h z0 TV QU WA
  by_cases z1:d < 0
  · exact tops_dl a n c x s t d w h z0 z1 TV QU WA
  by_cases z2:(1:Int) < d
  · exact tops_dh a n c x s t d w h z0 z1 z2 TV QU WA
  have TI:=Lib.hid fun W (B:Below w.heap.size w W)=>tic_any a n c Q x s W (lstU_below r B) (by omega) hz.2
  have TT:=Lib.hid fun W (B:Below w.heap.size w W)=>tot_any a n c Q x d W (lstU_below r B) (by omega)
  by_cases y1:tkE n Q x s=0
  · by_cases y2:(totR n Q x d).2=0
    · obtain ⟨⟨k1,k2⟩,l1,l2⟩:=tk_rng y1
      have et:totR n Q x d=(((totR n Q x d).1.1,(totR n Q x d).1.2),0):=Prod.ext rfl y2
      have vt:=tot_vld9 y2
      have TM:=fun m F=>trace_meet (n:=n) (m:=m) (F:=F) (Q:=Q) (x:=x) (s:=s) (d:=d) y2 y1
      rw [y1] at TI
      obtain ⟨lt,hlt⟩:∃ lt,(totR n Q x d).1.1=lt:=⟨_,rfl⟩
      obtain ⟨ht,hht⟩:∃ ht,(totR n Q x d).1.2=ht:=⟨_,rfl⟩
      rw [hlt,hht] at et vt TM
      rw [et] at TT
      obtain ⟨k,hk⟩:∃ k,tk1 n Q x s=k:=⟨_,rfl⟩
      obtain ⟨l,hl⟩:∃ l,tk2 n Q x s=l:=⟨_,rfl⟩
      rw [hk,hl] at TI TM
      rw [hk] at k1 k2
      rw [hl] at l1 l2
      by_cases y3:(200:Int) < l - k
      · exact tops_e3 a n c x s t d k l lt ht w h z0 z1 z2 k1 k2 l1 l2 y3 TV QU WA TI TT
      by_cases y4:(2000:Int) < l
      · exact tops_e4 a n c x s t d k l lt ht w h z0 z1 z2 k1 k2 l1 l2 y3 y4 TV QU WA TI TT
      have T1:=fun W (B:Below w.heap.size w W)=>trc_any a n c Q x s k l d W (lstU_below r B) (by omega)
      obtain ⟨m,em⟩:∃ m:Nat,(l - k + 1).toNat=m:=⟨_,rfl⟩
      rw [em] at T1
      have es:geN (trG x s d Q n k) m=0→sceR (trG x s d Q n k) m=smR8 (fun i=>((gsN (trG x s d Q n k) m).getD i (0,0)).1) (fun i=>((gsN (trG x s d Q n k) m).getD i (0,0)).2) m:=fun good=>by
        unfold sceR
        rw [if_neg (fun c=>c good)]
      obtain ⟨R,hR⟩:∃ R,smR8 (fun i=>((gsN (trG x s d Q n k) m).getD i (0,0)).1) (fun i=>((gsN (trG x s d Q n k) m).getD i (0,0)).2) m=R:=⟨_,rfl⟩
      rw [hR] at es
      refine tops_ok a n c x s t d k l lt ht (trE n Q x s k l d) R.1.1 R.1.2 R.2 w h z0 z1 z2 k1 k2 l1 l2 y3 y4 (fun W v=>SpR W m (trE n Q x s k l d) (gsN (trG x s d Q n k) m) v) TV QU WA TI TT (Lib.hid T1)
        (Lib.hid fun ok u W ho=>?_) (Lib.hid fun ok se W=>?_)
      · have ho:=ho
        unfold SpR at ho
        rw [if_pos ok] at ho
        obtain ⟨_,_,g⟩:=trE_ok ok
        have q:=sum8_own u m _ W ho (gsN_len _ _) (by omega)
        rw [hR] at q
        exact q
      · obtain ⟨ok0,⟨d1,d2⟩,good⟩:=trE_ok ok
        rw [em] at good
        have e:=es good
        obtain ⟨e1,e2⟩:=q8sceR_ok (g:=trG x s d Q n k) (n:=m) (by rw [e];exact se)
        have GE:=q8geN_all good
        rw [e] at e1
        rw [e1]
        have ek:((k.toNat:Nat):Int)=k:=by omega
        have same:∀ i:Nat,i < m→trG x s d Q n k i=scnR n Q x s ((k.toNat + i:Nat):Int) d:=fun i hi=>by
          rw [trG_scn ok0 i (by omega)]
          congr 1
          omega
        obtain ⟨c1,c2⟩:=TM m k.toNat (by omega) (by omega) ek.symm (by omega) (by omega) (fun i hi=>by rw [← same i hi];exact GE i hi)
        rw [← sm_eq8 (f:=fun i=>(trG x s d Q n k i).1.1) fun i hi=>by rw [same i hi]] at c1
        rw [← sm_eq8 (f:=fun i=>(trG x s d Q n k i).1.2) fun i hi=>by rw [same i hi]] at c2
        exact com_yes _ _ _ _ W e2 vt c2 c1
    · exact tops_e2 a n c x s t d _ _ (totR n Q x d).1.1 (totR n Q x d).1.2 _ w h z0 z1 z2 (bne_iff_ne.2 y2) TV QU WA (Lib.hid fun W B=>by rw [← y1];exact TI.out W B) TT
  · exact tops_e1 a n c x s t d _ _ (totR n Q x d).1.1 (totR n Q x d).1.2 _ _ w h z0 z1 z2 (bne_iff_ne.2 y1) TV QU WA TI TT
end Go.Proofs.YtgchcnpgjfoadaaGreat
