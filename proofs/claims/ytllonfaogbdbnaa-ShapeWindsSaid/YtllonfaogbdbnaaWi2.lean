/-
  The contract of hasOrigin.
-/
import Derived.Test.YtllonfaogbdbnaaRAny
import Derived.Test.YtllonfaogbdbnaaShelf
namespace Go.Proofs.Ytllonfaogbdbnaa
open Go.ChangeShapes Go.WideShapes Go.RowKit
open Sh
set_option maxRecDepth 100000 in
set_option maxHeartbeats 2000000 in
theorem has_0 (a b c n : P3) (d0 : Int) (w : World) (CN : Hid (∀ W, Calls Try.prog 77 #[pnv a b c] W fun e w' => e = .returned (ptv n) ∧ Below W.heap.size W w')) (C0 : Hid (∀ W, Calls Try.prog 78 #[ptv n, ptv a] W fun e w' => e = .returned (.int .i64 d0) ∧ Below W.heap.size W w')) (h0 : (d0 != 0) = true) : Calls Try.prog 34 #[pnv a b c] w fun e w' => e = .returned (.bool false) ∧ Below w.heap.size w w' := by
  go_enter Try.func34, Try.ntmps34
  go_wp2_with fail
  refine (CN.out _).mono ?_
  rintro e w1 ⟨rfl, hb1⟩
  have XP := Lib.hid (pan_alloc (pan_below (pan_new w a b c 77) hb1) (ptc n 27))
  have XN := Lib.hid (own_new w1 n 27)
  have B1 := Lib.hid (balloc (bstep (balloc (Below.refl _ w) _) hb1) (ptc n 27))
  clear hb1
  have XP' := XP.out
  obtain ⟨p1, p2, p3, p4, p5, p6, p7, p8, p9, p0⟩ := XP'
  have XN' := XN.out
  obtain ⟨n1, n2, n3, n4, n5, n6, n7⟩ := XN'
  go_wp2_with fail
  refine (C0.out _).mono ?_
  rintro e w2 ⟨rfl, hb2⟩
  clear p1 p2 p3 p4 p5 p6 p7 p8 p9 p0 n1 n2 n3 n4 n5 n6 n7
  have XP := Lib.hid (pan_below XP.out hb2)
  have XN := Lib.hid (own_below XN.out hb2)
  have B2 := Lib.hid (bstep B1.out hb2)
  clear hb2
  go_wp2
  go_ret
  exact ⟨rfl, B2.out⟩
set_option maxRecDepth 100000 in
set_option maxHeartbeats 2000000 in
theorem has_1 (a b c n v1 v2 v3 : P3) (d0 d1 : Int) (w : World) (CN : Hid (∀ W, Calls Try.prog 77 #[pnv a b c] W fun e w' => e = .returned (ptv n) ∧ Below W.heap.size W w')) (C0 : Hid (∀ W, Calls Try.prog 78 #[ptv n, ptv a] W fun e w' => e = .returned (.int .i64 d0) ∧ Below W.heap.size W w')) (CF : Hid (∀ W, Calls Try.prog 79 #[pnv a b c] W fun e w' => e = .returned (pnv v1 v2 v3) ∧ Below W.heap.size W w')) (C1 : Hid (∀ W, Calls Try.prog 78 #[ptv n, ptv v1] W fun e w' => e = .returned (.int .i64 d1) ∧ Below W.heap.size W w')) (h0 : (d0 != 0) = false) (h1 : decide (d1 < 0) = true) : Calls Try.prog 34 #[pnv a b c] w fun e w' => e = .returned (.bool false) ∧ Below w.heap.size w w' := by
  go_enter Try.func34, Try.ntmps34
  go_wp2_with fail
  refine (CN.out _).mono ?_
  rintro e w1 ⟨rfl, hb1⟩
  have XP := Lib.hid (pan_alloc (pan_below (pan_new w a b c 77) hb1) (ptc n 27))
  have XN := Lib.hid (own_new w1 n 27)
  have B1 := Lib.hid (balloc (bstep (balloc (Below.refl _ w) _) hb1) (ptc n 27))
  clear hb1
  have XP' := XP.out
  obtain ⟨p1, p2, p3, p4, p5, p6, p7, p8, p9, p0⟩ := XP'
  have XN' := XN.out
  obtain ⟨n1, n2, n3, n4, n5, n6, n7⟩ := XN'
  go_wp2_with fail
  refine (C0.out _).mono ?_
  rintro e w2 ⟨rfl, hb2⟩
  clear p1 p2 p3 p4 p5 p6 p7 p8 p9 p0 n1 n2 n3 n4 n5 n6 n7
  have XP := Lib.hid (pan_below XP.out hb2)
  have XN := Lib.hid (own_below XN.out hb2)
  have B2 := Lib.hid (bstep B1.out hb2)
  clear hb2
  have XP' := XP.out
  obtain ⟨p1, p2, p3, p4, p5, p6, p7, p8, p9, p0⟩ := XP'
  go_wp2_with fail
  refine (CF.out _).mono ?_
  rintro e w3 ⟨rfl, hb3⟩
  clear p1 p2 p3 p4 p5 p6 p7 p8 p9 p0
  have XN := Lib.hid (own_below XN.out hb3)
  have B3 := Lib.hid (bstep B2.out hb3)
  clear hb3 XP
  have j0 : ∀ w, (Instr.index 119 (.agg #[.int .i64 v1.1, .int .i64 v1.2.1, .int .i64 v1.2.2, .int .i64 v2.1, .int .i64 v2.2.1, .int .i64 v2.2.2, .int .i64 v3.1, .int .i64 v3.2.1, .int .i64 v3.2.2]) (.int .i64 0)).run Try.prog w = .ok (ptv v1) w := fun _ => by kernel_rfl
  have j1 : ∀ w, (Instr.index 119 (.agg #[.int .i64 v1.1, .int .i64 v1.2.1, .int .i64 v1.2.2, .int .i64 v2.1, .int .i64 v2.2.1, .int .i64 v2.2.2, .int .i64 v3.1, .int .i64 v3.2.1, .int .i64 v3.2.2]) (.int .i64 1)).run Try.prog w = .ok (ptv v2) w := fun _ => by kernel_rfl
  have j2 : ∀ w, (Instr.index 119 (.agg #[.int .i64 v1.1, .int .i64 v1.2.1, .int .i64 v1.2.2, .int .i64 v2.1, .int .i64 v2.2.1, .int .i64 v2.2.2, .int .i64 v3.1, .int .i64 v3.2.1, .int .i64 v3.2.2]) (.int .i64 2)).run Try.prog w = .ok (ptv v3) w := fun _ => by kernel_rfl
  go_wp2
  refine wp_loop_rounds 4 ?_
  rw [rounds_succ]
  have XN' := Lib.hid (own_alloc XN.out (ptc v1 27))
  have XN2 := XN'.out
  obtain ⟨n1, n2, n3, n4, n5, n6, n7⟩ := XN2
  go_wp2_with fail
  refine (C1.out _).mono ?_
  rintro e w4 ⟨rfl, hb⟩
  clear n1 n2 n3 n4 n5 n6 n7
  have XN := Lib.hid (own_below XN'.out hb)
  have B4 := Lib.hid (bstep (balloc B3.out (ptc v1 27)) hb)
  clear hb XN'
  go_wp2
  go_ret
  exact ⟨rfl, B4.out⟩
set_option maxRecDepth 100000 in
set_option maxHeartbeats 2000000 in
theorem has_2 (a b c n v1 v2 v3 : P3) (d0 d1 d2 : Int) (w : World) (CN : Hid (∀ W, Calls Try.prog 77 #[pnv a b c] W fun e w' => e = .returned (ptv n) ∧ Below W.heap.size W w')) (C0 : Hid (∀ W, Calls Try.prog 78 #[ptv n, ptv a] W fun e w' => e = .returned (.int .i64 d0) ∧ Below W.heap.size W w')) (CF : Hid (∀ W, Calls Try.prog 79 #[pnv a b c] W fun e w' => e = .returned (pnv v1 v2 v3) ∧ Below W.heap.size W w')) (C1 : Hid (∀ W, Calls Try.prog 78 #[ptv n, ptv v1] W fun e w' => e = .returned (.int .i64 d1) ∧ Below W.heap.size W w')) (C2 : Hid (∀ W, Calls Try.prog 78 #[ptv n, ptv v2] W fun e w' => e = .returned (.int .i64 d2) ∧ Below W.heap.size W w')) (h0 : (d0 != 0) = false) (h1 : decide (d1 < 0) = false) (h2 : decide (d2 < 0) = true) : Calls Try.prog 34 #[pnv a b c] w fun e w' => e = .returned (.bool false) ∧ Below w.heap.size w w' := by
  go_enter Try.func34, Try.ntmps34
  go_wp2_with fail
  refine (CN.out _).mono ?_
  rintro e w1 ⟨rfl, hb1⟩
  have XP := Lib.hid (pan_alloc (pan_below (pan_new w a b c 77) hb1) (ptc n 27))
  have XN := Lib.hid (own_new w1 n 27)
  have B1 := Lib.hid (balloc (bstep (balloc (Below.refl _ w) _) hb1) (ptc n 27))
  clear hb1
  have XP' := XP.out
  obtain ⟨p1, p2, p3, p4, p5, p6, p7, p8, p9, p0⟩ := XP'
  have XN' := XN.out
  obtain ⟨n1, n2, n3, n4, n5, n6, n7⟩ := XN'
  go_wp2_with fail
  refine (C0.out _).mono ?_
  rintro e w2 ⟨rfl, hb2⟩
  clear p1 p2 p3 p4 p5 p6 p7 p8 p9 p0 n1 n2 n3 n4 n5 n6 n7
  have XP := Lib.hid (pan_below XP.out hb2)
  have XN := Lib.hid (own_below XN.out hb2)
  have B2 := Lib.hid (bstep B1.out hb2)
  clear hb2
  have XP' := XP.out
  obtain ⟨p1, p2, p3, p4, p5, p6, p7, p8, p9, p0⟩ := XP'
  go_wp2_with fail
  refine (CF.out _).mono ?_
  rintro e w3 ⟨rfl, hb3⟩
  clear p1 p2 p3 p4 p5 p6 p7 p8 p9 p0
  have XN := Lib.hid (own_below XN.out hb3)
  have B3 := Lib.hid (bstep B2.out hb3)
  clear hb3 XP
  have j0 : ∀ w, (Instr.index 119 (.agg #[.int .i64 v1.1, .int .i64 v1.2.1, .int .i64 v1.2.2, .int .i64 v2.1, .int .i64 v2.2.1, .int .i64 v2.2.2, .int .i64 v3.1, .int .i64 v3.2.1, .int .i64 v3.2.2]) (.int .i64 0)).run Try.prog w = .ok (ptv v1) w := fun _ => by kernel_rfl
  have j1 : ∀ w, (Instr.index 119 (.agg #[.int .i64 v1.1, .int .i64 v1.2.1, .int .i64 v1.2.2, .int .i64 v2.1, .int .i64 v2.2.1, .int .i64 v2.2.2, .int .i64 v3.1, .int .i64 v3.2.1, .int .i64 v3.2.2]) (.int .i64 1)).run Try.prog w = .ok (ptv v2) w := fun _ => by kernel_rfl
  have j2 : ∀ w, (Instr.index 119 (.agg #[.int .i64 v1.1, .int .i64 v1.2.1, .int .i64 v1.2.2, .int .i64 v2.1, .int .i64 v2.2.1, .int .i64 v2.2.2, .int .i64 v3.1, .int .i64 v3.2.1, .int .i64 v3.2.2]) (.int .i64 2)).run Try.prog w = .ok (ptv v3) w := fun _ => by kernel_rfl
  go_wp2
  refine wp_loop_rounds 4 ?_
  rw [rounds_succ]
  have XN' := Lib.hid (own_alloc XN.out (ptc v1 27))
  have XN2 := XN'.out
  obtain ⟨n1, n2, n3, n4, n5, n6, n7⟩ := XN2
  go_wp2_with fail
  refine (C1.out _).mono ?_
  rintro e w4 ⟨rfl, hb⟩
  clear n1 n2 n3 n4 n5 n6 n7
  have XN := Lib.hid (own_below XN'.out hb)
  have B4 := Lib.hid (bstep (balloc B3.out (ptc v1 27)) hb)
  clear hb XN'
  go_wp2
  rw [rounds_succ]
  have XN' := Lib.hid (own_alloc XN.out (ptc v2 27))
  have XN2 := XN'.out
  obtain ⟨n1, n2, n3, n4, n5, n6, n7⟩ := XN2
  go_wp2_with fail
  refine (C2.out _).mono ?_
  rintro e w5 ⟨rfl, hb⟩
  clear n1 n2 n3 n4 n5 n6 n7
  have XN := Lib.hid (own_below XN'.out hb)
  have B5 := Lib.hid (bstep (balloc B4.out (ptc v2 27)) hb)
  clear hb XN'
  go_wp2
  go_ret
  exact ⟨rfl, B5.out⟩
set_option maxRecDepth 100000 in
set_option maxHeartbeats 2000000 in
theorem has_3 (a b c n v1 v2 v3 : P3) (d0 d1 d2 d3 : Int) (w : World) (CN : Hid (∀ W, Calls Try.prog 77 #[pnv a b c] W fun e w' => e = .returned (ptv n) ∧ Below W.heap.size W w')) (C0 : Hid (∀ W, Calls Try.prog 78 #[ptv n, ptv a] W fun e w' => e = .returned (.int .i64 d0) ∧ Below W.heap.size W w')) (CF : Hid (∀ W, Calls Try.prog 79 #[pnv a b c] W fun e w' => e = .returned (pnv v1 v2 v3) ∧ Below W.heap.size W w')) (C1 : Hid (∀ W, Calls Try.prog 78 #[ptv n, ptv v1] W fun e w' => e = .returned (.int .i64 d1) ∧ Below W.heap.size W w')) (C2 : Hid (∀ W, Calls Try.prog 78 #[ptv n, ptv v2] W fun e w' => e = .returned (.int .i64 d2) ∧ Below W.heap.size W w')) (C3 : Hid (∀ W, Calls Try.prog 78 #[ptv n, ptv v3] W fun e w' => e = .returned (.int .i64 d3) ∧ Below W.heap.size W w')) (h0 : (d0 != 0) = false) (h1 : decide (d1 < 0) = false) (h2 : decide (d2 < 0) = false) (h3 : decide (d3 < 0) = true) : Calls Try.prog 34 #[pnv a b c] w fun e w' => e = .returned (.bool false) ∧ Below w.heap.size w w' := by
  go_enter Try.func34, Try.ntmps34
  go_wp2_with fail
  refine (CN.out _).mono ?_
  rintro e w1 ⟨rfl, hb1⟩
  have XP := Lib.hid (pan_alloc (pan_below (pan_new w a b c 77) hb1) (ptc n 27))
  have XN := Lib.hid (own_new w1 n 27)
  have B1 := Lib.hid (balloc (bstep (balloc (Below.refl _ w) _) hb1) (ptc n 27))
  clear hb1
  have XP' := XP.out
  obtain ⟨p1, p2, p3, p4, p5, p6, p7, p8, p9, p0⟩ := XP'
  have XN' := XN.out
  obtain ⟨n1, n2, n3, n4, n5, n6, n7⟩ := XN'
  go_wp2_with fail
  refine (C0.out _).mono ?_
  rintro e w2 ⟨rfl, hb2⟩
  clear p1 p2 p3 p4 p5 p6 p7 p8 p9 p0 n1 n2 n3 n4 n5 n6 n7
  have XP := Lib.hid (pan_below XP.out hb2)
  have XN := Lib.hid (own_below XN.out hb2)
  have B2 := Lib.hid (bstep B1.out hb2)
  clear hb2
  have XP' := XP.out
  obtain ⟨p1, p2, p3, p4, p5, p6, p7, p8, p9, p0⟩ := XP'
  go_wp2_with fail
  refine (CF.out _).mono ?_
  rintro e w3 ⟨rfl, hb3⟩
  clear p1 p2 p3 p4 p5 p6 p7 p8 p9 p0
  have XN := Lib.hid (own_below XN.out hb3)
  have B3 := Lib.hid (bstep B2.out hb3)
  clear hb3 XP
  have j0 : ∀ w, (Instr.index 119 (.agg #[.int .i64 v1.1, .int .i64 v1.2.1, .int .i64 v1.2.2, .int .i64 v2.1, .int .i64 v2.2.1, .int .i64 v2.2.2, .int .i64 v3.1, .int .i64 v3.2.1, .int .i64 v3.2.2]) (.int .i64 0)).run Try.prog w = .ok (ptv v1) w := fun _ => by kernel_rfl
  have j1 : ∀ w, (Instr.index 119 (.agg #[.int .i64 v1.1, .int .i64 v1.2.1, .int .i64 v1.2.2, .int .i64 v2.1, .int .i64 v2.2.1, .int .i64 v2.2.2, .int .i64 v3.1, .int .i64 v3.2.1, .int .i64 v3.2.2]) (.int .i64 1)).run Try.prog w = .ok (ptv v2) w := fun _ => by kernel_rfl
  have j2 : ∀ w, (Instr.index 119 (.agg #[.int .i64 v1.1, .int .i64 v1.2.1, .int .i64 v1.2.2, .int .i64 v2.1, .int .i64 v2.2.1, .int .i64 v2.2.2, .int .i64 v3.1, .int .i64 v3.2.1, .int .i64 v3.2.2]) (.int .i64 2)).run Try.prog w = .ok (ptv v3) w := fun _ => by kernel_rfl
  go_wp2
  refine wp_loop_rounds 4 ?_
  rw [rounds_succ]
  have XN' := Lib.hid (own_alloc XN.out (ptc v1 27))
  have XN2 := XN'.out
  obtain ⟨n1, n2, n3, n4, n5, n6, n7⟩ := XN2
  go_wp2_with fail
  refine (C1.out _).mono ?_
  rintro e w4 ⟨rfl, hb⟩
  clear n1 n2 n3 n4 n5 n6 n7
  have XN := Lib.hid (own_below XN'.out hb)
  have B4 := Lib.hid (bstep (balloc B3.out (ptc v1 27)) hb)
  clear hb XN'
  go_wp2
  rw [rounds_succ]
  have XN' := Lib.hid (own_alloc XN.out (ptc v2 27))
  have XN2 := XN'.out
  obtain ⟨n1, n2, n3, n4, n5, n6, n7⟩ := XN2
  go_wp2_with fail
  refine (C2.out _).mono ?_
  rintro e w5 ⟨rfl, hb⟩
  clear n1 n2 n3 n4 n5 n6 n7
  have XN := Lib.hid (own_below XN'.out hb)
  have B5 := Lib.hid (bstep (balloc B4.out (ptc v2 27)) hb)
  clear hb XN'
  go_wp2
  rw [rounds_succ]
  have XN' := Lib.hid (own_alloc XN.out (ptc v3 27))
  have XN2 := XN'.out
  obtain ⟨n1, n2, n3, n4, n5, n6, n7⟩ := XN2
  go_wp2_with fail
  refine (C3.out _).mono ?_
  rintro e w6 ⟨rfl, hb⟩
  clear n1 n2 n3 n4 n5 n6 n7
  have XN := Lib.hid (own_below XN'.out hb)
  have B6 := Lib.hid (bstep (balloc B5.out (ptc v3 27)) hb)
  clear hb XN'
  go_wp2
  go_ret
  exact ⟨rfl, B6.out⟩
set_option maxRecDepth 100000 in
set_option maxHeartbeats 2000000 in
theorem has_4 (a b c n v1 v2 v3 : P3) (d0 d1 d2 d3 : Int) (w : World) (CN : Hid (∀ W, Calls Try.prog 77 #[pnv a b c] W fun e w' => e = .returned (ptv n) ∧ Below W.heap.size W w')) (C0 : Hid (∀ W, Calls Try.prog 78 #[ptv n, ptv a] W fun e w' => e = .returned (.int .i64 d0) ∧ Below W.heap.size W w')) (CF : Hid (∀ W, Calls Try.prog 79 #[pnv a b c] W fun e w' => e = .returned (pnv v1 v2 v3) ∧ Below W.heap.size W w')) (C1 : Hid (∀ W, Calls Try.prog 78 #[ptv n, ptv v1] W fun e w' => e = .returned (.int .i64 d1) ∧ Below W.heap.size W w')) (C2 : Hid (∀ W, Calls Try.prog 78 #[ptv n, ptv v2] W fun e w' => e = .returned (.int .i64 d2) ∧ Below W.heap.size W w')) (C3 : Hid (∀ W, Calls Try.prog 78 #[ptv n, ptv v3] W fun e w' => e = .returned (.int .i64 d3) ∧ Below W.heap.size W w')) (h0 : (d0 != 0) = false) (h1 : decide (d1 < 0) = false) (h2 : decide (d2 < 0) = false) (h3 : decide (d3 < 0) = false) : Calls Try.prog 34 #[pnv a b c] w fun e w' => e = .returned (.bool true) ∧ Below w.heap.size w w' := by
  go_enter Try.func34, Try.ntmps34
  go_wp2_with fail
  refine (CN.out _).mono ?_
  rintro e w1 ⟨rfl, hb1⟩
  have XP := Lib.hid (pan_alloc (pan_below (pan_new w a b c 77) hb1) (ptc n 27))
  have XN := Lib.hid (own_new w1 n 27)
  have B1 := Lib.hid (balloc (bstep (balloc (Below.refl _ w) _) hb1) (ptc n 27))
  clear hb1
  have XP' := XP.out
  obtain ⟨p1, p2, p3, p4, p5, p6, p7, p8, p9, p0⟩ := XP'
  have XN' := XN.out
  obtain ⟨n1, n2, n3, n4, n5, n6, n7⟩ := XN'
  go_wp2_with fail
  refine (C0.out _).mono ?_
  rintro e w2 ⟨rfl, hb2⟩
  clear p1 p2 p3 p4 p5 p6 p7 p8 p9 p0 n1 n2 n3 n4 n5 n6 n7
  have XP := Lib.hid (pan_below XP.out hb2)
  have XN := Lib.hid (own_below XN.out hb2)
  have B2 := Lib.hid (bstep B1.out hb2)
  clear hb2
  have XP' := XP.out
  obtain ⟨p1, p2, p3, p4, p5, p6, p7, p8, p9, p0⟩ := XP'
  go_wp2_with fail
  refine (CF.out _).mono ?_
  rintro e w3 ⟨rfl, hb3⟩
  clear p1 p2 p3 p4 p5 p6 p7 p8 p9 p0
  have XN := Lib.hid (own_below XN.out hb3)
  have B3 := Lib.hid (bstep B2.out hb3)
  clear hb3 XP
  have j0 : ∀ w, (Instr.index 119 (.agg #[.int .i64 v1.1, .int .i64 v1.2.1, .int .i64 v1.2.2, .int .i64 v2.1, .int .i64 v2.2.1, .int .i64 v2.2.2, .int .i64 v3.1, .int .i64 v3.2.1, .int .i64 v3.2.2]) (.int .i64 0)).run Try.prog w = .ok (ptv v1) w := fun _ => by kernel_rfl
  have j1 : ∀ w, (Instr.index 119 (.agg #[.int .i64 v1.1, .int .i64 v1.2.1, .int .i64 v1.2.2, .int .i64 v2.1, .int .i64 v2.2.1, .int .i64 v2.2.2, .int .i64 v3.1, .int .i64 v3.2.1, .int .i64 v3.2.2]) (.int .i64 1)).run Try.prog w = .ok (ptv v2) w := fun _ => by kernel_rfl
  have j2 : ∀ w, (Instr.index 119 (.agg #[.int .i64 v1.1, .int .i64 v1.2.1, .int .i64 v1.2.2, .int .i64 v2.1, .int .i64 v2.2.1, .int .i64 v2.2.2, .int .i64 v3.1, .int .i64 v3.2.1, .int .i64 v3.2.2]) (.int .i64 2)).run Try.prog w = .ok (ptv v3) w := fun _ => by kernel_rfl
  go_wp2
  refine wp_loop_rounds 4 ?_
  rw [rounds_succ]
  have XN' := Lib.hid (own_alloc XN.out (ptc v1 27))
  have XN2 := XN'.out
  obtain ⟨n1, n2, n3, n4, n5, n6, n7⟩ := XN2
  go_wp2_with fail
  refine (C1.out _).mono ?_
  rintro e w4 ⟨rfl, hb⟩
  clear n1 n2 n3 n4 n5 n6 n7
  have XN := Lib.hid (own_below XN'.out hb)
  have B4 := Lib.hid (bstep (balloc B3.out (ptc v1 27)) hb)
  clear hb XN'
  go_wp2
  rw [rounds_succ]
  have XN' := Lib.hid (own_alloc XN.out (ptc v2 27))
  have XN2 := XN'.out
  obtain ⟨n1, n2, n3, n4, n5, n6, n7⟩ := XN2
  go_wp2_with fail
  refine (C2.out _).mono ?_
  rintro e w5 ⟨rfl, hb⟩
  clear n1 n2 n3 n4 n5 n6 n7
  have XN := Lib.hid (own_below XN'.out hb)
  have B5 := Lib.hid (bstep (balloc B4.out (ptc v2 27)) hb)
  clear hb XN'
  go_wp2
  rw [rounds_succ]
  have XN' := Lib.hid (own_alloc XN.out (ptc v3 27))
  have XN2 := XN'.out
  obtain ⟨n1, n2, n3, n4, n5, n6, n7⟩ := XN2
  go_wp2_with fail
  refine (C3.out _).mono ?_
  rintro e w6 ⟨rfl, hb⟩
  clear n1 n2 n3 n4 n5 n6 n7
  have XN := Lib.hid (own_below XN'.out hb)
  have B6 := Lib.hid (bstep (balloc B5.out (ptc v3 27)) hb)
  clear hb XN'
  go_wp2
  rw [rounds_succ]
  go_wp2
  go_ret
  exact ⟨rfl, B6.out⟩

end Go.Proofs.Ytllonfaogbdbnaa
