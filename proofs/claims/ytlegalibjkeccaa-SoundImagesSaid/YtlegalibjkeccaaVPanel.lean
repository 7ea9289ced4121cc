/-
  The contracts of ValidatePanel, in the program and in the document's answer.
-/
import Derived.Test.YtlegalibjkeccaaVec3
namespace Go.Proofs.Ytlegalibjkeccaa
open Go.ChangeShapes Go.WideShapes Go.RowKit
open Sh
theorem pcode_bd {a b c : P3} (h : pcode a b c = 0) : BdP 65536 a ∧ BdP 65536 b ∧ BdP 65536 c := by
  unfold pcode at h
  split at h
  · rename_i v
    simp only [Bool.and_eq_true] at v
    exact ⟨(inP_iff.1 v.1.1).mono (by decide), (inP_iff.1 v.1.2).mono (by decide), (inP_iff.1 v.2).mono (by decide)⟩
  · exact absurd h (by decide)
theorem w16 {a : P3} (h : inP 64 a = true) : BdP 65536 a := (inP_iff.1 h).mono (by decide)
set_option maxHeartbeats 400000 in
theorem vp_arg0 (a b c : P3) (w : World) (h0 : inP 64 a = false) :
    Calls Try.prog 64 #[pnv a b c] w fun e w' => e = .returned (.int .i64 1) ∧ Below w.heap.size w w' := by
  have i0 : ∀ w, (Instr.index 105 (.agg #[.int .i64 a.1, .int .i64 a.2.1, .int .i64 a.2.2, .int .i64 b.1, .int .i64 b.2.1, .int .i64 b.2.2, .int .i64 c.1, .int .i64 c.2.1, .int .i64 c.2.2]) (.int .i64 0)).run Try.prog w = .ok (ptv a) w := fun _ => by kernel_rfl
  have i1 : ∀ w, (Instr.index 105 (.agg #[.int .i64 a.1, .int .i64 a.2.1, .int .i64 a.2.2, .int .i64 b.1, .int .i64 b.2.1, .int .i64 b.2.2, .int .i64 c.1, .int .i64 c.2.1, .int .i64 c.2.2]) (.int .i64 1)).run Try.prog w = .ok (ptv b) w := fun _ => by kernel_rfl
  have i2 : ∀ w, (Instr.index 105 (.agg #[.int .i64 a.1, .int .i64 a.2.1, .int .i64 a.2.2, .int .i64 b.1, .int .i64 b.2.1, .int .i64 b.2.2, .int .i64 c.1, .int .i64 c.2.1, .int .i64 c.2.2]) (.int .i64 2)).run Try.prog w = .ok (ptv c) w := fun _ => by kernel_rfl
  go_enter Try.func64, Try.ntmps64
  go_wp2
  refine wp_loop_rounds 4 ?_
  rw [rounds_succ]
  go_wp2_with fail
  have W0 := within_any a 64
  rw [h0] at W0
  have W0 := Lib.hid W0
  refine (W0.out _ (by decide) (by decide)).mono ?_
  rintro e w1 ⟨rfl, hb1⟩
  have q1 := pan_below (pan_alloc (pan_new w a b c _) _) hb1
  go_wp2
  go_ret
  exact ⟨rfl, by (repeat' (first | exact Below.refl _ _ | refine bstep ?_ hb1 | refine Below.setCell ?_ (by simp <;> omega) _ | refine balloc ?_ _ | refine Below.drew ?_ | refine bdrewN ?_ _))⟩
set_option maxHeartbeats 400000 in
theorem vp_arg1 (a b c : P3) (w : World) (h0 : inP 64 a = true) (h1 : inP 64 b = false) :
    Calls Try.prog 64 #[pnv a b c] w fun e w' => e = .returned (.int .i64 1) ∧ Below w.heap.size w w' := by
  have i0 : ∀ w, (Instr.index 105 (.agg #[.int .i64 a.1, .int .i64 a.2.1, .int .i64 a.2.2, .int .i64 b.1, .int .i64 b.2.1, .int .i64 b.2.2, .int .i64 c.1, .int .i64 c.2.1, .int .i64 c.2.2]) (.int .i64 0)).run Try.prog w = .ok (ptv a) w := fun _ => by kernel_rfl
  have i1 : ∀ w, (Instr.index 105 (.agg #[.int .i64 a.1, .int .i64 a.2.1, .int .i64 a.2.2, .int .i64 b.1, .int .i64 b.2.1, .int .i64 b.2.2, .int .i64 c.1, .int .i64 c.2.1, .int .i64 c.2.2]) (.int .i64 1)).run Try.prog w = .ok (ptv b) w := fun _ => by kernel_rfl
  have i2 : ∀ w, (Instr.index 105 (.agg #[.int .i64 a.1, .int .i64 a.2.1, .int .i64 a.2.2, .int .i64 b.1, .int .i64 b.2.1, .int .i64 b.2.2, .int .i64 c.1, .int .i64 c.2.1, .int .i64 c.2.2]) (.int .i64 2)).run Try.prog w = .ok (ptv c) w := fun _ => by kernel_rfl
  go_enter Try.func64, Try.ntmps64
  go_wp2
  refine wp_loop_rounds 4 ?_
  rw [rounds_succ]
  go_wp2_with fail
  have W0 := within_any a 64
  rw [h0] at W0
  have W0 := Lib.hid W0
  refine (W0.out _ (by decide) (by decide)).mono ?_
  rintro e w1 ⟨rfl, hb1⟩
  have q1 := pan_below (pan_alloc (pan_new w a b c _) _) hb1
  go_wp2
  rw [rounds_succ]
  go_wp2_with fail
  have W1 := within_any b 64
  rw [h1] at W1
  have W1 := Lib.hid W1
  refine (W1.out _ (by decide) (by decide)).mono ?_
  rintro e w2 ⟨rfl, hb2⟩
  have q2 := pan_below (pan_alloc q1 _) hb2
  clear q1
  go_wp2
  go_ret
  exact ⟨rfl, by (repeat' (first | exact Below.refl _ _ | refine bstep ?_ hb1 | refine bstep ?_ hb2 | refine Below.setCell ?_ (by simp <;> omega) _ | refine balloc ?_ _ | refine Below.drew ?_ | refine bdrewN ?_ _))⟩
set_option maxHeartbeats 400000 in
theorem vp_arg2 (a b c : P3) (w : World) (h0 : inP 64 a = true) (h1 : inP 64 b = true) (h2 : inP 64 c = false) :
    Calls Try.prog 64 #[pnv a b c] w fun e w' => e = .returned (.int .i64 1) ∧ Below w.heap.size w w' := by
  have i0 : ∀ w, (Instr.index 105 (.agg #[.int .i64 a.1, .int .i64 a.2.1, .int .i64 a.2.2, .int .i64 b.1, .int .i64 b.2.1, .int .i64 b.2.2, .int .i64 c.1, .int .i64 c.2.1, .int .i64 c.2.2]) (.int .i64 0)).run Try.prog w = .ok (ptv a) w := fun _ => by kernel_rfl
  have i1 : ∀ w, (Instr.index 105 (.agg #[.int .i64 a.1, .int .i64 a.2.1, .int .i64 a.2.2, .int .i64 b.1, .int .i64 b.2.1, .int .i64 b.2.2, .int .i64 c.1, .int .i64 c.2.1, .int .i64 c.2.2]) (.int .i64 1)).run Try.prog w = .ok (ptv b) w := fun _ => by kernel_rfl
  have i2 : ∀ w, (Instr.index 105 (.agg #[.int .i64 a.1, .int .i64 a.2.1, .int .i64 a.2.2, .int .i64 b.1, .int .i64 b.2.1, .int .i64 b.2.2, .int .i64 c.1, .int .i64 c.2.1, .int .i64 c.2.2]) (.int .i64 2)).run Try.prog w = .ok (ptv c) w := fun _ => by kernel_rfl
  go_enter Try.func64, Try.ntmps64
  go_wp2
  refine wp_loop_rounds 4 ?_
  rw [rounds_succ]
  go_wp2_with fail
  have W0 := within_any a 64
  rw [h0] at W0
  have W0 := Lib.hid W0
  refine (W0.out _ (by decide) (by decide)).mono ?_
  rintro e w1 ⟨rfl, hb1⟩
  have q1 := pan_below (pan_alloc (pan_new w a b c _) _) hb1
  go_wp2
  rw [rounds_succ]
  go_wp2_with fail
  have W1 := within_any b 64
  rw [h1] at W1
  have W1 := Lib.hid W1
  refine (W1.out _ (by decide) (by decide)).mono ?_
  rintro e w2 ⟨rfl, hb2⟩
  have q2 := pan_below (pan_alloc q1 _) hb2
  clear q1
  go_wp2
  rw [rounds_succ]
  go_wp2_with fail
  have W2 := within_any c 64
  rw [h2] at W2
  have W2 := Lib.hid W2
  refine (W2.out _ (by decide) (by decide)).mono ?_
  rintro e w3 ⟨rfl, hb3⟩
  have q3 := pan_below (pan_alloc q2 _) hb3
  clear q2
  go_wp2
  go_ret
  exact ⟨rfl, by (repeat' (first | exact Below.refl _ _ | refine bstep ?_ hb1 | refine bstep ?_ hb2 | refine bstep ?_ hb3 | refine Below.setCell ?_ (by simp <;> omega) _ | refine balloc ?_ _ | refine Below.drew ?_ | refine bdrewN ?_ _))⟩
set_option maxRecDepth 100000 in
set_option maxHeartbeats 400000 in
theorem vp_flat (a b c : P3) (w : World) (h0 : inP 64 a = true) (h1 : inP 64 b = true) (h2 : inP 64 c = true) (hn : nrm a b c = (0, 0, 0)) :
    Calls Try.prog 64 #[pnv a b c] w fun e w' => e = .returned (.int .i64 6) ∧ Below w.heap.size w w' := by
  have A := Lib.hid (w16 h0)
  have B := Lib.hid (w16 h1)
  have C := Lib.hid (w16 h2)
  have n1 : (nrm a b c).1 = 0 := by rw [hn]
  have n2 : (nrm a b c).2.1 = 0 := by rw [hn]
  have n3 : (nrm a b c).2.2 = 0 := by rw [hn]
  clear hn
  have i0 : ∀ w, (Instr.index 105 (.agg #[.int .i64 a.1, .int .i64 a.2.1, .int .i64 a.2.2, .int .i64 b.1, .int .i64 b.2.1, .int .i64 b.2.2, .int .i64 c.1, .int .i64 c.2.1, .int .i64 c.2.2]) (.int .i64 0)).run Try.prog w = .ok (ptv a) w := fun _ => by kernel_rfl
  have i1 : ∀ w, (Instr.index 105 (.agg #[.int .i64 a.1, .int .i64 a.2.1, .int .i64 a.2.2, .int .i64 b.1, .int .i64 b.2.1, .int .i64 b.2.2, .int .i64 c.1, .int .i64 c.2.1, .int .i64 c.2.2]) (.int .i64 1)).run Try.prog w = .ok (ptv b) w := fun _ => by kernel_rfl
  have i2 : ∀ w, (Instr.index 105 (.agg #[.int .i64 a.1, .int .i64 a.2.1, .int .i64 a.2.2, .int .i64 b.1, .int .i64 b.2.1, .int .i64 b.2.2, .int .i64 c.1, .int .i64 c.2.1, .int .i64 c.2.2]) (.int .i64 2)).run Try.prog w = .ok (ptv c) w := fun _ => by kernel_rfl
  go_enter Try.func64, Try.ntmps64
  go_wp2
  refine wp_loop_rounds 4 ?_
  rw [rounds_succ]
  go_wp2_with fail
  have W0 := within_any a 64
  rw [h0] at W0
  have W0 := Lib.hid W0
  refine (W0.out _ (by decide) (by decide)).mono ?_
  rintro e w1 ⟨rfl, hb1⟩
  have q1 := pan_below (pan_alloc (pan_new w a b c _) _) hb1
  go_wp2
  rw [rounds_succ]
  go_wp2_with fail
  have W1 := within_any b 64
  rw [h1] at W1
  have W1 := Lib.hid W1
  refine (W1.out _ (by decide) (by decide)).mono ?_
  rintro e w2 ⟨rfl, hb2⟩
  have q2 := pan_below (pan_alloc q1 _) hb2
  clear q1
  go_wp2
  rw [rounds_succ]
  go_wp2_with fail
  have W2 := within_any c 64
  rw [h2] at W2
  have W2 := Lib.hid W2
  refine (W2.out _ (by decide) (by decide)).mono ?_
  rintro e w3 ⟨rfl, hb3⟩
  have q3 := pan_below (pan_alloc q2 _) hb3
  clear q2
  go_wp2
  rw [rounds_succ]
  obtain ⟨y1, y2, y3, y4, y5, y6, y7, y8, y9, y10⟩ := q3
  go_wp2_with fail
  refine (normal_any a b c _ A.out B.out C.out).mono ?_
  rintro e w4 ⟨rfl, hb4⟩
  go_wp2
  go_ret
  exact ⟨rfl, by (repeat' (first | exact Below.refl _ _ | refine bstep ?_ hb1 | refine bstep ?_ hb2 | refine bstep ?_ hb3 | refine bstep ?_ hb4 | refine Below.setCell ?_ (by simp <;> omega) _ | refine balloc ?_ _ | refine Below.drew ?_ | refine bdrewN ?_ _))⟩
theorem p3_zero {p : P3} (x : p.1 = 0) (y : p.2.1 = 0) (z : p.2.2 = 0) : p = (0, 0, 0) := by
  obtain ⟨a, b, c⟩ := p
  dsimp only at x y z
  rw [x, y, z]
set_option maxRecDepth 100000 in
set_option maxHeartbeats 400000 in
theorem vp_ok (a b c : P3) (w : World) (h0 : inP 64 a = true) (h1 : inP 64 b = true) (h2 : inP 64 c = true) (hn : nrm a b c ≠ (0, 0, 0)) :
    Calls Try.prog 64 #[pnv a b c] w fun e w' => e = .returned (.int .i64 0) ∧ Below w.heap.size w w' := by
  have A := Lib.hid (w16 h0)
  have B := Lib.hid (w16 h1)
  have C := Lib.hid (w16 h2)
  have i0 : ∀ w, (Instr.index 105 (.agg #[.int .i64 a.1, .int .i64 a.2.1, .int .i64 a.2.2, .int .i64 b.1, .int .i64 b.2.1, .int .i64 b.2.2, .int .i64 c.1, .int .i64 c.2.1, .int .i64 c.2.2]) (.int .i64 0)).run Try.prog w = .ok (ptv a) w := fun _ => by kernel_rfl
  have i1 : ∀ w, (Instr.index 105 (.agg #[.int .i64 a.1, .int .i64 a.2.1, .int .i64 a.2.2, .int .i64 b.1, .int .i64 b.2.1, .int .i64 b.2.2, .int .i64 c.1, .int .i64 c.2.1, .int .i64 c.2.2]) (.int .i64 1)).run Try.prog w = .ok (ptv b) w := fun _ => by kernel_rfl
  have i2 : ∀ w, (Instr.index 105 (.agg #[.int .i64 a.1, .int .i64 a.2.1, .int .i64 a.2.2, .int .i64 b.1, .int .i64 b.2.1, .int .i64 b.2.2, .int .i64 c.1, .int .i64 c.2.1, .int .i64 c.2.2]) (.int .i64 2)).run Try.prog w = .ok (ptv c) w := fun _ => by kernel_rfl
  go_enter Try.func64, Try.ntmps64
  go_wp2
  refine wp_loop_rounds 4 ?_
  rw [rounds_succ]
  go_wp2_with fail
  have W0 := within_any a 64
  rw [h0] at W0
  have W0 := Lib.hid W0
  refine (W0.out _ (by decide) (by decide)).mono ?_
  rintro e w1 ⟨rfl, hb1⟩
  have q1 := pan_below (pan_alloc (pan_new w a b c _) _) hb1
  go_wp2
  rw [rounds_succ]
  go_wp2_with fail
  have W1 := within_any b 64
  rw [h1] at W1
  have W1 := Lib.hid W1
  refine (W1.out _ (by decide) (by decide)).mono ?_
  rintro e w2 ⟨rfl, hb2⟩
  have q2 := pan_below (pan_alloc q1 _) hb2
  clear q1
  go_wp2
  rw [rounds_succ]
  go_wp2_with fail
  have W2 := within_any c 64
  rw [h2] at W2
  have W2 := Lib.hid W2
  refine (W2.out _ (by decide) (by decide)).mono ?_
  rintro e w3 ⟨rfl, hb3⟩
  have q3 := pan_below (pan_alloc q2 _) hb3
  clear q2
  go_wp2
  rw [rounds_succ]
  obtain ⟨y1, y2, y3, y4, y5, y6, y7, y8, y9, y10⟩ := q3
  go_wp2_with fail
  refine (normal_any a b c _ A.out B.out C.out).mono ?_
  rintro e w4 ⟨rfl, hb4⟩
  go_wp2
  all_goals first
    | exact absurd (p3_zero (by assumption) (by assumption) (by assumption)) hn
    | (go_ret; exact ⟨rfl, by (repeat' (first | exact Below.refl _ _ | refine bstep ?_ hb1 | refine bstep ?_ hb2 | refine bstep ?_ hb3 | refine bstep ?_ hb4 | refine Below.setCell ?_ (by simp <;> omega) _ | refine balloc ?_ _ | refine Below.drew ?_ | refine bdrewN ?_ _))⟩)
theorem rvp_arg0 (a b c : P3) (w : World) (h0 : inP 64 a = false) :
    Calls Try.prog 46 #[pnv a b c] w fun e w' => e = .returned (.int .i64 1) ∧ Below w.heap.size w w' := by
  have N0 := Lib.hid (fun W => (h0 ▸ near_any a 64 W (by decide) (by decide) : Calls Try.prog 57 #[ptv a, .int .i64 64] W fun e w' => e = .returned (.bool false) ∧ Below W.heap.size W w'))
  clear h0
  go_enter Try.func46, Try.ntmps46
  go_wp2_with fail
  refine (N0.out _).mono ?_
  rintro e w1 ⟨rfl, hb1⟩
  have q1 := pan_below (pan_new w a b c _) hb1
  have z1 := q1
  obtain ⟨z1_1, z1_2, z1_3, z1_4, z1_5, z1_6, z1_7, z1_8, z1_9, z1_10⟩ := z1
  go_wp2
  go_ret
  exact ⟨rfl, by (repeat' (first | exact Below.refl _ _ | refine bstep ?_ hb1 | refine Below.setCell ?_ (by simp <;> omega) _ | refine balloc ?_ _ | refine Below.drew ?_ | refine bdrewN ?_ _))⟩
theorem rvp_arg1 (a b c : P3) (w : World) (h0 : inP 64 a = true) (h1 : inP 64 b = false) :
    Calls Try.prog 46 #[pnv a b c] w fun e w' => e = .returned (.int .i64 1) ∧ Below w.heap.size w w' := by
  have N0 := Lib.hid (fun W => (h0 ▸ near_any a 64 W (by decide) (by decide) : Calls Try.prog 57 #[ptv a, .int .i64 64] W fun e w' => e = .returned (.bool true) ∧ Below W.heap.size W w'))
  have N1 := Lib.hid (fun W => (h1 ▸ near_any b 64 W (by decide) (by decide) : Calls Try.prog 57 #[ptv b, .int .i64 64] W fun e w' => e = .returned (.bool false) ∧ Below W.heap.size W w'))
  clear h0 h1
  go_enter Try.func46, Try.ntmps46
  go_wp2_with fail
  refine (N0.out _).mono ?_
  rintro e w1 ⟨rfl, hb1⟩
  have q1 := pan_below (pan_new w a b c _) hb1
  have z1 := q1
  obtain ⟨z1_1, z1_2, z1_3, z1_4, z1_5, z1_6, z1_7, z1_8, z1_9, z1_10⟩ := z1
  go_wp2_with fail
  refine (N1.out _).mono ?_
  rintro e w2 ⟨rfl, hb2⟩
  have q2 := pan_below q1 hb2
  clear q1 z1_1 z1_2 z1_3 z1_4 z1_5 z1_6 z1_7 z1_8 z1_9 z1_10
  have z2 := q2
  obtain ⟨z2_1, z2_2, z2_3, z2_4, z2_5, z2_6, z2_7, z2_8, z2_9, z2_10⟩ := z2
  go_wp2
  go_ret
  exact ⟨rfl, by (repeat' (first | exact Below.refl _ _ | refine bstep ?_ hb1 | refine bstep ?_ hb2 | refine Below.setCell ?_ (by simp <;> omega) _ | refine balloc ?_ _ | refine Below.drew ?_ | refine bdrewN ?_ _))⟩
theorem rvp_arg2 (a b c : P3) (w : World) (h0 : inP 64 a = true) (h1 : inP 64 b = true) (h2 : inP 64 c = false) :
    Calls Try.prog 46 #[pnv a b c] w fun e w' => e = .returned (.int .i64 1) ∧ Below w.heap.size w w' := by
  have N0 := Lib.hid (fun W => (h0 ▸ near_any a 64 W (by decide) (by decide) : Calls Try.prog 57 #[ptv a, .int .i64 64] W fun e w' => e = .returned (.bool true) ∧ Below W.heap.size W w'))
  have N1 := Lib.hid (fun W => (h1 ▸ near_any b 64 W (by decide) (by decide) : Calls Try.prog 57 #[ptv b, .int .i64 64] W fun e w' => e = .returned (.bool true) ∧ Below W.heap.size W w'))
  have N2 := Lib.hid (fun W => (h2 ▸ near_any c 64 W (by decide) (by decide) : Calls Try.prog 57 #[ptv c, .int .i64 64] W fun e w' => e = .returned (.bool false) ∧ Below W.heap.size W w'))
  clear h0 h1 h2
  go_enter Try.func46, Try.ntmps46
  go_wp2_with fail
  refine (N0.out _).mono ?_
  rintro e w1 ⟨rfl, hb1⟩
  have q1 := pan_below (pan_new w a b c _) hb1
  have z1 := q1
  obtain ⟨z1_1, z1_2, z1_3, z1_4, z1_5, z1_6, z1_7, z1_8, z1_9, z1_10⟩ := z1
  go_wp2_with fail
  refine (N1.out _).mono ?_
  rintro e w2 ⟨rfl, hb2⟩
  have q2 := pan_below q1 hb2
  clear q1 z1_1 z1_2 z1_3 z1_4 z1_5 z1_6 z1_7 z1_8 z1_9 z1_10
  have z2 := q2
  obtain ⟨z2_1, z2_2, z2_3, z2_4, z2_5, z2_6, z2_7, z2_8, z2_9, z2_10⟩ := z2
  go_wp2_with fail
  refine (N2.out _).mono ?_
  rintro e w3 ⟨rfl, hb3⟩
  have q3 := pan_below q2 hb3
  clear q2 z2_1 z2_2 z2_3 z2_4 z2_5 z2_6 z2_7 z2_8 z2_9 z2_10
  have z3 := q3
  obtain ⟨z3_1, z3_2, z3_3, z3_4, z3_5, z3_6, z3_7, z3_8, z3_9, z3_10⟩ := z3
  go_wp2
  go_ret
  exact ⟨rfl, by (repeat' (first | exact Below.refl _ _ | refine bstep ?_ hb1 | refine bstep ?_ hb2 | refine bstep ?_ hb3 | refine Below.setCell ?_ (by simp <;> omega) _ | refine balloc ?_ _ | refine Below.drew ?_ | refine bdrewN ?_ _))⟩
set_option maxHeartbeats 400000 in
theorem rvp_flat (a b c : P3) (w : World) (h0 : inP 64 a = true) (h1 : inP 64 b = true) (h2 : inP 64 c = true) (hn : nrm a b c = (0, 0, 0)) :
    Calls Try.prog 46 #[pnv a b c] w fun e w' => e = .returned (.int .i64 6) ∧ Below w.heap.size w w' := by
  have A := Lib.hid (w16 h0)
  have B := Lib.hid (w16 h1)
  have C := Lib.hid (w16 h2)
  have N0 := Lib.hid (fun W => (h0 ▸ near_any a 64 W (by decide) (by decide) : Calls Try.prog 57 #[ptv a, .int .i64 64] W fun e w' => e = .returned (.bool true) ∧ Below W.heap.size W w'))
  have N1 := Lib.hid (fun W => (h1 ▸ near_any b 64 W (by decide) (by decide) : Calls Try.prog 57 #[ptv b, .int .i64 64] W fun e w' => e = .returned (.bool true) ∧ Below W.heap.size W w'))
  have N2 := Lib.hid (fun W => (h2 ▸ near_any c 64 W (by decide) (by decide) : Calls Try.prog 57 #[ptv c, .int .i64 64] W fun e w' => e = .returned (.bool true) ∧ Below W.heap.size W w'))
  clear h0 h1 h2
  have n1 : (nrm a b c).1 = 0 := by rw [hn]
  have n2 : (nrm a b c).2.1 = 0 := by rw [hn]
  have n3 : (nrm a b c).2.2 = 0 := by rw [hn]
  clear hn
  go_enter Try.func46, Try.ntmps46
  go_wp2_with fail
  refine (N0.out _).mono ?_
  rintro e w1 ⟨rfl, hb1⟩
  have q1 := pan_below (pan_new w a b c _) hb1
  have z1 := q1
  obtain ⟨z1_1, z1_2, z1_3, z1_4, z1_5, z1_6, z1_7, z1_8, z1_9, z1_10⟩ := z1
  go_wp2_with fail
  refine (N1.out _).mono ?_
  rintro e w2 ⟨rfl, hb2⟩
  have q2 := pan_below q1 hb2
  clear q1 z1_1 z1_2 z1_3 z1_4 z1_5 z1_6 z1_7 z1_8 z1_9 z1_10
  have z2 := q2
  obtain ⟨z2_1, z2_2, z2_3, z2_4, z2_5, z2_6, z2_7, z2_8, z2_9, z2_10⟩ := z2
  go_wp2_with fail
  refine (N2.out _).mono ?_
  rintro e w3 ⟨rfl, hb3⟩
  have q3 := pan_below q2 hb3
  clear q2 z2_1 z2_2 z2_3 z2_4 z2_5 z2_6 z2_7 z2_8 z2_9 z2_10
  have z3 := q3
  obtain ⟨z3_1, z3_2, z3_3, z3_4, z3_5, z3_6, z3_7, z3_8, z3_9, z3_10⟩ := z3
  go_wp2_with fail
  refine (across_any a b c _ A.out B.out C.out).mono ?_
  rintro e w4 ⟨rfl, hb4⟩
  go_wp2
  go_ret
  exact ⟨rfl, by (repeat' (first | exact Below.refl _ _ | refine bstep ?_ hb1 | refine bstep ?_ hb2 | refine bstep ?_ hb3 | refine bstep ?_ hb4 | refine Below.setCell ?_ (by simp <;> omega) _ | refine balloc ?_ _ | refine Below.drew ?_ | refine bdrewN ?_ _))⟩
set_option maxHeartbeats 400000 in
theorem rvp_ok (a b c : P3) (w : World) (h0 : inP 64 a = true) (h1 : inP 64 b = true) (h2 : inP 64 c = true) (hn : nrm a b c ≠ (0, 0, 0)) :
    Calls Try.prog 46 #[pnv a b c] w fun e w' => e = .returned (.int .i64 0) ∧ Below w.heap.size w w' := by
  have A := Lib.hid (w16 h0)
  have B := Lib.hid (w16 h1)
  have C := Lib.hid (w16 h2)
  have N0 := Lib.hid (fun W => (h0 ▸ near_any a 64 W (by decide) (by decide) : Calls Try.prog 57 #[ptv a, .int .i64 64] W fun e w' => e = .returned (.bool true) ∧ Below W.heap.size W w'))
  have N1 := Lib.hid (fun W => (h1 ▸ near_any b 64 W (by decide) (by decide) : Calls Try.prog 57 #[ptv b, .int .i64 64] W fun e w' => e = .returned (.bool true) ∧ Below W.heap.size W w'))
  have N2 := Lib.hid (fun W => (h2 ▸ near_any c 64 W (by decide) (by decide) : Calls Try.prog 57 #[ptv c, .int .i64 64] W fun e w' => e = .returned (.bool true) ∧ Below W.heap.size W w'))
  clear h0 h1 h2
  go_enter Try.func46, Try.ntmps46
  go_wp2_with fail
  refine (N0.out _).mono ?_
  rintro e w1 ⟨rfl, hb1⟩
  have q1 := pan_below (pan_new w a b c _) hb1
  have z1 := q1
  obtain ⟨z1_1, z1_2, z1_3, z1_4, z1_5, z1_6, z1_7, z1_8, z1_9, z1_10⟩ := z1
  go_wp2_with fail
  refine (N1.out _).mono ?_
  rintro e w2 ⟨rfl, hb2⟩
  have q2 := pan_below q1 hb2
  clear q1 z1_1 z1_2 z1_3 z1_4 z1_5 z1_6 z1_7 z1_8 z1_9 z1_10
  have z2 := q2
  obtain ⟨z2_1, z2_2, z2_3, z2_4, z2_5, z2_6, z2_7, z2_8, z2_9, z2_10⟩ := z2
  go_wp2_with fail
  refine (N2.out _).mono ?_
  rintro e w3 ⟨rfl, hb3⟩
  have q3 := pan_below q2 hb3
  clear q2 z2_1 z2_2 z2_3 z2_4 z2_5 z2_6 z2_7 z2_8 z2_9 z2_10
  have z3 := q3
  obtain ⟨z3_1, z3_2, z3_3, z3_4, z3_5, z3_6, z3_7, z3_8, z3_9, z3_10⟩ := z3
  go_wp2_with fail
  refine (across_any a b c _ A.out B.out C.out).mono ?_
  rintro e w4 ⟨rfl, hb4⟩
  go_wp2
  all_goals first
    | exact absurd (p3_zero (by assumption) (by assumption) (by assumption)) hn
    | (go_ret; exact ⟨rfl, by (repeat' (first | exact Below.refl _ _ | refine bstep ?_ hb1 | refine bstep ?_ hb2 | refine bstep ?_ hb3 | refine bstep ?_ hb4 | refine Below.setCell ?_ (by simp <;> omega) _ | refine balloc ?_ _ | refine Below.drew ?_ | refine bdrewN ?_ _))⟩)
theorem vp_any (a b c : P3) (w : World) :
    Calls Try.prog 64 #[pnv a b c] w fun e w' => e = .returned (.int .i64 (pcode a b c)) ∧ Below w.heap.size w w' := by
  unfold pcode
  cases h0 : inP 64 a with
  | false => exact vp_arg0 a b c w h0
  | true =>
    cases h1 : inP 64 b with
    | false => exact vp_arg1 a b c w h0 h1
    | true =>
      cases h2 : inP 64 c with
      | false => exact vp_arg2 a b c w h0 h1 h2
      | true =>
        by_cases hn : nrm a b c = (0, 0, 0)
        · rw [if_pos (by rfl), if_pos hn]; exact vp_flat a b c w h0 h1 h2 hn
        · rw [if_pos (by rfl), if_neg hn]; exact vp_ok a b c w h0 h1 h2 hn
theorem rvp_any (a b c : P3) (w : World) :
    Calls Try.prog 46 #[pnv a b c] w fun e w' => e = .returned (.int .i64 (pcode a b c)) ∧ Below w.heap.size w w' := by
  unfold pcode
  cases h0 : inP 64 a with
  | false => exact rvp_arg0 a b c w h0
  | true =>
    cases h1 : inP 64 b with
    | false => exact rvp_arg1 a b c w h0 h1
    | true =>
      cases h2 : inP 64 c with
      | false => exact rvp_arg2 a b c w h0 h1 h2
      | true =>
        by_cases hn : nrm a b c = (0, 0, 0)
        · rw [if_pos (by rfl), if_pos hn]; exact rvp_flat a b c w h0 h1 h2 hn
        · rw [if_pos (by rfl), if_neg hn]; exact rvp_ok a b c w h0 h1 h2 hn
end Go.Proofs.Ytlegalibjkeccaa
