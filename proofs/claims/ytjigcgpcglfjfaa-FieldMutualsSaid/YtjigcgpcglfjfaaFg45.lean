/-
  A pair of panels and a depth: the program's test and the document's.
-/
import Derived.Test.YtjigcgpcglfjfaaFg44
namespace Go.Proofs.Ytjigcgpcglfjfaa
open Go.ChangeShapes Go.WideShapes Go.RowKit
open Sh
/-- the code of a pair of panels and a depth -/
def prc (t u : P9) (D : Int) : Int := if pcode t.1 t.2.1 t.2.2 = 0 then (if pcode u.1 u.2.1 u.2.2 = 0 then (if rngB D 0 2 = true then 0 else 1) else pcode u.1 u.2.1 u.2.2) else pcode t.1 t.2.1 t.2.2
theorem ar2_0 (t u : P9) (w : World) : (Instr.index 146 (.agg #[.int .i64 t.1.1, .int .i64 t.1.2.1, .int .i64 t.1.2.2, .int .i64 t.2.1.1, .int .i64 t.2.1.2.1, .int .i64 t.2.1.2.2, .int .i64 t.2.2.1, .int .i64 t.2.2.2.1, .int .i64 t.2.2.2.2, .int .i64 u.1.1, .int .i64 u.1.2.1, .int .i64 u.1.2.2, .int .i64 u.2.1.1, .int .i64 u.2.1.2.1, .int .i64 u.2.1.2.2, .int .i64 u.2.2.1, .int .i64 u.2.2.2.1, .int .i64 u.2.2.2.2]) (.int .i64 0)).run Try.prog w = .ok (p9v t) w := by kernel_rfl
theorem ar2_1 (t u : P9) (w : World) : (Instr.index 146 (.agg #[.int .i64 t.1.1, .int .i64 t.1.2.1, .int .i64 t.1.2.2, .int .i64 t.2.1.1, .int .i64 t.2.1.2.1, .int .i64 t.2.1.2.2, .int .i64 t.2.2.1, .int .i64 t.2.2.2.1, .int .i64 t.2.2.2.2, .int .i64 u.1.1, .int .i64 u.1.2.1, .int .i64 u.1.2.2, .int .i64 u.2.1.1, .int .i64 u.2.1.2.1, .int .i64 u.2.1.2.2, .int .i64 u.2.2.1, .int .i64 u.2.2.2.1, .int .i64 u.2.2.2.2]) (.int .i64 1)).run Try.prog w = .ok (p9v u) w := by kernel_rfl
set_option maxRecDepth 100000 in
set_option maxHeartbeats 2000000 in
theorem cpr_no0 (pc : Int) (t u : P9) (D : Int) (w : World) (V : Hid (∀ W, Calls Try.prog 97 #[p9v t] W fun e w' => e = .returned (.int .i64 pc) ∧ Below W.heap.size W w')) (zz : (pc != 0) = true) : Calls Try.prog 67 #[p9v t, p9v u, .int .i64 D] w fun e w' => e = .returned (.int .i64 pc) ∧ Below w.heap.size w w' := by
  obtain ⟨a, b, c⟩ := t
  obtain ⟨x, y, z⟩ := u
  have i0 := fun w => ar2_0 (a, b, c) (x, y, z) w
  have i1 := fun w => ar2_1 (a, b, c) (x, y, z) w
  go_enter Try.func67, Try.ntmps67
  go_wp2
  refine wp_loop_rounds 3 ?_
  rw [rounds_succ]
  go_wp2_with fail
  refine (V.out _).mono ?_
  rintro e w1 ⟨rfl, hb1⟩
  go_wp2
  go_ret
  exact ⟨rfl, by (repeat' (first | exact Below.refl _ _ | refine bstep ?_ hb1 | refine Below.setCell ?_ (by simp <;> omega) _ | refine balloc ?_ _ | refine Below.drew ?_ | refine bdrewN ?_ _))⟩
set_option maxRecDepth 100000 in
set_option maxHeartbeats 2000000 in
theorem cpr_no1 (pc : Int) (t u : P9) (D : Int) (w : World) (V : Hid (∀ W, Calls Try.prog 97 #[p9v t] W fun e w' => e = .returned (.int .i64 0) ∧ Below W.heap.size W w')) (U : Hid (∀ W, Calls Try.prog 97 #[p9v u] W fun e w' => e = .returned (.int .i64 pc) ∧ Below W.heap.size W w')) (zz : (pc != 0) = true) : Calls Try.prog 67 #[p9v t, p9v u, .int .i64 D] w fun e w' => e = .returned (.int .i64 pc) ∧ Below w.heap.size w w' := by
  obtain ⟨a, b, c⟩ := t
  obtain ⟨x, y, z⟩ := u
  have i0 := fun w => ar2_0 (a, b, c) (x, y, z) w
  have i1 := fun w => ar2_1 (a, b, c) (x, y, z) w
  go_enter Try.func67, Try.ntmps67
  go_wp2
  refine wp_loop_rounds 3 ?_
  rw [rounds_succ]
  go_wp2_with fail
  refine (V.out _).mono ?_
  rintro e w1 ⟨rfl, hb1⟩
  go_wp2
  rw [rounds_succ]
  go_wp2_with fail
  refine (U.out _).mono ?_
  rintro e w2 ⟨rfl, hb2⟩
  go_wp2
  go_ret
  exact ⟨rfl, by (repeat' (first | exact Below.refl _ _ | refine bstep ?_ hb2 | refine bstep ?_ hb1 | refine Below.setCell ?_ (by simp <;> omega) _ | refine balloc ?_ _ | refine Below.drew ?_ | refine bdrewN ?_ _))⟩
set_option maxRecDepth 100000 in
set_option maxHeartbeats 2000000 in
theorem cpr_true (t u : P9) (D : Int) (w : World) (V : Hid (∀ W, Calls Try.prog 97 #[p9v t] W fun e w' => e = .returned (.int .i64 0) ∧ Below W.heap.size W w')) (U : Hid (∀ W, Calls Try.prog 97 #[p9v u] W fun e w' => e = .returned (.int .i64 0) ∧ Below W.heap.size W w')) (I : Hid (∀ W, Calls Try.prog 78 #[.int .i64 D, .int .i64 0, .int .i64 2] W fun e w' => e = .returned (.bool true) ∧ W = w')) : Calls Try.prog 67 #[p9v t, p9v u, .int .i64 D] w fun e w' => e = .returned (.int .i64 0) ∧ Below w.heap.size w w' := by
  obtain ⟨a, b, c⟩ := t
  obtain ⟨x, y, z⟩ := u
  have i0 := fun w => ar2_0 (a, b, c) (x, y, z) w
  have i1 := fun w => ar2_1 (a, b, c) (x, y, z) w
  go_enter Try.func67, Try.ntmps67
  go_wp2
  refine wp_loop_rounds 3 ?_
  rw [rounds_succ]
  go_wp2_with fail
  refine (V.out _).mono ?_
  rintro e w1 ⟨rfl, hb1⟩
  go_wp2
  rw [rounds_succ]
  go_wp2_with fail
  refine (U.out _).mono ?_
  rintro e w2 ⟨rfl, hb2⟩
  go_wp2
  rw [rounds_succ]
  go_wp2_with fail
  refine (I.out _).mono ?_
  rintro e w3 ⟨rfl, rfl⟩
  go_wp2
  go_ret
  exact ⟨rfl, by (repeat' (first | exact Below.refl _ _ | refine bstep ?_ hb2 | refine bstep ?_ hb1 | refine Below.setCell ?_ (by simp <;> omega) _ | refine balloc ?_ _ | refine Below.drew ?_ | refine bdrewN ?_ _))⟩
set_option maxRecDepth 100000 in
set_option maxHeartbeats 2000000 in
theorem cpr_false (t u : P9) (D : Int) (w : World) (V : Hid (∀ W, Calls Try.prog 97 #[p9v t] W fun e w' => e = .returned (.int .i64 0) ∧ Below W.heap.size W w')) (U : Hid (∀ W, Calls Try.prog 97 #[p9v u] W fun e w' => e = .returned (.int .i64 0) ∧ Below W.heap.size W w')) (I : Hid (∀ W, Calls Try.prog 78 #[.int .i64 D, .int .i64 0, .int .i64 2] W fun e w' => e = .returned (.bool false) ∧ W = w')) : Calls Try.prog 67 #[p9v t, p9v u, .int .i64 D] w fun e w' => e = .returned (.int .i64 1) ∧ Below w.heap.size w w' := by
  obtain ⟨a, b, c⟩ := t
  obtain ⟨x, y, z⟩ := u
  have i0 := fun w => ar2_0 (a, b, c) (x, y, z) w
  have i1 := fun w => ar2_1 (a, b, c) (x, y, z) w
  go_enter Try.func67, Try.ntmps67
  go_wp2
  refine wp_loop_rounds 3 ?_
  rw [rounds_succ]
  go_wp2_with fail
  refine (V.out _).mono ?_
  rintro e w1 ⟨rfl, hb1⟩
  go_wp2
  rw [rounds_succ]
  go_wp2_with fail
  refine (U.out _).mono ?_
  rintro e w2 ⟨rfl, hb2⟩
  go_wp2
  rw [rounds_succ]
  go_wp2_with fail
  refine (I.out _).mono ?_
  rintro e w3 ⟨rfl, rfl⟩
  go_wp2
  go_ret
  exact ⟨rfl, by (repeat' (first | exact Below.refl _ _ | refine bstep ?_ hb2 | refine bstep ?_ hb1 | refine Below.setCell ?_ (by simp <;> omega) _ | refine balloc ?_ _ | refine Below.drew ?_ | refine bdrewN ?_ _))⟩
theorem cpr_any (t u : P9) (D : Int) (w : World) : Calls Try.prog 67 #[p9v t, p9v u, .int .i64 D] w fun e w' => e = .returned (.int .i64 (prc t u D)) ∧ Below w.heap.size w w' := by
  have V := fun W => vp_any t.1 t.2.1 t.2.2 W
  have U := fun W => vp_any u.1 u.2.1 u.2.2 W
  have I := fun W => finr_any D 0 2 W
  unfold prc
  by_cases h : pcode t.1 t.2.1 t.2.2 = 0
  · rw [if_pos h]
    rw [h] at V
    by_cases k : pcode u.1 u.2.1 u.2.2 = 0
    · rw [if_pos k]
      rw [k] at U
      cases r : rngB D 0 2 with
      | true => rw [r] at I; exact cpr_true t u D w (Lib.hid V) (Lib.hid U) (Lib.hid I)
      | false => rw [r] at I; exact cpr_false t u D w (Lib.hid V) (Lib.hid U) (Lib.hid I)
    · rw [if_neg k]
      exact cpr_no1 _ t u D w (Lib.hid V) (Lib.hid U) (bne_iff_ne.2 k)
  · rw [if_neg h]
    exact cpr_no0 _ t u D w (Lib.hid V) (bne_iff_ne.2 h)

end Go.Proofs.Ytjigcgpcglfjfaa
