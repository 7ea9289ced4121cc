/-
  The contracts of the product of a panel's corners, the limits of points, and the error of a panel; in the program and in the document's answer.
-/
import Derived.Test.YtlegalibjkeccaaVec2
import Derived.BigGuardPart
namespace Go.Proofs.Ytlegalibjkeccaa
open Go.ChangeShapes Go.WideShapes Go.RowKit
open Sh
theorem det_fit {a b c : P3} (h : BdP 1024 a) (k : BdP 1024 b) (l : BdP 1024 c) : BdP 1152921504606846976 (pw a (vec b c)) := by
  have v := vec_bd k l
  obtain ⟨a1, a2, a3, a4, a5, a6⟩ := h
  obtain ⟨b1, b2, b3, b4, b5, b6⟩ := v
  have x := mul_bd a1 a2 b1 b2
  have y := mul_bd a3 a4 b3 b4
  have z := mul_bd a5 a6 b5 b6
  exact ⟨by simp only [pw]; omega, by simp only [pw]; omega, by simp only [pw]; omega, by simp only [pw]; omega, by simp only [pw]; omega, by simp only [pw]; omega⟩
theorem inP_of {L : Int} {a : P3} : inP L a = (decide (-L ≤ a.1 ∧ a.1 ≤ L) && (decide (-L ≤ a.2.1 ∧ a.2.1 ≤ L) && decide (-L ≤ a.2.2 ∧ a.2.2 ≤ L))) := by
  rw [Bool.eq_iff_iff]
  simp only [inP, Bool.and_eq_true, decide_eq_true_eq]
  omega
theorem within_yes (a : P3) (L : Int) (w : World) (hL : 0 ≤ L) (hM : L ≤ 1099511627776) (l0 : -L ≤ a.1) (u0 : a.1 ≤ L) (l1 : -L ≤ a.2.1) (u1 : a.2.1 ≤ L) (l2 : -L ≤ a.2.2) (u2 : a.2.2 ≤ L) :
    Calls Try.prog 81 #[ptv a, .int .i64 L] w fun e w' => e = .returned (.bool true) ∧ Below w.heap.size w w' := by
  have nl0 : decide (a.1 < -L) = false := decide_eq_false (by omega)
  have nl1 : decide (a.2.1 < -L) = false := decide_eq_false (by omega)
  have nl2 : decide (a.2.2 < -L) = false := decide_eq_false (by omega)
  have nu0 : decide (L < a.1) = false := decide_eq_false (by omega)
  have nu1 : decide (L < a.2.1) = false := decide_eq_false (by omega)
  have nu2 : decide (L < a.2.2) = false := decide_eq_false (by omega)
  clear l0 u0 l1 u1 l2 u2
  have i0 : ∀ w, (Instr.index 71 (.agg #[.int .i64 a.1, .int .i64 a.2.1, .int .i64 a.2.2]) (.int .i64 0)).run Try.prog w = .ok (.int .i64 a.1) w := fun _ => by kernel_rfl
  have i1 : ∀ w, (Instr.index 71 (.agg #[.int .i64 a.1, .int .i64 a.2.1, .int .i64 a.2.2]) (.int .i64 1)).run Try.prog w = .ok (.int .i64 a.2.1) w := fun _ => by kernel_rfl
  have i2 : ∀ w, (Instr.index 71 (.agg #[.int .i64 a.1, .int .i64 a.2.1, .int .i64 a.2.2]) (.int .i64 2)).run Try.prog w = .ok (.int .i64 a.2.2) w := fun _ => by kernel_rfl
  go_enter Try.func81, Try.ntmps81
  go_wp2
  refine wp_loop_rounds 4 ?_
  rw [rounds_succ]
  go_wp2
  rw [rounds_succ]
  go_wp2
  rw [rounds_succ]
  go_wp2
  rw [rounds_succ]
  go_wp2
  go_ret
  exact ⟨rfl, by (repeat' (first | exact Below.refl _ _ | refine Below.setCell ?_ (by simp <;> omega) _ | refine balloc ?_ _ | refine Below.drew ?_ | refine bdrewN ?_ _))⟩
theorem within_lo0 (a : P3) (L : Int) (w : World) (hL : 0 ≤ L) (hM : L ≤ 1099511627776) (n : a.1 < -L) :
    Calls Try.prog 81 #[ptv a, .int .i64 L] w fun e w' => e = .returned (.bool false) ∧ Below w.heap.size w w' := by
  have i0 : ∀ w, (Instr.index 71 (.agg #[.int .i64 a.1, .int .i64 a.2.1, .int .i64 a.2.2]) (.int .i64 0)).run Try.prog w = .ok (.int .i64 a.1) w := fun _ => by kernel_rfl
  have i1 : ∀ w, (Instr.index 71 (.agg #[.int .i64 a.1, .int .i64 a.2.1, .int .i64 a.2.2]) (.int .i64 1)).run Try.prog w = .ok (.int .i64 a.2.1) w := fun _ => by kernel_rfl
  have i2 : ∀ w, (Instr.index 71 (.agg #[.int .i64 a.1, .int .i64 a.2.1, .int .i64 a.2.2]) (.int .i64 2)).run Try.prog w = .ok (.int .i64 a.2.2) w := fun _ => by kernel_rfl
  go_enter Try.func81, Try.ntmps81
  go_wp2
  refine wp_loop_rounds 1 ?_
  rw [rounds_succ]
  go_wp2
  go_ret
  exact ⟨rfl, by (repeat' (first | exact Below.refl _ _ | refine Below.setCell ?_ (by simp <;> omega) _ | refine balloc ?_ _ | refine Below.drew ?_ | refine bdrewN ?_ _))⟩
theorem within_hi0 (a : P3) (L : Int) (w : World) (hL : 0 ≤ L) (hM : L ≤ 1099511627776) (m : -L ≤ a.1) (n : L < a.1) :
    Calls Try.prog 81 #[ptv a, .int .i64 L] w fun e w' => e = .returned (.bool false) ∧ Below w.heap.size w w' := by
  have nl0 : decide (a.1 < -L) = false := decide_eq_false (by omega)
  clear  m
  have i0 : ∀ w, (Instr.index 71 (.agg #[.int .i64 a.1, .int .i64 a.2.1, .int .i64 a.2.2]) (.int .i64 0)).run Try.prog w = .ok (.int .i64 a.1) w := fun _ => by kernel_rfl
  have i1 : ∀ w, (Instr.index 71 (.agg #[.int .i64 a.1, .int .i64 a.2.1, .int .i64 a.2.2]) (.int .i64 1)).run Try.prog w = .ok (.int .i64 a.2.1) w := fun _ => by kernel_rfl
  have i2 : ∀ w, (Instr.index 71 (.agg #[.int .i64 a.1, .int .i64 a.2.1, .int .i64 a.2.2]) (.int .i64 2)).run Try.prog w = .ok (.int .i64 a.2.2) w := fun _ => by kernel_rfl
  go_enter Try.func81, Try.ntmps81
  go_wp2
  refine wp_loop_rounds 1 ?_
  rw [rounds_succ]
  go_wp2
  go_ret
  exact ⟨rfl, by (repeat' (first | exact Below.refl _ _ | refine Below.setCell ?_ (by simp <;> omega) _ | refine balloc ?_ _ | refine Below.drew ?_ | refine bdrewN ?_ _))⟩
theorem within_lo1 (a : P3) (L : Int) (w : World) (hL : 0 ≤ L) (hM : L ≤ 1099511627776) (l0 : -L ≤ a.1) (u0 : a.1 ≤ L) (n : a.2.1 < -L) :
    Calls Try.prog 81 #[ptv a, .int .i64 L] w fun e w' => e = .returned (.bool false) ∧ Below w.heap.size w w' := by
  have nl0 : decide (a.1 < -L) = false := decide_eq_false (by omega)
  have nu0 : decide (L < a.1) = false := decide_eq_false (by omega)
  clear l0 u0
  have i0 : ∀ w, (Instr.index 71 (.agg #[.int .i64 a.1, .int .i64 a.2.1, .int .i64 a.2.2]) (.int .i64 0)).run Try.prog w = .ok (.int .i64 a.1) w := fun _ => by kernel_rfl
  have i1 : ∀ w, (Instr.index 71 (.agg #[.int .i64 a.1, .int .i64 a.2.1, .int .i64 a.2.2]) (.int .i64 1)).run Try.prog w = .ok (.int .i64 a.2.1) w := fun _ => by kernel_rfl
  have i2 : ∀ w, (Instr.index 71 (.agg #[.int .i64 a.1, .int .i64 a.2.1, .int .i64 a.2.2]) (.int .i64 2)).run Try.prog w = .ok (.int .i64 a.2.2) w := fun _ => by kernel_rfl
  go_enter Try.func81, Try.ntmps81
  go_wp2
  refine wp_loop_rounds 2 ?_
  rw [rounds_succ]
  go_wp2
  rw [rounds_succ]
  go_wp2
  go_ret
  exact ⟨rfl, by (repeat' (first | exact Below.refl _ _ | refine Below.setCell ?_ (by simp <;> omega) _ | refine balloc ?_ _ | refine Below.drew ?_ | refine bdrewN ?_ _))⟩
theorem within_hi1 (a : P3) (L : Int) (w : World) (hL : 0 ≤ L) (hM : L ≤ 1099511627776) (l0 : -L ≤ a.1) (u0 : a.1 ≤ L) (m : -L ≤ a.2.1) (n : L < a.2.1) :
    Calls Try.prog 81 #[ptv a, .int .i64 L] w fun e w' => e = .returned (.bool false) ∧ Below w.heap.size w w' := by
  have nl0 : decide (a.1 < -L) = false := decide_eq_false (by omega)
  have nl1 : decide (a.2.1 < -L) = false := decide_eq_false (by omega)
  have nu0 : decide (L < a.1) = false := decide_eq_false (by omega)
  clear l0 u0 m
  have i0 : ∀ w, (Instr.index 71 (.agg #[.int .i64 a.1, .int .i64 a.2.1, .int .i64 a.2.2]) (.int .i64 0)).run Try.prog w = .ok (.int .i64 a.1) w := fun _ => by kernel_rfl
  have i1 : ∀ w, (Instr.index 71 (.agg #[.int .i64 a.1, .int .i64 a.2.1, .int .i64 a.2.2]) (.int .i64 1)).run Try.prog w = .ok (.int .i64 a.2.1) w := fun _ => by kernel_rfl
  have i2 : ∀ w, (Instr.index 71 (.agg #[.int .i64 a.1, .int .i64 a.2.1, .int .i64 a.2.2]) (.int .i64 2)).run Try.prog w = .ok (.int .i64 a.2.2) w := fun _ => by kernel_rfl
  go_enter Try.func81, Try.ntmps81
  go_wp2
  refine wp_loop_rounds 2 ?_
  rw [rounds_succ]
  go_wp2
  rw [rounds_succ]
  go_wp2
  go_ret
  exact ⟨rfl, by (repeat' (first | exact Below.refl _ _ | refine Below.setCell ?_ (by simp <;> omega) _ | refine balloc ?_ _ | refine Below.drew ?_ | refine bdrewN ?_ _))⟩
theorem within_lo2 (a : P3) (L : Int) (w : World) (hL : 0 ≤ L) (hM : L ≤ 1099511627776) (l0 : -L ≤ a.1) (u0 : a.1 ≤ L) (l1 : -L ≤ a.2.1) (u1 : a.2.1 ≤ L) (n : a.2.2 < -L) :
    Calls Try.prog 81 #[ptv a, .int .i64 L] w fun e w' => e = .returned (.bool false) ∧ Below w.heap.size w w' := by
  have nl0 : decide (a.1 < -L) = false := decide_eq_false (by omega)
  have nl1 : decide (a.2.1 < -L) = false := decide_eq_false (by omega)
  have nu0 : decide (L < a.1) = false := decide_eq_false (by omega)
  have nu1 : decide (L < a.2.1) = false := decide_eq_false (by omega)
  clear l0 u0 l1 u1
  have i0 : ∀ w, (Instr.index 71 (.agg #[.int .i64 a.1, .int .i64 a.2.1, .int .i64 a.2.2]) (.int .i64 0)).run Try.prog w = .ok (.int .i64 a.1) w := fun _ => by kernel_rfl
  have i1 : ∀ w, (Instr.index 71 (.agg #[.int .i64 a.1, .int .i64 a.2.1, .int .i64 a.2.2]) (.int .i64 1)).run Try.prog w = .ok (.int .i64 a.2.1) w := fun _ => by kernel_rfl
  have i2 : ∀ w, (Instr.index 71 (.agg #[.int .i64 a.1, .int .i64 a.2.1, .int .i64 a.2.2]) (.int .i64 2)).run Try.prog w = .ok (.int .i64 a.2.2) w := fun _ => by kernel_rfl
  go_enter Try.func81, Try.ntmps81
  go_wp2
  refine wp_loop_rounds 3 ?_
  rw [rounds_succ]
  go_wp2
  rw [rounds_succ]
  go_wp2
  rw [rounds_succ]
  go_wp2
  go_ret
  exact ⟨rfl, by (repeat' (first | exact Below.refl _ _ | refine Below.setCell ?_ (by simp <;> omega) _ | refine balloc ?_ _ | refine Below.drew ?_ | refine bdrewN ?_ _))⟩
theorem within_hi2 (a : P3) (L : Int) (w : World) (hL : 0 ≤ L) (hM : L ≤ 1099511627776) (l0 : -L ≤ a.1) (u0 : a.1 ≤ L) (l1 : -L ≤ a.2.1) (u1 : a.2.1 ≤ L) (m : -L ≤ a.2.2) (n : L < a.2.2) :
    Calls Try.prog 81 #[ptv a, .int .i64 L] w fun e w' => e = .returned (.bool false) ∧ Below w.heap.size w w' := by
  have nl0 : decide (a.1 < -L) = false := decide_eq_false (by omega)
  have nl1 : decide (a.2.1 < -L) = false := decide_eq_false (by omega)
  have nl2 : decide (a.2.2 < -L) = false := decide_eq_false (by omega)
  have nu0 : decide (L < a.1) = false := decide_eq_false (by omega)
  have nu1 : decide (L < a.2.1) = false := decide_eq_false (by omega)
  clear l0 u0 l1 u1 m
  have i0 : ∀ w, (Instr.index 71 (.agg #[.int .i64 a.1, .int .i64 a.2.1, .int .i64 a.2.2]) (.int .i64 0)).run Try.prog w = .ok (.int .i64 a.1) w := fun _ => by kernel_rfl
  have i1 : ∀ w, (Instr.index 71 (.agg #[.int .i64 a.1, .int .i64 a.2.1, .int .i64 a.2.2]) (.int .i64 1)).run Try.prog w = .ok (.int .i64 a.2.1) w := fun _ => by kernel_rfl
  have i2 : ∀ w, (Instr.index 71 (.agg #[.int .i64 a.1, .int .i64 a.2.1, .int .i64 a.2.2]) (.int .i64 2)).run Try.prog w = .ok (.int .i64 a.2.2) w := fun _ => by kernel_rfl
  go_enter Try.func81, Try.ntmps81
  go_wp2
  refine wp_loop_rounds 3 ?_
  rw [rounds_succ]
  go_wp2
  rw [rounds_succ]
  go_wp2
  rw [rounds_succ]
  go_wp2
  go_ret
  exact ⟨rfl, by (repeat' (first | exact Below.refl _ _ | refine Below.setCell ?_ (by simp <;> omega) _ | refine balloc ?_ _ | refine Below.drew ?_ | refine bdrewN ?_ _))⟩
theorem within_any (a : P3) (L : Int) (w : World) (hL : 0 ≤ L) (hM : L ≤ 1099511627776) :
    Calls Try.prog 81 #[ptv a, .int .i64 L] w fun e w' => e = .returned (.bool (inP L a)) ∧ Below w.heap.size w w' := by
  cases h : inP L a with
  | true =>
    obtain ⟨h1, h2, h3, h4, h5, h6⟩ := inP_iff.1 h
    exact within_yes a L w hL hM h1 h2 h3 h4 h5 h6
  | false =>
    have h := inP_not.1 h
    unfold BdP at h
    rcases Int.lt_or_le a.1 (-L) with c | h1
    · exact within_lo0 a L w hL hM c
    rcases Int.lt_or_le L a.1 with c | h2
    · exact within_hi0 a L w hL hM h1 c
    rcases Int.lt_or_le a.2.1 (-L) with c | h3
    · exact within_lo1 a L w hL hM h1 h2 c
    rcases Int.lt_or_le L a.2.1 with c | h4
    · exact within_hi1 a L w hL hM h1 h2 h3 c
    rcases Int.lt_or_le a.2.2 (-L) with c | h5
    · exact within_lo2 a L w hL hM h1 h2 h3 h4 c
    rcases Int.lt_or_le L a.2.2 with c | h6
    · exact within_hi2 a L w hL hM h1 h2 h3 h4 h5 c
    exact absurd ⟨h1, h2, h3, h4, h5, h6⟩ h
theorem rwithin_any (n lo hi : Int) (w : World) :
    Calls Try.prog 66 #[.int .i64 n, .int .i64 lo, .int .i64 hi] w fun e w' => e = .returned (.bool (decide (lo ≤ n ∧ n ≤ hi))) ∧ w = w' := by
  by_cases h : lo ≤ n
  · by_cases k : n ≤ hi
    · rw [decide_eq_true (show lo ≤ n ∧ n ≤ hi from ⟨h, k⟩)]
      go_enter Try.func66, Try.ntmps66
      go_wp2
      go_ret
      exact ⟨rfl, rfl⟩
    · rw [decide_eq_false (show ¬ (lo ≤ n ∧ n ≤ hi) from fun x => k x.2)]
      have k' : decide (n ≤ hi) = false := decide_eq_false k
      clear k
      go_enter Try.func66, Try.ntmps66
      go_wp2
      go_ret
      exact ⟨rfl, rfl⟩
  · rw [decide_eq_false (show ¬ (lo ≤ n ∧ n ≤ hi) from fun x => h x.1)]
    go_enter Try.func66, Try.ntmps66
    go_wp2
    go_ret
    exact ⟨rfl, rfl⟩
theorem near_any (a : P3) (L : Int) (w : World) (hL : 0 ≤ L) (hM : L ≤ 1099511627776) :
    Calls Try.prog 57 #[ptv a, .int .i64 L] w fun e w' => e = .returned (.bool (inP L a)) ∧ Below w.heap.size w w' := by
  rw [inP_of]
  cases h1 : decide (-L ≤ a.1 ∧ a.1 ≤ L) with
  | false =>
    go_enter Try.func57, Try.ntmps57
    go_wp2_with (go_at_call 66; refine (rwithin_any _ _ _ _).mono ?_; rintro e w' ⟨rfl, rfl⟩)
    go_ret
    exact ⟨by simp [*], by (repeat' (first | exact Below.refl _ _ | refine Below.setCell ?_ (by simp <;> omega) _ | refine balloc ?_ _ | refine Below.drew ?_ | refine bdrewN ?_ _))⟩
  | true =>
    cases h2 : decide (-L ≤ a.2.1 ∧ a.2.1 ≤ L) with
    | false =>
      go_enter Try.func57, Try.ntmps57
      go_wp2_with (go_at_call 66; refine (rwithin_any _ _ _ _).mono ?_; rintro e w' ⟨rfl, rfl⟩)
      go_ret
      exact ⟨by simp [*], by (repeat' (first | exact Below.refl _ _ | refine Below.setCell ?_ (by simp <;> omega) _ | refine balloc ?_ _ | refine Below.drew ?_ | refine bdrewN ?_ _))⟩
    | true =>
      cases h3 : decide (-L ≤ a.2.2 ∧ a.2.2 ≤ L) with
      | false =>
        go_enter Try.func57, Try.ntmps57
        go_wp2_with (go_at_call 66; refine (rwithin_any _ _ _ _).mono ?_; rintro e w' ⟨rfl, rfl⟩)
        go_ret
        exact ⟨by simp [*], by (repeat' (first | exact Below.refl _ _ | refine Below.setCell ?_ (by simp <;> omega) _ | refine balloc ?_ _ | refine Below.drew ?_ | refine bdrewN ?_ _))⟩
      | true =>
        go_enter Try.func57, Try.ntmps57
        go_wp2_with (go_at_call 66; refine (rwithin_any _ _ _ _).mono ?_; rintro e w' ⟨rfl, rfl⟩)
        go_ret
        exact ⟨by simp [*], by (repeat' (first | exact Below.refl _ _ | refine Below.setCell ?_ (by simp <;> omega) _ | refine balloc ?_ _ | refine Below.drew ?_ | refine bdrewN ?_ _))⟩

end Go.Proofs.Ytlegalibjkeccaa
