/-
  The contracts of the small words of moments: ranges, vectors, their sums and products.
-/
import Derived.Test.YtofjnbebipkgkaaDoorMo2
import Derived.Test.YtofjnbebipkgkaaDoorVPanel
import Derived.RegionTactic
import Derived.BigRegion
namespace Go.Proofs.YtofjnbebipkgkaaDoor
open Go.ChangeShapes Go.WideShapes Go.RowKit
open Sh
theorem inr_any (n lo hi : Int) (w : World) :
    Calls Tryd.prog 31 #[.int .i64 n, .int .i64 lo, .int .i64 hi] w fun e w' => e = .returned (.bool (rngB n lo hi)) ∧ w = w' := by
  by_cases h : lo ≤ n
  · by_cases k : n ≤ hi
    · rw [rngB_iff.2 ⟨h, k⟩]
      go_enter Tryd.func31, Tryd.ntmps31
      go_wp2
      go_ret
      exact ⟨rfl, rfl⟩
    · rw [rngB_not.2 (fun x => k x.2)]
      have k' : decide (n ≤ hi) = false := decide_eq_false k
      clear k
      go_enter Tryd.func31, Tryd.ntmps31
      go_wp2
      go_ret
      exact ⟨rfl, rfl⟩
  · rw [rngB_not.2 (fun x => h x.1)]
    go_enter Tryd.func31, Tryd.ntmps31
    go_wp2
    go_ret
    exact ⟨rfl, rfl⟩
theorem finr_any (n lo hi : Int) (w : World) :
    Calls Tryd.prog 34 #[.int .i64 n, .int .i64 lo, .int .i64 hi] w fun e w' => e = .returned (.bool (rngB n lo hi)) ∧ w = w' := by
  by_cases h : lo ≤ n
  · by_cases k : n ≤ hi
    · rw [rngB_iff.2 ⟨h, k⟩]
      go_enter Tryd.func34, Tryd.ntmps34
      go_wp2
      go_ret
      exact ⟨rfl, rfl⟩
    · rw [rngB_not.2 (fun x => k x.2)]
      have k' : decide (n ≤ hi) = false := decide_eq_false k
      clear k
      go_enter Tryd.func34, Tryd.ntmps34
      go_wp2
      go_ret
      exact ⟨rfl, rfl⟩
  · rw [rngB_not.2 (fun x => h x.1)]
    go_enter Tryd.func34, Tryd.ntmps34
    go_wp2
    go_ret
    exact ⟨rfl, rfl⟩
theorem rfinr_any (n lo hi : Int) (w : World) :
    Calls Tryd.prog 36 #[.int .i64 n, .int .i64 lo, .int .i64 hi] w fun e w' => e = .returned (.bool (rngB n lo hi)) ∧ w = w' := by
  by_cases h : lo ≤ n
  · by_cases k : n ≤ hi
    · rw [rngB_iff.2 ⟨h, k⟩]
      go_enter Tryd.func36, Tryd.ntmps36
      go_wp2
      go_ret
      exact ⟨rfl, rfl⟩
    · rw [rngB_not.2 (fun x => k x.2)]
      have k' : decide (n ≤ hi) = false := decide_eq_false k
      clear k
      go_enter Tryd.func36, Tryd.ntmps36
      go_wp2
      go_ret
      exact ⟨rfl, rfl⟩
  · rw [rngB_not.2 (fun x => h x.1)]
    go_enter Tryd.func36, Tryd.ntmps36
    go_wp2
    go_ret
    exact ⟨rfl, rfl⟩
theorem win_any (n L : Int) (w : World) (h1 : -4611686018427387904 ≤ L) (h2 : L ≤ 4611686018427387904) :
    Calls Tryd.prog 32 #[.int .i64 n, .int .i64 L] w fun e w' => e = .returned (.bool (rngB n (-L) L)) ∧ w = w' := by
  go_enter Tryd.func32, Tryd.ntmps32
  go_wp2_with fail
  refine (inr_any _ _ _ _).mono ?_
  rintro e w' ⟨rfl, rfl⟩
  go_wp2
  go_ret
  exact ⟨rfl, rfl⟩
theorem vof_any (a : P3) (w : World) :
    Calls Tryd.prog 23 #[ptv a] w fun e w' => e = .returned (ptv a) ∧ Below w.heap.size w w' := by
  go_enter Tryd.func23, Tryd.ntmps23
  go_wp2
  refine bodyPost_ret (v := ptv a) (by rw [results_cell rfl]; go_simp) rfl ⟨rfl, ?_⟩
  (repeat' (first | exact Below.refl _ _ | refine Below.setCell ?_ (by simp <;> omega) _ | refine balloc ?_ _ | refine Below.drew ?_ | refine bdrewN ?_ _))
theorem vpt_any (a : P3) (w : World) :
    Calls Tryd.prog 26 #[ptv a] w fun e w' => e = .returned (ptv a) ∧ Below w.heap.size w w' := by
  go_enter Tryd.func26, Tryd.ntmps26
  go_wp2
  refine bodyPost_ret (v := ptv a) (by rw [results_cell rfl]; go_simp) rfl ⟨rfl, ?_⟩
  (repeat' (first | exact Below.refl _ _ | refine Below.setCell ?_ (by simp <;> omega) _ | refine balloc ?_ _ | refine Below.drew ?_ | refine bdrewN ?_ _))
theorem abt_any (a : P3) (w : World) :
    Calls Tryd.prog 11 #[ptv a] w fun e w' => e = .returned (ptv a) ∧ Below w.heap.size w w' := by
  go_enter Tryd.func11, Tryd.ntmps11
  go_wp2_with fail
  refine (vof_any a _).mono ?_
  rintro e w1 ⟨rfl, hb1⟩
  obtain ⟨g1, g2, g3, g4, g5, g6, g7⟩ := own_below (own_new (w.alloc _) (0, 0, 0) _) hb1
  simp only [World.size_alloc] at g1 g2 g3 g4 g5 g6 g7
  go_wp2
  refine bodyPost_ret (v := ptv a) (by rw [results_cell rfl]; go_simp) rfl ⟨rfl, ?_⟩
  (repeat' (first | exact Below.refl _ _ | refine bstep ?_ hb1 | refine Below.setCell ?_ (by simp <;> omega) _ | refine balloc ?_ _ | refine Below.drew ?_ | refine bdrewN ?_ _))
theorem vsc_any (a b : P3) (w : World) (h : BdP 1152921504606846976 (pw a b)) :
    Calls Tryd.prog 20 #[ptv a, ptv b] w fun e w' => e = .returned (.int .i64 (dot a b)) ∧ Below w.heap.size w w' := by
  simp only [BdP, pw] at h
  obtain ⟨h1, h2, h3, h4, h5, h6⟩ := h
  go_enter Tryd.func20, Tryd.ntmps20
  go_wp2
  go_ret
  exact ⟨rfl, by (repeat' (first | exact Below.refl _ _ | refine Below.setCell ?_ (by simp <;> omega) _ | refine balloc ?_ _ | refine Below.drew ?_ | refine bdrewN ?_ _))⟩
set_option maxHeartbeats 1000000 in
theorem vpl_any (a b : P3) (k : Int) (w : World) (h : BdP 4611686018427387904 (tim k b)) (l : BdP 4611686018427387904 (add a (tim k b))) :
    Calls Tryd.prog 25 #[ptv a, .int .i64 k, ptv b] w fun e w' => e = .returned (ptv (add a (tim k b))) ∧ Below w.heap.size w w' := by
  simp only [BdP, tim, add] at h l
  obtain ⟨h1, h2, h3, h4, h5, h6⟩ := h
  obtain ⟨l1, l2, l3, l4, l5, l6⟩ := l
  go_enter Tryd.func25, Tryd.ntmps25
  go_wp2
  refine wp_loop_rounds 4 ?_
  rw [rounds_succ]
  go_wp2
  go_region
  go_wp2
  rw [rounds_succ]
  go_wp2
  go_region
  go_wp2
  rw [rounds_succ]
  go_wp2
  go_region
  go_wp2
  rw [rounds_succ]
  go_wp2
  refine bodyPost_ret (v := ptv (add a (tim k b))) (by rw [results_cell rfl]; go_simp; exact ⟨rfl, rfl, rfl⟩) rfl ⟨rfl, ?_⟩
  (repeat' (first | exact Below.refl _ _ | refine Below.setCell ?_ (by simp <;> omega) _ | refine balloc ?_ _ | refine Below.drew ?_ | refine bdrewN ?_ _))
theorem inP_rng (a : P3) (L : Int) : inP L a = (rngB a.1 (-L) L && rngB a.2.1 (-L) L && rngB a.2.2 (-L) L) := by
  unfold inP rngB
  rw [Bool.eq_iff_iff]
  simp only [decide_eq_true_eq, Bool.and_eq_true]
  constructor
  · rintro ⟨h1, h2, h3, h4, h5, h6⟩; exact ⟨⟨⟨h1, h2⟩, ⟨h3, h4⟩⟩, ⟨h5, h6⟩⟩
  · rintro ⟨⟨⟨h1, h2⟩, ⟨h3, h4⟩⟩, ⟨h5, h6⟩⟩; exact ⟨h1, h2, h3, h4, h5, h6⟩
theorem vwi_0 (a : P3) (L : Int) (w : World) (b1 : -4611686018427387904 ≤ L) (b2 : L ≤ 4611686018427387904) (h0 : rngB a.1 (-L) L = false) :
    Calls Tryd.prog 24 #[ptv a, .int .i64 L] w fun e w' => e = .returned (.bool (inP L a)) ∧ Below w.heap.size w w' := by
  rw [inP_rng, h0]
  have i0 : ∀ w, (Instr.index 42 (.agg #[.int .i64 a.1, .int .i64 a.2.1, .int .i64 a.2.2]) (.int .i64 0)).run Tryd.prog w = .ok (.int .i64 a.1) w := fun _ => by kernel_rfl
  have i1 : ∀ w, (Instr.index 42 (.agg #[.int .i64 a.1, .int .i64 a.2.1, .int .i64 a.2.2]) (.int .i64 1)).run Tryd.prog w = .ok (.int .i64 a.2.1) w := fun _ => by kernel_rfl
  have i2 : ∀ w, (Instr.index 42 (.agg #[.int .i64 a.1, .int .i64 a.2.1, .int .i64 a.2.2]) (.int .i64 2)).run Tryd.prog w = .ok (.int .i64 a.2.2) w := fun _ => by kernel_rfl
  have W0 := Lib.hid (fun W => (h0 ▸ win_any a.1 L W b1 b2 : Calls Tryd.prog 32 #[.int .i64 a.1, .int .i64 L] W fun e w' => e = .returned (.bool false) ∧ W = w'))
  clear h0
  go_enter Tryd.func24, Tryd.ntmps24
  go_wp2
  refine wp_loop_rounds 4 ?_
  rw [rounds_succ]
  go_wp2_with fail
  refine (W0.out _).mono ?_
  rintro e w' ⟨rfl, rfl⟩
  go_wp2
  go_ret
  exact ⟨by simp [*], by (repeat' (first | exact Below.refl _ _ | refine Below.setCell ?_ (by simp <;> omega) _ | refine balloc ?_ _ | refine Below.drew ?_ | refine bdrewN ?_ _))⟩
theorem vwi_1 (a : P3) (L : Int) (w : World) (b1 : -4611686018427387904 ≤ L) (b2 : L ≤ 4611686018427387904) (h0 : rngB a.1 (-L) L = true) (h1 : rngB a.2.1 (-L) L = false) :
    Calls Tryd.prog 24 #[ptv a, .int .i64 L] w fun e w' => e = .returned (.bool (inP L a)) ∧ Below w.heap.size w w' := by
  rw [inP_rng, h0, h1]
  have i0 : ∀ w, (Instr.index 42 (.agg #[.int .i64 a.1, .int .i64 a.2.1, .int .i64 a.2.2]) (.int .i64 0)).run Tryd.prog w = .ok (.int .i64 a.1) w := fun _ => by kernel_rfl
  have i1 : ∀ w, (Instr.index 42 (.agg #[.int .i64 a.1, .int .i64 a.2.1, .int .i64 a.2.2]) (.int .i64 1)).run Tryd.prog w = .ok (.int .i64 a.2.1) w := fun _ => by kernel_rfl
  have i2 : ∀ w, (Instr.index 42 (.agg #[.int .i64 a.1, .int .i64 a.2.1, .int .i64 a.2.2]) (.int .i64 2)).run Tryd.prog w = .ok (.int .i64 a.2.2) w := fun _ => by kernel_rfl
  have W0 := Lib.hid (fun W => (h0 ▸ win_any a.1 L W b1 b2 : Calls Tryd.prog 32 #[.int .i64 a.1, .int .i64 L] W fun e w' => e = .returned (.bool true) ∧ W = w'))
  have W1 := Lib.hid (fun W => (h1 ▸ win_any a.2.1 L W b1 b2 : Calls Tryd.prog 32 #[.int .i64 a.2.1, .int .i64 L] W fun e w' => e = .returned (.bool false) ∧ W = w'))
  clear h0 h1
  go_enter Tryd.func24, Tryd.ntmps24
  go_wp2
  refine wp_loop_rounds 4 ?_
  rw [rounds_succ]
  go_wp2_with fail
  refine (W0.out _).mono ?_
  rintro e w' ⟨rfl, rfl⟩
  go_wp2
  rw [rounds_succ]
  go_wp2_with fail
  refine (W1.out _).mono ?_
  rintro e w' ⟨rfl, rfl⟩
  go_wp2
  go_ret
  exact ⟨by simp [*], by (repeat' (first | exact Below.refl _ _ | refine Below.setCell ?_ (by simp <;> omega) _ | refine balloc ?_ _ | refine Below.drew ?_ | refine bdrewN ?_ _))⟩
theorem vwi_2 (a : P3) (L : Int) (w : World) (b1 : -4611686018427387904 ≤ L) (b2 : L ≤ 4611686018427387904) (h0 : rngB a.1 (-L) L = true) (h1 : rngB a.2.1 (-L) L = true) (h2 : rngB a.2.2 (-L) L = false) :
    Calls Tryd.prog 24 #[ptv a, .int .i64 L] w fun e w' => e = .returned (.bool (inP L a)) ∧ Below w.heap.size w w' := by
  rw [inP_rng, h0, h1, h2]
  have i0 : ∀ w, (Instr.index 42 (.agg #[.int .i64 a.1, .int .i64 a.2.1, .int .i64 a.2.2]) (.int .i64 0)).run Tryd.prog w = .ok (.int .i64 a.1) w := fun _ => by kernel_rfl
  have i1 : ∀ w, (Instr.index 42 (.agg #[.int .i64 a.1, .int .i64 a.2.1, .int .i64 a.2.2]) (.int .i64 1)).run Tryd.prog w = .ok (.int .i64 a.2.1) w := fun _ => by kernel_rfl
  have i2 : ∀ w, (Instr.index 42 (.agg #[.int .i64 a.1, .int .i64 a.2.1, .int .i64 a.2.2]) (.int .i64 2)).run Tryd.prog w = .ok (.int .i64 a.2.2) w := fun _ => by kernel_rfl
  have W0 := Lib.hid (fun W => (h0 ▸ win_any a.1 L W b1 b2 : Calls Tryd.prog 32 #[.int .i64 a.1, .int .i64 L] W fun e w' => e = .returned (.bool true) ∧ W = w'))
  have W1 := Lib.hid (fun W => (h1 ▸ win_any a.2.1 L W b1 b2 : Calls Tryd.prog 32 #[.int .i64 a.2.1, .int .i64 L] W fun e w' => e = .returned (.bool true) ∧ W = w'))
  have W2 := Lib.hid (fun W => (h2 ▸ win_any a.2.2 L W b1 b2 : Calls Tryd.prog 32 #[.int .i64 a.2.2, .int .i64 L] W fun e w' => e = .returned (.bool false) ∧ W = w'))
  clear h0 h1 h2
  go_enter Tryd.func24, Tryd.ntmps24
  go_wp2
  refine wp_loop_rounds 4 ?_
  rw [rounds_succ]
  go_wp2_with fail
  refine (W0.out _).mono ?_
  rintro e w' ⟨rfl, rfl⟩
  go_wp2
  rw [rounds_succ]
  go_wp2_with fail
  refine (W1.out _).mono ?_
  rintro e w' ⟨rfl, rfl⟩
  go_wp2
  rw [rounds_succ]
  go_wp2_with fail
  refine (W2.out _).mono ?_
  rintro e w' ⟨rfl, rfl⟩
  go_wp2
  go_ret
  exact ⟨by simp [*], by (repeat' (first | exact Below.refl _ _ | refine Below.setCell ?_ (by simp <;> omega) _ | refine balloc ?_ _ | refine Below.drew ?_ | refine bdrewN ?_ _))⟩
theorem vwi_3 (a : P3) (L : Int) (w : World) (b1 : -4611686018427387904 ≤ L) (b2 : L ≤ 4611686018427387904) (h0 : rngB a.1 (-L) L = true) (h1 : rngB a.2.1 (-L) L = true) (h2 : rngB a.2.2 (-L) L = true) :
    Calls Tryd.prog 24 #[ptv a, .int .i64 L] w fun e w' => e = .returned (.bool (inP L a)) ∧ Below w.heap.size w w' := by
  rw [inP_rng, h0, h1, h2]
  have i0 : ∀ w, (Instr.index 42 (.agg #[.int .i64 a.1, .int .i64 a.2.1, .int .i64 a.2.2]) (.int .i64 0)).run Tryd.prog w = .ok (.int .i64 a.1) w := fun _ => by kernel_rfl
  have i1 : ∀ w, (Instr.index 42 (.agg #[.int .i64 a.1, .int .i64 a.2.1, .int .i64 a.2.2]) (.int .i64 1)).run Tryd.prog w = .ok (.int .i64 a.2.1) w := fun _ => by kernel_rfl
  have i2 : ∀ w, (Instr.index 42 (.agg #[.int .i64 a.1, .int .i64 a.2.1, .int .i64 a.2.2]) (.int .i64 2)).run Tryd.prog w = .ok (.int .i64 a.2.2) w := fun _ => by kernel_rfl
  have W0 := Lib.hid (fun W => (h0 ▸ win_any a.1 L W b1 b2 : Calls Tryd.prog 32 #[.int .i64 a.1, .int .i64 L] W fun e w' => e = .returned (.bool true) ∧ W = w'))
  have W1 := Lib.hid (fun W => (h1 ▸ win_any a.2.1 L W b1 b2 : Calls Tryd.prog 32 #[.int .i64 a.2.1, .int .i64 L] W fun e w' => e = .returned (.bool true) ∧ W = w'))
  have W2 := Lib.hid (fun W => (h2 ▸ win_any a.2.2 L W b1 b2 : Calls Tryd.prog 32 #[.int .i64 a.2.2, .int .i64 L] W fun e w' => e = .returned (.bool true) ∧ W = w'))
  clear h0 h1 h2
  go_enter Tryd.func24, Tryd.ntmps24
  go_wp2
  refine wp_loop_rounds 4 ?_
  rw [rounds_succ]
  go_wp2_with fail
  refine (W0.out _).mono ?_
  rintro e w' ⟨rfl, rfl⟩
  go_wp2
  rw [rounds_succ]
  go_wp2_with fail
  refine (W1.out _).mono ?_
  rintro e w' ⟨rfl, rfl⟩
  go_wp2
  rw [rounds_succ]
  go_wp2_with fail
  refine (W2.out _).mono ?_
  rintro e w' ⟨rfl, rfl⟩
  go_wp2
  rw [rounds_succ]
  go_wp2
  go_ret
  exact ⟨by simp [*], by (repeat' (first | exact Below.refl _ _ | refine Below.setCell ?_ (by simp <;> omega) _ | refine balloc ?_ _ | refine Below.drew ?_ | refine bdrewN ?_ _))⟩
theorem vwi_any (a : P3) (L : Int) (w : World) (b1 : -4611686018427387904 ≤ L) (b2 : L ≤ 4611686018427387904) :
    Calls Tryd.prog 24 #[ptv a, .int .i64 L] w fun e w' => e = .returned (.bool (inP L a)) ∧ Below w.heap.size w w' := by
  cases h0 : rngB a.1 (-L) L with
  | false => exact vwi_0 a L w b1 b2 h0
  | true =>
    cases h1 : rngB a.2.1 (-L) L with
    | false => exact vwi_1 a L w b1 b2 h0 h1
    | true =>
      cases h2 : rngB a.2.2 (-L) L with
      | false => exact vwi_2 a L w b1 b2 h0 h1 h2
      | true => exact vwi_3 a L w b1 b2 h0 h1 h2

end Go.Proofs.YtofjnbebipkgkaaDoor
