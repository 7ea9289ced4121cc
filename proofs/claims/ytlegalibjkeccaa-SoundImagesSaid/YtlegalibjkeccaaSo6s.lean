/-
  The contract of the shell around a microphone.
-/
import Derived.Test.YtlegalibjkeccaaSo6
namespace Go.Proofs.Ytlegalibjkeccaa
open Go.ChangeShapes Go.WideShapes Go.RowKit
open Sh
set_option maxHeartbeats 1000000 in
theorem shell_0 (x : P3) (s q I O : Int) (w : World) (b1 : 1 ≤ s) (b2 : s ≤ 128) (b3 : 0 ≤ s * (q - 1)) (b4 : s * (q - 1) ≤ 256000) (b5 : 0 ≤ s * q) (b6 : s * q ≤ 256000) (q1 : 1 ≤ q) (q2 : q ≤ 2000)
    (TM : Hid (∀ W, Calls Try.prog 72 #[.int .i64 1, ptv x] W fun e w' => e = .returned (ptv (tim 1 x)) ∧ Below W.heap.size W w'))
    (Q1 : Hid (∀ W, Calls Try.prog 50 #[.int .i64 (s * (q - 1))] W fun e w' => e = .returned (.int .i64 I) ∧ W = w'))
    (Q2 : Hid (∀ W, Calls Try.prog 50 #[.int .i64 (s * q)] W fun e w' => e = .returned (.int .i64 O) ∧ W = w')) :
    Calls Try.prog 60 #[micv x s 0, .int .i64 q] w fun e w' => e = .returned (shv (tim 1 x) I O 1) ∧ Below w.heap.size w w' := by
  generalize tim 1 x = y at *
  go_enter Try.func60, Try.ntmps60
  go_wp2_with fail
  refine (TM.out _).mono ?_
  rintro e w1 ⟨rfl, hb1⟩
  go_wp2_with fail
  refine (Q1.out _).mono ?_
  rintro e w2 ⟨rfl, rfl⟩
  go_wp2_with fail
  refine (Q2.out _).mono ?_
  rintro e w3 ⟨rfl, rfl⟩
  have HB := Lib.hid hb1
  have z0 := (hb1.cell (p := ⟨w.heap.size + 1, 0, none⟩) (by simp)).trans (show ((w.alloc (micb x s 0 44)).alloc (shb (0, 0, 0) 0 0 0 87)).cell? ⟨w.heap.size + 1, 0, none⟩ = some (.int .i64 0) by go_simp)
  have y0 := (hb1.frozen (p := ⟨w.heap.size + 1, 0, none⟩) (by simp)).trans (show ((w.alloc (micb x s 0 44)).alloc (shb (0, 0, 0) 0 0 0 87)).frozen? ⟨w.heap.size + 1, 0, none⟩ = false by go_simp)
  have z1 := (hb1.cell (p := ⟨w.heap.size + 1, 1, none⟩) (by simp)).trans (show ((w.alloc (micb x s 0 44)).alloc (shb (0, 0, 0) 0 0 0 87)).cell? ⟨w.heap.size + 1, 1, none⟩ = some (.int .i64 0) by go_simp)
  have y1 := (hb1.frozen (p := ⟨w.heap.size + 1, 1, none⟩) (by simp)).trans (show ((w.alloc (micb x s 0 44)).alloc (shb (0, 0, 0) 0 0 0 87)).frozen? ⟨w.heap.size + 1, 1, none⟩ = false by go_simp)
  have z2 := (hb1.cell (p := ⟨w.heap.size + 1, 2, none⟩) (by simp)).trans (show ((w.alloc (micb x s 0 44)).alloc (shb (0, 0, 0) 0 0 0 87)).cell? ⟨w.heap.size + 1, 2, none⟩ = some (.int .i64 0) by go_simp)
  have y2 := (hb1.frozen (p := ⟨w.heap.size + 1, 2, none⟩) (by simp)).trans (show ((w.alloc (micb x s 0 44)).alloc (shb (0, 0, 0) 0 0 0 87)).frozen? ⟨w.heap.size + 1, 2, none⟩ = false by go_simp)
  have z3 := (hb1.cell (p := ⟨w.heap.size + 1, 3, none⟩) (by simp)).trans (show ((w.alloc (micb x s 0 44)).alloc (shb (0, 0, 0) 0 0 0 87)).cell? ⟨w.heap.size + 1, 3, none⟩ = some (.int .i64 0) by go_simp)
  have y3 := (hb1.frozen (p := ⟨w.heap.size + 1, 3, none⟩) (by simp)).trans (show ((w.alloc (micb x s 0 44)).alloc (shb (0, 0, 0) 0 0 0 87)).frozen? ⟨w.heap.size + 1, 3, none⟩ = false by go_simp)
  have z4 := (hb1.cell (p := ⟨w.heap.size + 1, 4, none⟩) (by simp)).trans (show ((w.alloc (micb x s 0 44)).alloc (shb (0, 0, 0) 0 0 0 87)).cell? ⟨w.heap.size + 1, 4, none⟩ = some (.int .i64 0) by go_simp)
  have y4 := (hb1.frozen (p := ⟨w.heap.size + 1, 4, none⟩) (by simp)).trans (show ((w.alloc (micb x s 0 44)).alloc (shb (0, 0, 0) 0 0 0 87)).frozen? ⟨w.heap.size + 1, 4, none⟩ = false by go_simp)
  have z5 := (hb1.cell (p := ⟨w.heap.size + 1, 5, none⟩) (by simp)).trans (show ((w.alloc (micb x s 0 44)).alloc (shb (0, 0, 0) 0 0 0 87)).cell? ⟨w.heap.size + 1, 5, none⟩ = some (.int .i64 0) by go_simp)
  have y5 := (hb1.frozen (p := ⟨w.heap.size + 1, 5, none⟩) (by simp)).trans (show ((w.alloc (micb x s 0 44)).alloc (shb (0, 0, 0) 0 0 0 87)).frozen? ⟨w.heap.size + 1, 5, none⟩ = false by go_simp)
  have ml := Nat.lt_of_lt_of_le (show w.heap.size < ((w.alloc (micb x s 0 44)).alloc (shb (0, 0, 0) 0 0 0 87)).heap.size by simp; omega) hb1.size
  have zl := Nat.lt_of_lt_of_le (show w.heap.size + 1 < ((w.alloc (micb x s 0 44)).alloc (shb (0, 0, 0) 0 0 0 87)).heap.size by simp) hb1.size
  clear hb1 b1 b2 b3 b4 b5 b6 TM Q1 Q2
  go_wp2
  refine bodyPost_ret (v := shv y I O 1) (by rw [results_cell8 rfl]; go_simp) rfl ⟨rfl, ?_⟩
  have hb1 := HB.out
  exact below_put6 ((balloc (balloc (Below.refl _ w) _) _).trans (hb1.mono (by simp; omega))) (by omega)
set_option maxHeartbeats 1000000 in
theorem shell_1 (x : P3) (s q I O : Int) (w : World) (b1 : 1 ≤ 2 * s) (b2 : 2 * s ≤ 128) (b3 : 0 ≤ 2 * s * (q - 1)) (b4 : 2 * s * (q - 1) ≤ 256000) (b5 : 0 ≤ 2 * s * q) (b6 : 2 * s * q ≤ 256000) (q1 : 1 ≤ q) (q2 : q ≤ 2000)
    (TM : Hid (∀ W, Calls Try.prog 72 #[.int .i64 2, ptv x] W fun e w' => e = .returned (ptv (tim 2 x)) ∧ Below W.heap.size W w'))
    (Q1 : Hid (∀ W, Calls Try.prog 50 #[.int .i64 (2 * s * (q - 1))] W fun e w' => e = .returned (.int .i64 I) ∧ W = w'))
    (Q2 : Hid (∀ W, Calls Try.prog 50 #[.int .i64 (2 * s * q)] W fun e w' => e = .returned (.int .i64 O) ∧ W = w')) :
    Calls Try.prog 60 #[micv x s 1, .int .i64 q] w fun e w' => e = .returned (shv (tim 2 x) I O 2) ∧ Below w.heap.size w w' := by
  generalize tim 2 x = y at *
  go_enter Try.func60, Try.ntmps60
  go_wp2_with fail
  refine (TM.out _).mono ?_
  rintro e w1 ⟨rfl, hb1⟩
  go_wp2_with fail
  refine (Q1.out _).mono ?_
  rintro e w2 ⟨rfl, rfl⟩
  go_wp2_with fail
  refine (Q2.out _).mono ?_
  rintro e w3 ⟨rfl, rfl⟩
  have HB := Lib.hid hb1
  have z0 := (hb1.cell (p := ⟨w.heap.size + 1, 0, none⟩) (by simp)).trans (show ((w.alloc (micb x s 1 44)).alloc (shb (0, 0, 0) 0 0 0 87)).cell? ⟨w.heap.size + 1, 0, none⟩ = some (.int .i64 0) by go_simp)
  have y0 := (hb1.frozen (p := ⟨w.heap.size + 1, 0, none⟩) (by simp)).trans (show ((w.alloc (micb x s 1 44)).alloc (shb (0, 0, 0) 0 0 0 87)).frozen? ⟨w.heap.size + 1, 0, none⟩ = false by go_simp)
  have z1 := (hb1.cell (p := ⟨w.heap.size + 1, 1, none⟩) (by simp)).trans (show ((w.alloc (micb x s 1 44)).alloc (shb (0, 0, 0) 0 0 0 87)).cell? ⟨w.heap.size + 1, 1, none⟩ = some (.int .i64 0) by go_simp)
  have y1 := (hb1.frozen (p := ⟨w.heap.size + 1, 1, none⟩) (by simp)).trans (show ((w.alloc (micb x s 1 44)).alloc (shb (0, 0, 0) 0 0 0 87)).frozen? ⟨w.heap.size + 1, 1, none⟩ = false by go_simp)
  have z2 := (hb1.cell (p := ⟨w.heap.size + 1, 2, none⟩) (by simp)).trans (show ((w.alloc (micb x s 1 44)).alloc (shb (0, 0, 0) 0 0 0 87)).cell? ⟨w.heap.size + 1, 2, none⟩ = some (.int .i64 0) by go_simp)
  have y2 := (hb1.frozen (p := ⟨w.heap.size + 1, 2, none⟩) (by simp)).trans (show ((w.alloc (micb x s 1 44)).alloc (shb (0, 0, 0) 0 0 0 87)).frozen? ⟨w.heap.size + 1, 2, none⟩ = false by go_simp)
  have z3 := (hb1.cell (p := ⟨w.heap.size + 1, 3, none⟩) (by simp)).trans (show ((w.alloc (micb x s 1 44)).alloc (shb (0, 0, 0) 0 0 0 87)).cell? ⟨w.heap.size + 1, 3, none⟩ = some (.int .i64 0) by go_simp)
  have y3 := (hb1.frozen (p := ⟨w.heap.size + 1, 3, none⟩) (by simp)).trans (show ((w.alloc (micb x s 1 44)).alloc (shb (0, 0, 0) 0 0 0 87)).frozen? ⟨w.heap.size + 1, 3, none⟩ = false by go_simp)
  have z4 := (hb1.cell (p := ⟨w.heap.size + 1, 4, none⟩) (by simp)).trans (show ((w.alloc (micb x s 1 44)).alloc (shb (0, 0, 0) 0 0 0 87)).cell? ⟨w.heap.size + 1, 4, none⟩ = some (.int .i64 0) by go_simp)
  have y4 := (hb1.frozen (p := ⟨w.heap.size + 1, 4, none⟩) (by simp)).trans (show ((w.alloc (micb x s 1 44)).alloc (shb (0, 0, 0) 0 0 0 87)).frozen? ⟨w.heap.size + 1, 4, none⟩ = false by go_simp)
  have z5 := (hb1.cell (p := ⟨w.heap.size + 1, 5, none⟩) (by simp)).trans (show ((w.alloc (micb x s 1 44)).alloc (shb (0, 0, 0) 0 0 0 87)).cell? ⟨w.heap.size + 1, 5, none⟩ = some (.int .i64 0) by go_simp)
  have y5 := (hb1.frozen (p := ⟨w.heap.size + 1, 5, none⟩) (by simp)).trans (show ((w.alloc (micb x s 1 44)).alloc (shb (0, 0, 0) 0 0 0 87)).frozen? ⟨w.heap.size + 1, 5, none⟩ = false by go_simp)
  have ml := Nat.lt_of_lt_of_le (show w.heap.size < ((w.alloc (micb x s 1 44)).alloc (shb (0, 0, 0) 0 0 0 87)).heap.size by simp; omega) hb1.size
  have zl := Nat.lt_of_lt_of_le (show w.heap.size + 1 < ((w.alloc (micb x s 1 44)).alloc (shb (0, 0, 0) 0 0 0 87)).heap.size by simp) hb1.size
  clear hb1 b1 b2 b3 b4 b5 b6 TM Q1 Q2
  go_wp2
  refine bodyPost_ret (v := shv y I O 2) (by rw [results_cell8 rfl]; go_simp) rfl ⟨rfl, ?_⟩
  have hb1 := HB.out
  exact below_put6 ((balloc (balloc (Below.refl _ w) _) _).trans (hb1.mono (by simp; omega))) (by omega)
set_option maxHeartbeats 1000000 in
theorem shell_2 (x : P3) (s q I O : Int) (w : World) (b1 : 1 ≤ 4 * s) (b2 : 4 * s ≤ 128) (b3 : 0 ≤ 4 * s * (q - 1)) (b4 : 4 * s * (q - 1) ≤ 256000) (b5 : 0 ≤ 4 * s * q) (b6 : 4 * s * q ≤ 256000) (q1 : 1 ≤ q) (q2 : q ≤ 2000)
    (TM : Hid (∀ W, Calls Try.prog 72 #[.int .i64 4, ptv x] W fun e w' => e = .returned (ptv (tim 4 x)) ∧ Below W.heap.size W w'))
    (Q1 : Hid (∀ W, Calls Try.prog 50 #[.int .i64 (4 * s * (q - 1))] W fun e w' => e = .returned (.int .i64 I) ∧ W = w'))
    (Q2 : Hid (∀ W, Calls Try.prog 50 #[.int .i64 (4 * s * q)] W fun e w' => e = .returned (.int .i64 O) ∧ W = w')) :
    Calls Try.prog 60 #[micv x s 2, .int .i64 q] w fun e w' => e = .returned (shv (tim 4 x) I O 4) ∧ Below w.heap.size w w' := by
  generalize tim 4 x = y at *
  go_enter Try.func60, Try.ntmps60
  go_wp2_with fail
  refine (TM.out _).mono ?_
  rintro e w1 ⟨rfl, hb1⟩
  go_wp2_with fail
  refine (Q1.out _).mono ?_
  rintro e w2 ⟨rfl, rfl⟩
  go_wp2_with fail
  refine (Q2.out _).mono ?_
  rintro e w3 ⟨rfl, rfl⟩
  have HB := Lib.hid hb1
  have z0 := (hb1.cell (p := ⟨w.heap.size + 1, 0, none⟩) (by simp)).trans (show ((w.alloc (micb x s 2 44)).alloc (shb (0, 0, 0) 0 0 0 87)).cell? ⟨w.heap.size + 1, 0, none⟩ = some (.int .i64 0) by go_simp)
  have y0 := (hb1.frozen (p := ⟨w.heap.size + 1, 0, none⟩) (by simp)).trans (show ((w.alloc (micb x s 2 44)).alloc (shb (0, 0, 0) 0 0 0 87)).frozen? ⟨w.heap.size + 1, 0, none⟩ = false by go_simp)
  have z1 := (hb1.cell (p := ⟨w.heap.size + 1, 1, none⟩) (by simp)).trans (show ((w.alloc (micb x s 2 44)).alloc (shb (0, 0, 0) 0 0 0 87)).cell? ⟨w.heap.size + 1, 1, none⟩ = some (.int .i64 0) by go_simp)
  have y1 := (hb1.frozen (p := ⟨w.heap.size + 1, 1, none⟩) (by simp)).trans (show ((w.alloc (micb x s 2 44)).alloc (shb (0, 0, 0) 0 0 0 87)).frozen? ⟨w.heap.size + 1, 1, none⟩ = false by go_simp)
  have z2 := (hb1.cell (p := ⟨w.heap.size + 1, 2, none⟩) (by simp)).trans (show ((w.alloc (micb x s 2 44)).alloc (shb (0, 0, 0) 0 0 0 87)).cell? ⟨w.heap.size + 1, 2, none⟩ = some (.int .i64 0) by go_simp)
  have y2 := (hb1.frozen (p := ⟨w.heap.size + 1, 2, none⟩) (by simp)).trans (show ((w.alloc (micb x s 2 44)).alloc (shb (0, 0, 0) 0 0 0 87)).frozen? ⟨w.heap.size + 1, 2, none⟩ = false by go_simp)
  have z3 := (hb1.cell (p := ⟨w.heap.size + 1, 3, none⟩) (by simp)).trans (show ((w.alloc (micb x s 2 44)).alloc (shb (0, 0, 0) 0 0 0 87)).cell? ⟨w.heap.size + 1, 3, none⟩ = some (.int .i64 0) by go_simp)
  have y3 := (hb1.frozen (p := ⟨w.heap.size + 1, 3, none⟩) (by simp)).trans (show ((w.alloc (micb x s 2 44)).alloc (shb (0, 0, 0) 0 0 0 87)).frozen? ⟨w.heap.size + 1, 3, none⟩ = false by go_simp)
  have z4 := (hb1.cell (p := ⟨w.heap.size + 1, 4, none⟩) (by simp)).trans (show ((w.alloc (micb x s 2 44)).alloc (shb (0, 0, 0) 0 0 0 87)).cell? ⟨w.heap.size + 1, 4, none⟩ = some (.int .i64 0) by go_simp)
  have y4 := (hb1.frozen (p := ⟨w.heap.size + 1, 4, none⟩) (by simp)).trans (show ((w.alloc (micb x s 2 44)).alloc (shb (0, 0, 0) 0 0 0 87)).frozen? ⟨w.heap.size + 1, 4, none⟩ = false by go_simp)
  have z5 := (hb1.cell (p := ⟨w.heap.size + 1, 5, none⟩) (by simp)).trans (show ((w.alloc (micb x s 2 44)).alloc (shb (0, 0, 0) 0 0 0 87)).cell? ⟨w.heap.size + 1, 5, none⟩ = some (.int .i64 0) by go_simp)
  have y5 := (hb1.frozen (p := ⟨w.heap.size + 1, 5, none⟩) (by simp)).trans (show ((w.alloc (micb x s 2 44)).alloc (shb (0, 0, 0) 0 0 0 87)).frozen? ⟨w.heap.size + 1, 5, none⟩ = false by go_simp)
  have ml := Nat.lt_of_lt_of_le (show w.heap.size < ((w.alloc (micb x s 2 44)).alloc (shb (0, 0, 0) 0 0 0 87)).heap.size by simp; omega) hb1.size
  have zl := Nat.lt_of_lt_of_le (show w.heap.size + 1 < ((w.alloc (micb x s 2 44)).alloc (shb (0, 0, 0) 0 0 0 87)).heap.size by simp) hb1.size
  clear hb1 b1 b2 b3 b4 b5 b6 TM Q1 Q2
  go_wp2
  refine bodyPost_ret (v := shv y I O 4) (by rw [results_cell8 rfl]; go_simp) rfl ⟨rfl, ?_⟩
  have hb1 := HB.out
  exact below_put6 ((balloc (balloc (Below.refl _ w) _) _).trans (hb1.mono (by simp; omega))) (by omega)
set_option maxHeartbeats 1000000 in
theorem shell_3 (x : P3) (s q I O : Int) (w : World) (b1 : 1 ≤ 8 * s) (b2 : 8 * s ≤ 128) (b3 : 0 ≤ 8 * s * (q - 1)) (b4 : 8 * s * (q - 1) ≤ 256000) (b5 : 0 ≤ 8 * s * q) (b6 : 8 * s * q ≤ 256000) (q1 : 1 ≤ q) (q2 : q ≤ 2000)
    (TM : Hid (∀ W, Calls Try.prog 72 #[.int .i64 8, ptv x] W fun e w' => e = .returned (ptv (tim 8 x)) ∧ Below W.heap.size W w'))
    (Q1 : Hid (∀ W, Calls Try.prog 50 #[.int .i64 (8 * s * (q - 1))] W fun e w' => e = .returned (.int .i64 I) ∧ W = w'))
    (Q2 : Hid (∀ W, Calls Try.prog 50 #[.int .i64 (8 * s * q)] W fun e w' => e = .returned (.int .i64 O) ∧ W = w')) :
    Calls Try.prog 60 #[micv x s 3, .int .i64 q] w fun e w' => e = .returned (shv (tim 8 x) I O 8) ∧ Below w.heap.size w w' := by
  generalize tim 8 x = y at *
  go_enter Try.func60, Try.ntmps60
  go_wp2_with fail
  refine (TM.out _).mono ?_
  rintro e w1 ⟨rfl, hb1⟩
  go_wp2_with fail
  refine (Q1.out _).mono ?_
  rintro e w2 ⟨rfl, rfl⟩
  go_wp2_with fail
  refine (Q2.out _).mono ?_
  rintro e w3 ⟨rfl, rfl⟩
  have HB := Lib.hid hb1
  have z0 := (hb1.cell (p := ⟨w.heap.size + 1, 0, none⟩) (by simp)).trans (show ((w.alloc (micb x s 3 44)).alloc (shb (0, 0, 0) 0 0 0 87)).cell? ⟨w.heap.size + 1, 0, none⟩ = some (.int .i64 0) by go_simp)
  have y0 := (hb1.frozen (p := ⟨w.heap.size + 1, 0, none⟩) (by simp)).trans (show ((w.alloc (micb x s 3 44)).alloc (shb (0, 0, 0) 0 0 0 87)).frozen? ⟨w.heap.size + 1, 0, none⟩ = false by go_simp)
  have z1 := (hb1.cell (p := ⟨w.heap.size + 1, 1, none⟩) (by simp)).trans (show ((w.alloc (micb x s 3 44)).alloc (shb (0, 0, 0) 0 0 0 87)).cell? ⟨w.heap.size + 1, 1, none⟩ = some (.int .i64 0) by go_simp)
  have y1 := (hb1.frozen (p := ⟨w.heap.size + 1, 1, none⟩) (by simp)).trans (show ((w.alloc (micb x s 3 44)).alloc (shb (0, 0, 0) 0 0 0 87)).frozen? ⟨w.heap.size + 1, 1, none⟩ = false by go_simp)
  have z2 := (hb1.cell (p := ⟨w.heap.size + 1, 2, none⟩) (by simp)).trans (show ((w.alloc (micb x s 3 44)).alloc (shb (0, 0, 0) 0 0 0 87)).cell? ⟨w.heap.size + 1, 2, none⟩ = some (.int .i64 0) by go_simp)
  have y2 := (hb1.frozen (p := ⟨w.heap.size + 1, 2, none⟩) (by simp)).trans (show ((w.alloc (micb x s 3 44)).alloc (shb (0, 0, 0) 0 0 0 87)).frozen? ⟨w.heap.size + 1, 2, none⟩ = false by go_simp)
  have z3 := (hb1.cell (p := ⟨w.heap.size + 1, 3, none⟩) (by simp)).trans (show ((w.alloc (micb x s 3 44)).alloc (shb (0, 0, 0) 0 0 0 87)).cell? ⟨w.heap.size + 1, 3, none⟩ = some (.int .i64 0) by go_simp)
  have y3 := (hb1.frozen (p := ⟨w.heap.size + 1, 3, none⟩) (by simp)).trans (show ((w.alloc (micb x s 3 44)).alloc (shb (0, 0, 0) 0 0 0 87)).frozen? ⟨w.heap.size + 1, 3, none⟩ = false by go_simp)
  have z4 := (hb1.cell (p := ⟨w.heap.size + 1, 4, none⟩) (by simp)).trans (show ((w.alloc (micb x s 3 44)).alloc (shb (0, 0, 0) 0 0 0 87)).cell? ⟨w.heap.size + 1, 4, none⟩ = some (.int .i64 0) by go_simp)
  have y4 := (hb1.frozen (p := ⟨w.heap.size + 1, 4, none⟩) (by simp)).trans (show ((w.alloc (micb x s 3 44)).alloc (shb (0, 0, 0) 0 0 0 87)).frozen? ⟨w.heap.size + 1, 4, none⟩ = false by go_simp)
  have z5 := (hb1.cell (p := ⟨w.heap.size + 1, 5, none⟩) (by simp)).trans (show ((w.alloc (micb x s 3 44)).alloc (shb (0, 0, 0) 0 0 0 87)).cell? ⟨w.heap.size + 1, 5, none⟩ = some (.int .i64 0) by go_simp)
  have y5 := (hb1.frozen (p := ⟨w.heap.size + 1, 5, none⟩) (by simp)).trans (show ((w.alloc (micb x s 3 44)).alloc (shb (0, 0, 0) 0 0 0 87)).frozen? ⟨w.heap.size + 1, 5, none⟩ = false by go_simp)
  have ml := Nat.lt_of_lt_of_le (show w.heap.size < ((w.alloc (micb x s 3 44)).alloc (shb (0, 0, 0) 0 0 0 87)).heap.size by simp; omega) hb1.size
  have zl := Nat.lt_of_lt_of_le (show w.heap.size + 1 < ((w.alloc (micb x s 3 44)).alloc (shb (0, 0, 0) 0 0 0 87)).heap.size by simp) hb1.size
  clear hb1 b1 b2 b3 b4 b5 b6 TM Q1 Q2
  go_wp2
  refine bodyPost_ret (v := shv y I O 8) (by rw [results_cell8 rfl]; go_simp) rfl ⟨rfl, ?_⟩
  have hb1 := HB.out
  exact below_put6 ((balloc (balloc (Below.refl _ w) _) _).trans (hb1.mono (by simp; omega))) (by omega)
theorem shell_any (x : P3) (s d q : Int) (w : World) (hx : BdP 256 x) (s1 : 1 ≤ s) (s2 : s ≤ 16) (d1 : 0 ≤ d) (d2 : d ≤ 3) (q1 : 1 ≤ q) (q2 : q ≤ 2000) :
    Calls Try.prog 60 #[micv x s d, .int .i64 q] w fun e w' => e = .returned (shv (tim (scl d) x) (inn s d q) (out8 s d q) (scl d)) ∧ Below w.heap.size w w' := by
  have : d = 0 ∨ d = 1 ∨ d = 2 ∨ d = 3 := by omega
  rcases this with rfl | rfl | rfl | rfl
  · have TM := Lib.hid (fun W => stm_any 1 x W ((tim_bd (K := 8) (by decide) (by decide) hx).mono (by decide)))
    have bb := sh_bd (K := 1) (by decide) (by decide) s1 s2 q1 q2
    rw [Int.one_mul] at bb
    rw [show inn s 0 q = s * (q - 1) * (s * (q - 1)) by show 1 * s * (q - 1) * (1 * s * (q - 1)) = _; rw [Int.one_mul], show out8 s 0 q = s * q * (s * q) by show 1 * s * q * (1 * s * q) = _; rw [Int.one_mul]]
    exact shell_0 x s q _ _ w bb.1.1 bb.1.2 bb.2.1.1 bb.2.1.2 bb.2.2.1.1 bb.2.2.1.2 q1 q2 TM (Lib.hid (fun W => sqr_any (s * (q - 1)) W ⟨by omega, by omega⟩)) (Lib.hid (fun W => sqr_any (s * q) W ⟨by omega, by omega⟩))
  · have TM := Lib.hid (fun W => stm_any 2 x W ((tim_bd (K := 8) (by decide) (by decide) hx).mono (by decide)))
    have bb := sh_bd (K := 2) (by decide) (by decide) s1 s2 q1 q2
    exact shell_1 x s q _ _ w bb.1.1 bb.1.2 bb.2.1.1 bb.2.1.2 bb.2.2.1.1 bb.2.2.1.2 q1 q2 TM (Lib.hid (fun W => sqr_any (2 * s * (q - 1)) W ⟨by omega, by omega⟩)) (Lib.hid (fun W => sqr_any (2 * s * q) W ⟨by omega, by omega⟩))
  · have TM := Lib.hid (fun W => stm_any 4 x W ((tim_bd (K := 8) (by decide) (by decide) hx).mono (by decide)))
    have bb := sh_bd (K := 4) (by decide) (by decide) s1 s2 q1 q2
    exact shell_2 x s q _ _ w bb.1.1 bb.1.2 bb.2.1.1 bb.2.1.2 bb.2.2.1.1 bb.2.2.1.2 q1 q2 TM (Lib.hid (fun W => sqr_any (4 * s * (q - 1)) W ⟨by omega, by omega⟩)) (Lib.hid (fun W => sqr_any (4 * s * q) W ⟨by omega, by omega⟩))
  · have TM := Lib.hid (fun W => stm_any 8 x W ((tim_bd (K := 8) (by decide) (by decide) hx).mono (by decide)))
    have bb := sh_bd (K := 8) (by decide) (by decide) s1 s2 q1 q2
    exact shell_3 x s q _ _ w bb.1.1 bb.1.2 bb.2.1.1 bb.2.1.2 bb.2.2.1.1 bb.2.2.1.2 q1 q2 TM (Lib.hid (fun W => sqr_any (8 * s * (q - 1)) W ⟨by omega, by omega⟩)) (Lib.hid (fun W => sqr_any (8 * s * q) W ⟨by omega, by omega⟩))

end Go.Proofs.Ytlegalibjkeccaa
