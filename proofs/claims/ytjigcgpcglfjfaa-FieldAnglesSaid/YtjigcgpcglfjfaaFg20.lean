/-
  The document's half of two points whose sum is even.
-/
import Derived.Test.YtjigcgpcglfjfaaFg18
namespace Go.Proofs.Ytjigcgpcglfjfaa
open Go.ChangeShapes Go.WideShapes Go.RowKit
open Sh
theorem half_num (x y : Int) : (2 * x + 2 * y).tdiv 2 = x + y := by
  rw [← Int.mul_add, Int.mul_tdiv_cancel_left _ (by decide)]
theorem rhalf_any (u v : P3) (w : World) (h : BdP 1000000 u) (k : BdP 1000000 v) : Calls Try.prog 103 #[ptv (tim 2 u), ptv (tim 2 v)] w fun e w' => e = .returned (ptv (add u v)) ∧ Below w.heap.size w w' := by
  have e1 := half_num u.1 v.1
  have e2 := half_num u.2.1 v.2.1
  have e3 := half_num u.2.2 v.2.2
  simp only [BdP] at h k
  obtain ⟨h1, h2, h3, h4, h5, h6⟩ := h
  obtain ⟨k1, k2, k3, k4, k5, k6⟩ := k
  simp only [tim, add]
  go_enter Try.func103, Try.ntmps103
  go_wp2
  refine bodyPost_ret (v := .agg #[.int .i64 (u.1 + v.1), .int .i64 (u.2.1 + v.2.1), .int .i64 (u.2.2 + v.2.2)]) (by rw [results_cell rfl]; go_simp) rfl ⟨rfl, ?_⟩
  (repeat' (first | exact Below.refl _ _ | refine Below.setCell ?_ (by simp <;> omega) _ | refine balloc ?_ _ | refine Below.drew ?_ | refine bdrewN ?_ _))

end Go.Proofs.Ytjigcgpcglfjfaa
