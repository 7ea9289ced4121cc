/-
  The contracts of the document's sums of six numbers and products of a vector with itself.
-/
import Derived.Test.YtofjnbebipkgkaaDoorMoAd
namespace Go.Proofs.YtofjnbebipkgkaaDoor
open Go.ChangeShapes Go.WideShapes Go.RowKit
open Sh
/-- six numbers -/
abbrev P6 := Int × Int × Int × Int × Int × Int
abbrev sv (x : P6) : Value := .agg #[.int .i64 x.1, .int .i64 x.2.1, .int .i64 x.2.2.1, .int .i64 x.2.2.2.1, .int .i64 x.2.2.2.2.1, .int .i64 x.2.2.2.2.2]
def Bd6 (B : Int) (x : P6) : Prop := (-B ≤ x.1 ∧ x.1 ≤ B) ∧ (-B ≤ x.2.1 ∧ x.2.1 ≤ B) ∧ (-B ≤ x.2.2.1 ∧ x.2.2.1 ≤ B) ∧ (-B ≤ x.2.2.2.1 ∧ x.2.2.2.1 ≤ B) ∧ (-B ≤ x.2.2.2.2.1 ∧ x.2.2.2.2.1 ≤ B) ∧ (-B ≤ x.2.2.2.2.2 ∧ x.2.2.2.2.2 ≤ B)
def add6 (x y : P6) : P6 := (x.1 + y.1, x.2.1 + y.2.1, x.2.2.1 + y.2.2.1, x.2.2.2.1 + y.2.2.2.1, x.2.2.2.2.1 + y.2.2.2.2.1, x.2.2.2.2.2 + y.2.2.2.2.2)
theorem Bd6.mono {A B : Int} {x : P6} (h : Bd6 A x) (k : A ≤ B) : Bd6 B x := by unfold Bd6 at *; omega
theorem add6_bd {A B : Int} {x y : P6} (h : Bd6 A x) (k : Bd6 B y) : Bd6 (A + B) (add6 x y) := by unfold Bd6 add6 at *; dsimp only; omega
def pr6 (k : Int) (v : P3) : P6 := (k * v.1 * v.1, k * v.1 * v.2.1, k * v.1 * v.2.2, k * v.2.1 * v.2.1, k * v.2.1 * v.2.2, k * v.2.2 * v.2.2)
theorem mul3_bd {x y z : Int} (h1 : -100 ≤ x) (h2 : x ≤ 100) (h3 : -384 ≤ y) (h4 : y ≤ 384) (h5 : -384 ≤ z) (h6 : z ≤ 384) : (-38400 ≤ x * y ∧ x * y ≤ 38400) ∧ (-14745600 ≤ x * y * z ∧ x * y * z ≤ 14745600) := by
  have a := mul_bd (A := 100) (B := 384) h1 h2 h3 h4
  exact ⟨a, mul_bd (A := 38400) (B := 384) a.1 a.2 h5 h6⟩
theorem pr6_bd {k : Int} {v : P3} (h1 : -100 ≤ k) (h2 : k ≤ 100) (h : BdP 384 v) : Bd6 14745600 (pr6 k v) := by
  obtain ⟨a1, a2, b1, b2, c1, c2⟩ := h
  exact ⟨(mul3_bd h1 h2 a1 a2 a1 a2).2, (mul3_bd h1 h2 a1 a2 b1 b2).2, (mul3_bd h1 h2 a1 a2 c1 c2).2, (mul3_bd h1 h2 b1 b2 b1 b2).2, (mul3_bd h1 h2 b1 b2 c1 c2).2, (mul3_bd h1 h2 c1 c2 c1 c2).2⟩
set_option maxHeartbeats 1000000 in
theorem plus6_any (x y : P6) (w : World) (h : Bd6 4611686018427387904 (add6 x y)) :
    Calls Tryd.prog 17 #[sv x, sv y] w fun e w' => e = .returned (sv (add6 x y)) ∧ Below w.heap.size w w' := by
  simp only [Bd6, add6] at h
  obtain ⟨⟨h1, h2⟩, ⟨h3, h4⟩, ⟨h5, h6⟩, ⟨h7, h8⟩, ⟨h9, h10⟩, ⟨h11, h12⟩⟩ := h
  go_enter Tryd.func17, Tryd.ntmps17
  go_wp2
  refine wp_loop_rounds 7 ?_
  rw [rounds_succ]
  go_wp2
  go_region
  go_wp2
  rw [rounds_succ]
  go_wp2
  go_region
  go_wp2
  rw [rounds_succ]
  go_wp2
  go_region
  go_wp2
  rw [rounds_succ]
  go_wp2
  go_region
  go_wp2
  rw [rounds_succ]
  go_wp2
  go_region
  go_wp2
  rw [rounds_succ]
  go_wp2
  go_region
  go_wp2
  rw [rounds_succ]
  go_wp2
  refine bodyPost_ret (v := sv (add6 x y)) (by rw [results_cell rfl]; go_simp; exact ⟨rfl, rfl, rfl, rfl, rfl, rfl⟩) rfl ⟨rfl, ?_⟩
  (repeat first | with_reducible refine below_set1 ?_ (by simp) | with_reducible refine Below.drew ?_ | with_reducible refine balloc ?_ _)
  exact Below.refl _ _
set_option maxHeartbeats 1000000 in
theorem prods_any (v : P3) (k : Int) (w : World) (h1 : -100 ≤ k) (h2 : k ≤ 100) (h : BdP 384 v) :
    Calls Tryd.prog 18 #[ptv v, .int .i64 k] w fun e w' => e = .returned (sv (pr6 k v)) ∧ Below w.heap.size w w' := by
  obtain ⟨a1, a2, b1, b2, c1, c2⟩ := h
  obtain ⟨⟨x1, x2⟩, x3, x4⟩ := mul3_bd h1 h2 a1 a2 a1 a2
  obtain ⟨_, x5, x6⟩ := mul3_bd h1 h2 a1 a2 b1 b2
  obtain ⟨_, x7, x8⟩ := mul3_bd h1 h2 a1 a2 c1 c2
  obtain ⟨⟨y1, y2⟩, y3, y4⟩ := mul3_bd h1 h2 b1 b2 b1 b2
  obtain ⟨_, y5, y6⟩ := mul3_bd h1 h2 b1 b2 c1 c2
  obtain ⟨⟨z1, z2⟩, z3, z4⟩ := mul3_bd h1 h2 c1 c2 c1 c2
  clear a1 a2 b1 b2 c1 c2 h1 h2
  go_enter Tryd.func18, Tryd.ntmps18
  go_wp2
  refine bodyPost_ret (v := sv (pr6 k v)) (by rw [results_cell rfl]; go_simp; exact ⟨rfl, rfl, rfl, rfl, rfl, rfl⟩) rfl ⟨rfl, ?_⟩
  (repeat first | with_reducible refine below_set1 ?_ (by simp) | with_reducible refine Below.drew ?_ | with_reducible refine balloc ?_ _)
  exact Below.refl _ _

end Go.Proofs.YtofjnbebipkgkaaDoor
