/-
  The contracts of sizes, Scale and Part in the program, and of product, Scale and Part in the document's answer.
-/
import Derived.Test.YthmlhpjhoolflaaMulRef
import Derived.StillTailTactics
namespace Go.Proofs.Ythmlhpjhoolflaa
open Go.ChangeShapes Go.WideShapes Go.RowKit
attribute [local go_sem 1000000] run_min_mn run_max_mx
theorem run_max3 (P : Program) (w : World) (ts : Array TypeId) (t : TypeId) (x y z : Int) : (Builtin.max_ ts t #[.int .i64 x, .int .i64 y, .int .i64 z]).run P w = .ok (.int .i64 (Sp.mx (Sp.mx x y) z)) w := by
  unfold Sp.mx; simp [Builtin.max_, Builtin.max2]
attribute [local go_sem high] run_max3
/-- the product, or a number beyond the greatest fixed point number -/
def prodR (n m : Int) : Int := if -1099511627776 ≤ n * m ∧ n * m ≤ 1099511627776 then n * m else if (n < 0 ∧ 0 ≤ m ∨ 0 ≤ n ∧ m < 0) then -1099511627777 else 1099511627777
set_option maxRecDepth 100000 in
theorem sizes_any (lo hi : Int) (w : World) (h1 : -1099511627776 ≤ lo) (h2 : lo ≤ 1099511627776) (h3 : -1099511627776 ≤ hi) (h4 : hi ≤ 1099511627776) :
    Calls Try.prog 68 #[spv lo hi] w fun e w' => e = .returned (.tuple #[.int .i64 (Sp.mx (Sp.mx 0 lo) (-hi)), .int .i64 (Sp.mx (-lo) hi)]) ∧ Below w.heap.size w w' := by
  have V0 : IntKind.i64.wrap (-lo) = -lo := IntWalk.i64_in _ (by omega)
  have V1 : IntKind.i64.wrap (-hi) = -hi := IntWalk.i64_in _ (by omega)
  go_enter Try.func68, Try.ntmps68
  go_wp2
  go_quiet (fail)
  go_wp2
  go_ret2
  exact ⟨rfl, by (repeat' (first | exact Below.refl _ _ | refine Below.setCell ?_ (by simp <;> omega) _ | refine balloc ?_ _ | refine Below.drew ?_ | refine bdrewN ?_ _))⟩
theorem prod_in0 (a b : Int) (x y : Nat) (w : World) (ex : Hid (a.natAbs = x)) (ey : Hid (b.natAbs = y)) (hx : x ≤ 1099511627776) (hy : y ≤ 1099511627776) (hp : (x : Int) * (y : Int) ≤ 1099511627776)  (t : decide (a < 0) = false) (u : decide (b < 0) = false) :
    Calls Try.prog 71 #[.int .i64 a, .int .i64 b] w fun e w' => e = .returned (.int .i64 ((x : Int) * (y : Int))) ∧ w = w' := by
  have h0 := prod0 x y
  have hX := Lib.hid hx
  have hY := Lib.hid hy
  clear hx hy
  go_enter Try.func71, Try.ntmps71
  go_wp2_with fail
  refine (size_any _ _ _ ex.out hX.out).mono ?_
  rintro e w1 ⟨rfl, rfl⟩
  go_wp2_with fail
  refine (size_any _ _ _ ey.out hY.out).mono ?_
  rintro e w1 ⟨rfl, rfl⟩
  go_wp2_with fail
  refine (Try.bits_Mul64 _ _ (Nat.lt_of_le_of_lt hX.out (by decide)) (Nat.lt_of_le_of_lt hY.out (by decide)) _).mono ?_
  rintro e w1 ⟨rfl, rfl⟩
  go_wp2
  go_ret
  exact ⟨ret_int (by first | rfl | omega), rfl⟩
theorem prod_mid0 (a b : Int) (x y : Nat) (w : World) (ex : Hid (a.natAbs = x)) (ey : Hid (b.natAbs = y)) (hx : x ≤ 1099511627776) (hy : y ≤ 1099511627776) (hp : 1099511627776 < (x : Int) * (y : Int)) (hq : x * y < 18446744073709551616)  (t : decide (a < 0) = false) (u : decide (b < 0) = false) :
    Calls Try.prog 71 #[.int .i64 a, .int .i64 b] w fun e w' => e = .returned (.int .i64 (1099511627777)) ∧ w = w' := by
  have h0 := prod0 x y
  have hX := Lib.hid hx
  have hY := Lib.hid hy
  clear hx hy
  have C : Hid (∀ w : World, Calls Try.prog 79 #[.int .u64 (x : Int), .int .u64 (y : Int)] w fun e w' => e = .returned (.tuple #[.int .u64 0, .int .u64 ((x : Int) * (y : Int))]) ∧ w' = w) := by
    intro w
    have T := Try.bits_Mul64 _ _ (Nat.lt_of_le_of_lt hX.out (by decide)) (Nat.lt_of_le_of_lt hY.out (by decide)) w
    rw [Nat.div_eq_of_lt hq, Nat.mod_eq_of_lt hq, Int.natCast_mul] at T
    exact T
  clear hq
  go_enter Try.func71, Try.ntmps71
  go_wp2_with fail
  refine (size_any _ _ _ ex.out hX.out).mono ?_
  rintro e w1 ⟨rfl, rfl⟩
  go_wp2_with fail
  refine (size_any _ _ _ ey.out hY.out).mono ?_
  rintro e w1 ⟨rfl, rfl⟩
  go_wp2_with fail
  refine (C.out _).mono ?_
  rintro e w1 ⟨rfl, rfl⟩
  go_wp2
  go_ret
  exact ⟨ret_int (by first | rfl | omega), rfl⟩
theorem prod_big0 (a b : Int) (x y : Nat) (w : World) (ex : Hid (a.natAbs = x)) (ey : Hid (b.natAbs = y)) (hx : x ≤ 1099511627776) (hy : y ≤ 1099511627776) (hp : 18446744073709551616 ≤ x * y)  (t : decide (a < 0) = false) (u : decide (b < 0) = false) :
    Calls Try.prog 71 #[.int .i64 a, .int .i64 b] w fun e w' => e = .returned (.int .i64 (1099511627777)) ∧ w = w' := by
  have h0 := prod0 x y
  have hX := Lib.hid hx
  have hY := Lib.hid hy
  clear hx hy
  have C0 : ∃ h l : Nat, 1 ≤ h ∧ ∀ w : World, Calls Try.prog 79 #[.int .u64 (x : Int), .int .u64 (y : Int)] w fun e w' => e = .returned (.tuple #[.int .u64 (h : Int), .int .u64 (l : Int)]) ∧ w' = w :=
    ⟨_, _, by omega, fun w => Try.bits_Mul64 _ _ (Nat.lt_of_le_of_lt hX.out (by decide)) (Nat.lt_of_le_of_lt hY.out (by decide)) w⟩
  obtain ⟨h, l, hh, C1⟩ := C0
  have C := Lib.hid C1
  clear C1 hp
  go_enter Try.func71, Try.ntmps71
  go_wp2_with fail
  refine (size_any _ _ _ ex.out hX.out).mono ?_
  rintro e w1 ⟨rfl, rfl⟩
  go_wp2_with fail
  refine (size_any _ _ _ ey.out hY.out).mono ?_
  rintro e w1 ⟨rfl, rfl⟩
  go_wp2_with fail
  refine (C.out _).mono ?_
  rintro e w1 ⟨rfl, rfl⟩
  go_wp2
  go_ret
  exact ⟨ret_int (by first | rfl | omega), rfl⟩
theorem prod_in1 (a b : Int) (x y : Nat) (w : World) (ex : Hid (a.natAbs = x)) (ey : Hid (b.natAbs = y)) (hx : x ≤ 1099511627776) (hy : y ≤ 1099511627776) (hp : (x : Int) * (y : Int) ≤ 1099511627776)  (t : decide (a < 0) = true) (u : decide (b < 0) = false) :
    Calls Try.prog 71 #[.int .i64 a, .int .i64 b] w fun e w' => e = .returned (.int .i64 (-((x : Int) * (y : Int)))) ∧ w = w' := by
  have h0 := prod0 x y
  have hX := Lib.hid hx
  have hY := Lib.hid hy
  clear hx hy
  go_enter Try.func71, Try.ntmps71
  go_wp2_with fail
  refine (size_any _ _ _ ex.out hX.out).mono ?_
  rintro e w1 ⟨rfl, rfl⟩
  go_wp2_with fail
  refine (size_any _ _ _ ey.out hY.out).mono ?_
  rintro e w1 ⟨rfl, rfl⟩
  go_wp2_with fail
  refine (Try.bits_Mul64 _ _ (Nat.lt_of_le_of_lt hX.out (by decide)) (Nat.lt_of_le_of_lt hY.out (by decide)) _).mono ?_
  rintro e w1 ⟨rfl, rfl⟩
  go_wp2
  go_ret
  exact ⟨ret_int (by first | rfl | omega), rfl⟩
theorem prod_mid1 (a b : Int) (x y : Nat) (w : World) (ex : Hid (a.natAbs = x)) (ey : Hid (b.natAbs = y)) (hx : x ≤ 1099511627776) (hy : y ≤ 1099511627776) (hp : 1099511627776 < (x : Int) * (y : Int)) (hq : x * y < 18446744073709551616)  (t : decide (a < 0) = true) (u : decide (b < 0) = false) :
    Calls Try.prog 71 #[.int .i64 a, .int .i64 b] w fun e w' => e = .returned (.int .i64 (-(1099511627777))) ∧ w = w' := by
  have h0 := prod0 x y
  have hX := Lib.hid hx
  have hY := Lib.hid hy
  clear hx hy
  have C : Hid (∀ w : World, Calls Try.prog 79 #[.int .u64 (x : Int), .int .u64 (y : Int)] w fun e w' => e = .returned (.tuple #[.int .u64 0, .int .u64 ((x : Int) * (y : Int))]) ∧ w' = w) := by
    intro w
    have T := Try.bits_Mul64 _ _ (Nat.lt_of_le_of_lt hX.out (by decide)) (Nat.lt_of_le_of_lt hY.out (by decide)) w
    rw [Nat.div_eq_of_lt hq, Nat.mod_eq_of_lt hq, Int.natCast_mul] at T
    exact T
  clear hq
  go_enter Try.func71, Try.ntmps71
  go_wp2_with fail
  refine (size_any _ _ _ ex.out hX.out).mono ?_
  rintro e w1 ⟨rfl, rfl⟩
  go_wp2_with fail
  refine (size_any _ _ _ ey.out hY.out).mono ?_
  rintro e w1 ⟨rfl, rfl⟩
  go_wp2_with fail
  refine (C.out _).mono ?_
  rintro e w1 ⟨rfl, rfl⟩
  go_wp2
  go_ret
  exact ⟨ret_int (by first | rfl | omega), rfl⟩
theorem prod_big1 (a b : Int) (x y : Nat) (w : World) (ex : Hid (a.natAbs = x)) (ey : Hid (b.natAbs = y)) (hx : x ≤ 1099511627776) (hy : y ≤ 1099511627776) (hp : 18446744073709551616 ≤ x * y)  (t : decide (a < 0) = true) (u : decide (b < 0) = false) :
    Calls Try.prog 71 #[.int .i64 a, .int .i64 b] w fun e w' => e = .returned (.int .i64 (-(1099511627777))) ∧ w = w' := by
  have h0 := prod0 x y
  have hX := Lib.hid hx
  have hY := Lib.hid hy
  clear hx hy
  have C0 : ∃ h l : Nat, 1 ≤ h ∧ ∀ w : World, Calls Try.prog 79 #[.int .u64 (x : Int), .int .u64 (y : Int)] w fun e w' => e = .returned (.tuple #[.int .u64 (h : Int), .int .u64 (l : Int)]) ∧ w' = w :=
    ⟨_, _, by omega, fun w => Try.bits_Mul64 _ _ (Nat.lt_of_le_of_lt hX.out (by decide)) (Nat.lt_of_le_of_lt hY.out (by decide)) w⟩
  obtain ⟨h, l, hh, C1⟩ := C0
  have C := Lib.hid C1
  clear C1 hp
  go_enter Try.func71, Try.ntmps71
  go_wp2_with fail
  refine (size_any _ _ _ ex.out hX.out).mono ?_
  rintro e w1 ⟨rfl, rfl⟩
  go_wp2_with fail
  refine (size_any _ _ _ ey.out hY.out).mono ?_
  rintro e w1 ⟨rfl, rfl⟩
  go_wp2_with fail
  refine (C.out _).mono ?_
  rintro e w1 ⟨rfl, rfl⟩
  go_wp2
  go_ret
  exact ⟨ret_int (by first | rfl | omega), rfl⟩
theorem prod_in2 (a b : Int) (x y : Nat) (w : World) (ex : Hid (a.natAbs = x)) (ey : Hid (b.natAbs = y)) (hx : x ≤ 1099511627776) (hy : y ≤ 1099511627776) (hp : (x : Int) * (y : Int) ≤ 1099511627776)  (t : decide (a < 0) = false) (u : decide (b < 0) = true) :
    Calls Try.prog 71 #[.int .i64 a, .int .i64 b] w fun e w' => e = .returned (.int .i64 (-((x : Int) * (y : Int)))) ∧ w = w' := by
  have h0 := prod0 x y
  have hX := Lib.hid hx
  have hY := Lib.hid hy
  clear hx hy
  go_enter Try.func71, Try.ntmps71
  go_wp2_with fail
  refine (size_any _ _ _ ex.out hX.out).mono ?_
  rintro e w1 ⟨rfl, rfl⟩
  go_wp2_with fail
  refine (size_any _ _ _ ey.out hY.out).mono ?_
  rintro e w1 ⟨rfl, rfl⟩
  go_wp2_with fail
  refine (Try.bits_Mul64 _ _ (Nat.lt_of_le_of_lt hX.out (by decide)) (Nat.lt_of_le_of_lt hY.out (by decide)) _).mono ?_
  rintro e w1 ⟨rfl, rfl⟩
  go_wp2
  go_ret
  exact ⟨ret_int (by first | rfl | omega), rfl⟩
theorem prod_mid2 (a b : Int) (x y : Nat) (w : World) (ex : Hid (a.natAbs = x)) (ey : Hid (b.natAbs = y)) (hx : x ≤ 1099511627776) (hy : y ≤ 1099511627776) (hp : 1099511627776 < (x : Int) * (y : Int)) (hq : x * y < 18446744073709551616)  (t : decide (a < 0) = false) (u : decide (b < 0) = true) :
    Calls Try.prog 71 #[.int .i64 a, .int .i64 b] w fun e w' => e = .returned (.int .i64 (-(1099511627777))) ∧ w = w' := by
  have h0 := prod0 x y
  have hX := Lib.hid hx
  have hY := Lib.hid hy
  clear hx hy
  have C : Hid (∀ w : World, Calls Try.prog 79 #[.int .u64 (x : Int), .int .u64 (y : Int)] w fun e w' => e = .returned (.tuple #[.int .u64 0, .int .u64 ((x : Int) * (y : Int))]) ∧ w' = w) := by
    intro w
    have T := Try.bits_Mul64 _ _ (Nat.lt_of_le_of_lt hX.out (by decide)) (Nat.lt_of_le_of_lt hY.out (by decide)) w
    rw [Nat.div_eq_of_lt hq, Nat.mod_eq_of_lt hq, Int.natCast_mul] at T
    exact T
  clear hq
  go_enter Try.func71, Try.ntmps71
  go_wp2_with fail
  refine (size_any _ _ _ ex.out hX.out).mono ?_
  rintro e w1 ⟨rfl, rfl⟩
  go_wp2_with fail
  refine (size_any _ _ _ ey.out hY.out).mono ?_
  rintro e w1 ⟨rfl, rfl⟩
  go_wp2_with fail
  refine (C.out _).mono ?_
  rintro e w1 ⟨rfl, rfl⟩
  go_wp2
  go_ret
  exact ⟨ret_int (by first | rfl | omega), rfl⟩
theorem prod_big2 (a b : Int) (x y : Nat) (w : World) (ex : Hid (a.natAbs = x)) (ey : Hid (b.natAbs = y)) (hx : x ≤ 1099511627776) (hy : y ≤ 1099511627776) (hp : 18446744073709551616 ≤ x * y)  (t : decide (a < 0) = false) (u : decide (b < 0) = true) :
    Calls Try.prog 71 #[.int .i64 a, .int .i64 b] w fun e w' => e = .returned (.int .i64 (-(1099511627777))) ∧ w = w' := by
  have h0 := prod0 x y
  have hX := Lib.hid hx
  have hY := Lib.hid hy
  clear hx hy
  have C0 : ∃ h l : Nat, 1 ≤ h ∧ ∀ w : World, Calls Try.prog 79 #[.int .u64 (x : Int), .int .u64 (y : Int)] w fun e w' => e = .returned (.tuple #[.int .u64 (h : Int), .int .u64 (l : Int)]) ∧ w' = w :=
    ⟨_, _, by omega, fun w => Try.bits_Mul64 _ _ (Nat.lt_of_le_of_lt hX.out (by decide)) (Nat.lt_of_le_of_lt hY.out (by decide)) w⟩
  obtain ⟨h, l, hh, C1⟩ := C0
  have C := Lib.hid C1
  clear C1 hp
  go_enter Try.func71, Try.ntmps71
  go_wp2_with fail
  refine (size_any _ _ _ ex.out hX.out).mono ?_
  rintro e w1 ⟨rfl, rfl⟩
  go_wp2_with fail
  refine (size_any _ _ _ ey.out hY.out).mono ?_
  rintro e w1 ⟨rfl, rfl⟩
  go_wp2_with fail
  refine (C.out _).mono ?_
  rintro e w1 ⟨rfl, rfl⟩
  go_wp2
  go_ret
  exact ⟨ret_int (by first | rfl | omega), rfl⟩
theorem prod_in3 (a b : Int) (x y : Nat) (w : World) (ex : Hid (a.natAbs = x)) (ey : Hid (b.natAbs = y)) (hx : x ≤ 1099511627776) (hy : y ≤ 1099511627776) (hp : (x : Int) * (y : Int) ≤ 1099511627776)  (t : decide (a < 0) = true) (u : decide (b < 0) = true) :
    Calls Try.prog 71 #[.int .i64 a, .int .i64 b] w fun e w' => e = .returned (.int .i64 ((x : Int) * (y : Int))) ∧ w = w' := by
  have h0 := prod0 x y
  have hX := Lib.hid hx
  have hY := Lib.hid hy
  clear hx hy
  go_enter Try.func71, Try.ntmps71
  go_wp2_with fail
  refine (size_any _ _ _ ex.out hX.out).mono ?_
  rintro e w1 ⟨rfl, rfl⟩
  go_wp2_with fail
  refine (size_any _ _ _ ey.out hY.out).mono ?_
  rintro e w1 ⟨rfl, rfl⟩
  go_wp2_with fail
  refine (Try.bits_Mul64 _ _ (Nat.lt_of_le_of_lt hX.out (by decide)) (Nat.lt_of_le_of_lt hY.out (by decide)) _).mono ?_
  rintro e w1 ⟨rfl, rfl⟩
  go_wp2
  go_ret
  exact ⟨ret_int (by first | rfl | omega), rfl⟩
theorem prod_mid3 (a b : Int) (x y : Nat) (w : World) (ex : Hid (a.natAbs = x)) (ey : Hid (b.natAbs = y)) (hx : x ≤ 1099511627776) (hy : y ≤ 1099511627776) (hp : 1099511627776 < (x : Int) * (y : Int)) (hq : x * y < 18446744073709551616)  (t : decide (a < 0) = true) (u : decide (b < 0) = true) :
    Calls Try.prog 71 #[.int .i64 a, .int .i64 b] w fun e w' => e = .returned (.int .i64 (1099511627777)) ∧ w = w' := by
  have h0 := prod0 x y
  have hX := Lib.hid hx
  have hY := Lib.hid hy
  clear hx hy
  have C : Hid (∀ w : World, Calls Try.prog 79 #[.int .u64 (x : Int), .int .u64 (y : Int)] w fun e w' => e = .returned (.tuple #[.int .u64 0, .int .u64 ((x : Int) * (y : Int))]) ∧ w' = w) := by
    intro w
    have T := Try.bits_Mul64 _ _ (Nat.lt_of_le_of_lt hX.out (by decide)) (Nat.lt_of_le_of_lt hY.out (by decide)) w
    rw [Nat.div_eq_of_lt hq, Nat.mod_eq_of_lt hq, Int.natCast_mul] at T
    exact T
  clear hq
  go_enter Try.func71, Try.ntmps71
  go_wp2_with fail
  refine (size_any _ _ _ ex.out hX.out).mono ?_
  rintro e w1 ⟨rfl, rfl⟩
  go_wp2_with fail
  refine (size_any _ _ _ ey.out hY.out).mono ?_
  rintro e w1 ⟨rfl, rfl⟩
  go_wp2_with fail
  refine (C.out _).mono ?_
  rintro e w1 ⟨rfl, rfl⟩
  go_wp2
  go_ret
  exact ⟨ret_int (by first | rfl | omega), rfl⟩
theorem prod_big3 (a b : Int) (x y : Nat) (w : World) (ex : Hid (a.natAbs = x)) (ey : Hid (b.natAbs = y)) (hx : x ≤ 1099511627776) (hy : y ≤ 1099511627776) (hp : 18446744073709551616 ≤ x * y)  (t : decide (a < 0) = true) (u : decide (b < 0) = true) :
    Calls Try.prog 71 #[.int .i64 a, .int .i64 b] w fun e w' => e = .returned (.int .i64 (1099511627777)) ∧ w = w' := by
  have h0 := prod0 x y
  have hX := Lib.hid hx
  have hY := Lib.hid hy
  clear hx hy
  have C0 : ∃ h l : Nat, 1 ≤ h ∧ ∀ w : World, Calls Try.prog 79 #[.int .u64 (x : Int), .int .u64 (y : Int)] w fun e w' => e = .returned (.tuple #[.int .u64 (h : Int), .int .u64 (l : Int)]) ∧ w' = w :=
    ⟨_, _, by omega, fun w => Try.bits_Mul64 _ _ (Nat.lt_of_le_of_lt hX.out (by decide)) (Nat.lt_of_le_of_lt hY.out (by decide)) w⟩
  obtain ⟨h, l, hh, C1⟩ := C0
  have C := Lib.hid C1
  clear C1 hp
  go_enter Try.func71, Try.ntmps71
  go_wp2_with fail
  refine (size_any _ _ _ ex.out hX.out).mono ?_
  rintro e w1 ⟨rfl, rfl⟩
  go_wp2_with fail
  refine (size_any _ _ _ ey.out hY.out).mono ?_
  rintro e w1 ⟨rfl, rfl⟩
  go_wp2_with fail
  refine (C.out _).mono ?_
  rintro e w1 ⟨rfl, rfl⟩
  go_wp2
  go_ret
  exact ⟨ret_int (by first | rfl | omega), rfl⟩
theorem product_any (a b : Int) (w : World) (h : Sp.vldB a a = true) (k : Sp.vldB b b = true) :
    Calls Try.prog 71 #[.int .i64 a, .int .i64 b] w fun e w' => e = .returned (.int .i64 (prodR a b)) ∧ w = w' := by
  obtain ⟨h1, _, h2⟩ := Sp.vld_iff.1 h
  obtain ⟨k1, _, k2⟩ := Sp.vld_iff.1 k
  obtain ⟨x, ex⟩ : ∃ x, a.natAbs = x := ⟨_, rfl⟩
  obtain ⟨y, ey⟩ : ∃ y, b.natAbs = y := ⟨_, rfl⟩
  have hx : x ≤ 1099511627776 := by omega
  have hy : y ≤ 1099511627776 := by omega
  have q0 := prod0 x y
  unfold prodR
  rcases Int.lt_or_le a 0 with ha | ha <;> rcases Int.lt_or_le b 0 with hb | hb
  · have M : a * b = (x : Int) * (y : Int) := by
      rw [show a = -(x : Int) by omega, show b = -(y : Int) by omega, Int.neg_mul_neg]
    rw [M]
    rcases Int.lt_or_le 1099511627776 ((x : Int) * (y : Int)) with c | c
    · rw [if_neg (by omega), if_neg (by omega)]
      rcases Int.lt_or_le ((x : Int) * (y : Int)) 18446744073709551616 with d | d
      · exact prod_mid3 a b x y w ex ey hx hy c (by rw [← Int.natCast_mul] at d; omega) (decide_eq_true ha) (decide_eq_true hb)
      · exact prod_big3 a b x y w ex ey hx hy (by rw [← Int.natCast_mul] at d; omega) (decide_eq_true ha) (decide_eq_true hb)
    · rw [if_pos (by omega)]
      exact prod_in3 a b x y w ex ey hx hy c (decide_eq_true ha) (decide_eq_true hb)
  · have M : a * b = -((x : Int) * (y : Int)) := by
      rw [show a = -(x : Int) by omega, show b = (y : Int) by omega, Int.neg_mul]
    rw [M]
    rcases Int.lt_or_le 1099511627776 ((x : Int) * (y : Int)) with c | c
    · rw [if_neg (by omega), if_pos (by omega)]
      rcases Int.lt_or_le ((x : Int) * (y : Int)) 18446744073709551616 with d | d
      · exact prod_mid1 a b x y w ex ey hx hy c (by rw [← Int.natCast_mul] at d; omega) (decide_eq_true ha) (decide_eq_false (by omega))
      · exact prod_big1 a b x y w ex ey hx hy (by rw [← Int.natCast_mul] at d; omega) (decide_eq_true ha) (decide_eq_false (by omega))
    · rw [if_pos (by omega)]
      exact prod_in1 a b x y w ex ey hx hy c (decide_eq_true ha) (decide_eq_false (by omega))
  · have M : a * b = -((x : Int) * (y : Int)) := by
      rw [show a = (x : Int) by omega, show b = -(y : Int) by omega, Int.mul_neg]
    rw [M]
    rcases Int.lt_or_le 1099511627776 ((x : Int) * (y : Int)) with c | c
    · rw [if_neg (by omega), if_pos (by omega)]
      rcases Int.lt_or_le ((x : Int) * (y : Int)) 18446744073709551616 with d | d
      · exact prod_mid2 a b x y w ex ey hx hy c (by rw [← Int.natCast_mul] at d; omega) (decide_eq_false (by omega)) (decide_eq_true hb)
      · exact prod_big2 a b x y w ex ey hx hy (by rw [← Int.natCast_mul] at d; omega) (decide_eq_false (by omega)) (decide_eq_true hb)
    · rw [if_pos (by omega)]
      exact prod_in2 a b x y w ex ey hx hy c (decide_eq_false (by omega)) (decide_eq_true hb)
  · have M : a * b = (x : Int) * (y : Int) := by
      rw [show a = (x : Int) by omega, show b = (y : Int) by omega]
    rw [M]
    rcases Int.lt_or_le 1099511627776 ((x : Int) * (y : Int)) with c | c
    · rw [if_neg (by omega), if_neg (by omega)]
      rcases Int.lt_or_le ((x : Int) * (y : Int)) 18446744073709551616 with d | d
      · exact prod_mid0 a b x y w ex ey hx hy c (by rw [← Int.natCast_mul] at d; omega) (decide_eq_false (by omega)) (decide_eq_false (by omega))
      · exact prod_big0 a b x y w ex ey hx hy (by rw [← Int.natCast_mul] at d; omega) (decide_eq_false (by omega)) (decide_eq_false (by omega))
    · rw [if_pos (by omega)]
      exact prod_in0 a b x y w ex ey hx hy c (decide_eq_false (by omega)) (decide_eq_false (by omega))

end Go.Proofs.Ythmlhpjhoolflaa
