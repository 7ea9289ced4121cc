/-
  AtMost at all fractions from 0 on.
-/
import Derived.Test.YtefmlcojbfiehaaCrV1
namespace Go.Proofs.Ytefmlcojbfiehaa
open Go.ChangeShapes Go.WideShapes Go.RowKit
open Cr
theorem m64g (x y : Nat) (hx : x < 18446744073709551616) (hy : y < 18446744073709551616) (w : World) :
    Calls Try.prog 87 #[.int .u64 x, .int .u64 y] w fun e w' => e = .returned (.tuple #[.int .u64 ((x * y / 18446744073709551616 : Nat) : Int), .int .u64 ((x * y % 18446744073709551616 : Nat) : Int)]) ∧ w = w' :=
  (Try.bits_Mul64 x y hx hy w).mono fun _ _ ⟨he, hw⟩ => ⟨he, hw.symm⟩
theorem le_parts (a b : Nat) : a ≤ b ↔ (a / 18446744073709551616 < b / 18446744073709551616 ∨ (a / 18446744073709551616 = b / 18446744073709551616 ∧ a % 18446744073709551616 ≤ b % 18446744073709551616)) := by omega
theorem atm_gen (x y u v : Nat) (w : World) (hx : x ≤ 9000000000000000000) (hy : y ≤ 9000000000000000000) (hu : u ≤ 9000000000000000000) (hv : v ≤ 9000000000000000000) :
    Calls Try.prog 50 #[rtv ((x : Int), (y : Int)), rtv ((u : Int), (v : Int))] w fun e w' => e = .returned (.bool (decide (x * v ≤ u * y))) ∧ Below w.heap.size w w' := by
  have M1 := Lib.hid (fun W => m64g x v (by omega) (by omega) W)
  have M2 := Lib.hid (fun W => m64g u y (by omega) (by omega) W)
  have e0 : decide (x * v ≤ u * y) = decide (x * v / 18446744073709551616 < u * y / 18446744073709551616 ∨ (x * v / 18446744073709551616 = u * y / 18446744073709551616 ∧ x * v % 18446744073709551616 ≤ u * y % 18446744073709551616)) := decide_eq_decide.2 (le_parts _ _)
  rw [e0]
  clear e0
  have x1 : (x : Int) ≤ 9000000000000000000 := by omega
  have y1 : (y : Int) ≤ 9000000000000000000 := by omega
  have u1 : (u : Int) ≤ 9000000000000000000 := by omega
  have v1 : (v : Int) ≤ 9000000000000000000 := by omega
  have x0 : 0 ≤ (x : Int) := by omega
  have y0 : 0 ≤ (y : Int) := by omega
  have u0 : 0 ≤ (u : Int) := by omega
  have v0 : 0 ≤ (v : Int) := by omega
  clear hx hy hu hv
  generalize x * v / 18446744073709551616 = h1 at *
  generalize x * v % 18446744073709551616 = l1 at *
  generalize u * y / 18446744073709551616 = h2 at *
  generalize u * y % 18446744073709551616 = l2 at *
  have B0 := Lib.hid (show Below w.heap.size w ((w.alloc (rtc ((x : Int), (y : Int)))).alloc (rtc ((u : Int), (v : Int)))) from balloc (balloc (Below.refl _ _) _) _)
  by_cases c1 : h1 < h2
  · have e : decide (h1 < h2 ∨ (h1 = h2 ∧ l1 ≤ l2)) = true := by simp [c1]
    rw [e]
    have c1 : (h1 : Int) < (h2 : Int) := by omega
    clear e
    go_enter Try.func50, Try.ntmps50
    go_wp2_with fail
    with_reducible refine (M1.out _).mono ?_
    rintro e w2 ⟨rfl, rfl⟩
    go_wp2_with fail
    with_reducible refine (M2.out _).mono ?_
    rintro e w3 ⟨rfl, rfl⟩
    go_wp2_with fail
    go_ret
    exact ⟨rfl, B0.out⟩
  · by_cases c2 : h1 = h2
    · subst c2
      have e : decide (h1 < h1 ∨ (h1 = h1 ∧ l1 ≤ l2)) = decide (l1 ≤ l2) := by simp
      rw [e]
      clear e c1
      go_enter Try.func50, Try.ntmps50
      go_wp2_with fail
      with_reducible refine (M1.out _).mono ?_
      rintro e w2 ⟨rfl, rfl⟩
      go_wp2_with fail
      with_reducible refine (M2.out _).mono ?_
      rintro e w3 ⟨rfl, rfl⟩
      go_wp2_with fail
      go_ret
      exact ⟨rfl, B0.out⟩
    · have e : decide (h1 < h2 ∨ (h1 = h2 ∧ l1 ≤ l2)) = false := by simp [c1, c2]
      rw [e]
      have c1' : ¬ (h1 : Int) < (h2 : Int) := by omega
      have c2' : ((h1 : Int) == (h2 : Int)) = false := by simp; omega
      have c3' : ¬ (h1 : Int) = (h2 : Int) := by omega
      clear e
      go_enter Try.func50, Try.ntmps50
      go_wp2_with fail
      with_reducible refine (M1.out _).mono ?_
      rintro e w2 ⟨rfl, rfl⟩
      go_wp2_with fail
      with_reducible refine (M2.out _).mono ?_
      rintro e w3 ⟨rfl, rfl⟩
      go_wp2_with fail
      go_ret
      exact ⟨rfl, B0.out⟩

end Go.Proofs.Ytefmlcojbfiehaa
