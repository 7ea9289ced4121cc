/-
  The contracts of the document's roots of integers, and of Root in the program and in the document's answer.
-/
import Derived.Test.YthpjjpfflpjpdabRoot
import Derived.Deep.RegionHeld3
namespace Go.Proofs.Ythpjjpfflpjpdab
open Go.ChangeShapes Go.WideShapes Go.RowKit
theorem pair_drew'' {w : World} {b : Nat} {x y : Int} (h : Pair w b x y) : Pair w.drew b x y := h
theorem mid_yes {n k : Nat} (h : k * k ≤ n) : k ≤ Rt.isq n := by
  have b := (Rt.isq_spec n).2
  rcases Nat.lt_or_ge (Rt.isq n) k with c | c
  · have := Nat.mul_le_mul (show Rt.isq n + 1 ≤ k by omega) (show Rt.isq n + 1 ≤ k by omega); omega
  · exact c
theorem mid_no {n k : Nat} (h : n < k * k) : Rt.isq n < k := Rt.isq_lt h
theorem csq_iff (n : Nat) : (Rt.isq n * Rt.isq n < n → Rt.csq n = Rt.isq n + 1) ∧ (n ≤ Rt.isq n * Rt.isq n → Rt.csq n = Rt.isq n) := by
  have a := (Rt.isq_spec n).1
  unfold Rt.csq
  exact ⟨fun h => if_neg (by omega), fun h => if_pos (by omega)⟩
/-- the span of the roots -/
def rootR (lo hi : Int) : Sp.R := if Sp.vldB lo hi = true ∧ 0 ≤ lo then Sp.told ((Rt.isq (lo.toNat * 1048576) : Nat) : Int) ((Rt.csq (hi.toNat * 1048576) : Nat) : Int) else ((0, 0), 1)
theorem root_any (n m : Nat) (w : World) (h : n ≤ 1152921504606846976) (hm : m ≤ 20) :
    Calls Try.prog 62 #[.int .i64 n, .int .i64 m] w fun e w' => e = .returned (.tuple #[.int .i64 (Rt.isq (n * 4 ^ m) : Nat), .int .i64 (Rt.csq (n * 4 ^ m) : Nat)]) ∧ w = w' := by
  rcases Nat.eq_zero_or_pos n with e | e
  · subst e
    rw [Nat.zero_mul]
    exact root_zero m w
  · exact root_pos n m w e h hm
theorem rt_yes (x y : Nat) (w : World) (h : Sp.vldB x y = true) :
    Calls Try.prog 23 #[spv (x : Int) (y : Int)] w fun e w' => e = .returned (spr (Sp.told ((Rt.isq (x * 1048576) : Nat) : Int) ((Rt.csq (y * 1048576) : Nat) : Int))) ∧ Below w.heap.size w w' := by
  have q := Sp.vld_iff.1 h
  have hx : Hid (x ≤ 1099511627776) := (by omega : x ≤ 1099511627776)
  have hy : Hid (y ≤ 1099511627776) := (by omega : y ≤ 1099511627776)
  have R0 : Hid (∀ w : World, Calls Try.prog 62 #[.int .i64 x, .int .i64 10] w fun e w' => e = .returned (.tuple #[.int .i64 (Rt.isq (x * 1048576) : Nat), .int .i64 (Rt.csq (x * 1048576) : Nat)]) ∧ w = w') := fun w => root_any x 10 w (by have := hx.out; omega) (by decide)
  have R1 : Hid (∀ w : World, Calls Try.prog 62 #[.int .i64 y, .int .i64 10] w fun e w' => e = .returned (.tuple #[.int .i64 (Rt.isq (y * 1048576) : Nat), .int .i64 (Rt.csq (y * 1048576) : Nat)]) ∧ w = w') := fun w => root_any y 10 w (by have := hy.out; omega) (by decide)
  go_enter Try.func23, Try.ntmps23
  go_wp2_with fail
  refine (valid_yes _ _ _ h).mono ?_
  rintro e w1 ⟨rfl, rfl⟩
  go_wp2_with fail
  refine (R0.out _).mono ?_
  rintro e w1 ⟨rfl, rfl⟩
  go_wp2_with fail
  refine (R1.out _).mono ?_
  rintro e w1 ⟨rfl, rfl⟩
  go_wp2_with fail
  refine (least_any _ _ _).mono ?_
  rintro e w2 ⟨rfl, hb⟩
  have g := pair_below (pair_alloc (pair_new (w.alloc _) 0 0 _) _) hb
  simp only [World.size_alloc] at g
  obtain ⟨g1, g2, g3, g4, g5⟩ := g
  go_wp2
  refine bodyPost_ret (v := spr (Sp.told _ _)) (by rw [results_cell_tmp rfl]; go_simp) rfl ⟨rfl, ?_⟩
  (repeat' (first | exact Below.refl _ _ | refine bstep ?_ hb | refine Below.setCell ?_ (by simp <;> omega) _ | refine balloc ?_ _ | refine Below.drew ?_ | refine bdrewN ?_ _))
theorem rt_no1 (lo hi : Int) (w : World) (h : Sp.vldB lo hi = false) :
    Calls Try.prog 23 #[spv lo hi] w fun e w' => e = .returned (spr ((0, 0), 1)) ∧ Below w.heap.size w w' := by
  go_enter Try.func23, Try.ntmps23
  go_wp2_with fail
  refine (valid_no _ _ _ h).mono ?_
  rintro e w1 ⟨rfl, rfl⟩
  go_wp2
  refine bodyPost_ret (v := spr ((0, 0), 1)) (by rw [results_cell_tmp rfl]; go_simp) rfl ⟨rfl, ?_⟩
  (repeat' (first | exact Below.refl _ _ | refine Below.setCell ?_ (by simp <;> omega) _ | refine balloc ?_ _ | refine Below.drew ?_ | refine bdrewN ?_ _))
theorem rt_no2 (lo hi : Int) (w : World) (h : Sp.vldB lo hi = true) (k : lo < 0) :
    Calls Try.prog 23 #[spv lo hi] w fun e w' => e = .returned (spr ((0, 0), 1)) ∧ Below w.heap.size w w' := by
  go_enter Try.func23, Try.ntmps23
  go_wp2_with fail
  refine (valid_yes _ _ _ h).mono ?_
  rintro e w1 ⟨rfl, rfl⟩
  go_wp2
  refine bodyPost_ret (v := spr ((0, 0), 1)) (by rw [results_cell_tmp rfl]; go_simp) rfl ⟨rfl, ?_⟩
  (repeat' (first | exact Below.refl _ _ | refine Below.setCell ?_ (by simp <;> omega) _ | refine balloc ?_ _ | refine Below.drew ?_ | refine bdrewN ?_ _))
theorem rt_any (lo hi : Int) (w : World) :
    Calls Try.prog 23 #[spv lo hi] w fun e w' => e = .returned (spr (rootR lo hi)) ∧ Below w.heap.size w w' := by
  unfold rootR
  cases h : Sp.vldB lo hi
  · rw [if_neg (by simp)]; exact rt_no1 _ _ _ h
  rcases Int.lt_or_le lo 0 with k | k
  · rw [if_neg (by omega)]; exact rt_no2 _ _ _ h k
  · rw [if_pos ⟨rfl, k⟩]
    have q := Sp.vld_iff.1 h
    obtain ⟨x, rfl⟩ := Int.eq_ofNat_of_zero_le k
    obtain ⟨y, rfl⟩ := Int.eq_ofNat_of_zero_le (show 0 ≤ hi by omega)
    rw [Int.toNat_natCast, Int.toNat_natCast]
    exact rt_yes x y w h
end Go.Proofs.Ythpjjpfflpjpdab
