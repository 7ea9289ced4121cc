/-
  The contracts of Of, Pi, encloses and known.
-/
import Derived.Test.YthmlhpjhoolflabQuo
namespace Go.Proofs.Ythmlhpjhoolflab
open Go.ChangeShapes Go.WideShapes Go.RowKit

theorem quo13 : Sp.quo (-1) 3 = ((-349526, -349525), 0) := by decide +kernel
theorem pi_any (w : World) :
    Calls Try.prog 21 #[] w fun e w' => e = .returned (spv 3294198 3294199) ∧ Below w.heap.size w w' := by
  go_enter Try.func21, Try.ntmps21
  go_wp2
  refine bodyPost_ret (v := spv 3294198 3294199) (by simp [results, Try.results21, go_sem]) rfl ⟨rfl, ?_⟩
  (repeat' (first | exact Below.refl _ _ | refine Below.setCell ?_ (by simp <;> omega) _ | refine balloc ?_ _ | refine Below.drew ?_ | refine bdrewN ?_ _))
theorem rpi_any (w : World) :
    Calls Try.prog 22 #[] w fun e w' => e = .returned (spv 3294198 3294199) ∧ Below w.heap.size w w' := by
  go_enter Try.func22, Try.ntmps22
  go_wp2
  refine bodyPost_ret (v := spv 3294198 3294199) (by simp [results, Try.results22, go_sem]) rfl ⟨rfl, ?_⟩
  (repeat' (first | exact Below.refl _ _ | refine Below.setCell ?_ (by simp <;> omega) _ | refine balloc ?_ _ | refine Below.drew ?_ | refine bdrewN ?_ _))
theorem encl_err (a b e c d : Int) (w : World) (h : e ≠ 0) :
    Calls Try.prog 8 #[spv a b, .int .i64 e, spv c d] w fun e w' => e = .returned (.bool true) ∧ Below w.heap.size w w' := by
  have h1 : (e != 0) = true := bne_iff_ne.2 h
  have h2 : (e == 0) = false := beq_eq_false_iff_ne.2 h
  clear h
  go_enter Try.func8, Try.ntmps8
  go_wp2
  go_ret
  exact ⟨rfl, by (repeat' (first | exact Below.refl _ _ | refine Below.setCell ?_ (by simp <;> omega) _ | refine balloc ?_ _ | refine Below.drew ?_ | refine bdrewN ?_ _))⟩
theorem encl_yes (a b c d : Int) (w : World) (h : a ≤ c) (k : d ≤ b) :
    Calls Try.prog 8 #[spv a b, .int .i64 0, spv c d] w fun e w' => e = .returned (.bool true) ∧ Below w.heap.size w w' := by
  go_enter Try.func8, Try.ntmps8
  go_wp2
  go_ret
  exact ⟨rfl, by (repeat' (first | exact Below.refl _ _ | refine Below.setCell ?_ (by simp <;> omega) _ | refine balloc ?_ _ | refine Below.drew ?_ | refine bdrewN ?_ _))⟩
theorem known_any (w : World) :
    Calls Try.prog 7 #[] w fun e w' => e = .returned (.bool true) ∧ Below w.heap.size w w' := by
  have K := quo_any (-1) 3 w
  rw [quo13] at K
  have K := Lib.hid K
  go_enter Try.func7, Try.ntmps7
  go_wp2_with fail
  refine K.out.mono ?_
  rintro e w1 ⟨rfl, hb⟩
  go_wp2_with fail
  refine (pi_any _).mono ?_
  rintro e w2 ⟨rfl, hb2⟩
  go_wp2_with fail
  refine (rpi_any _).mono ?_
  rintro e w3 ⟨rfl, hb3⟩
  go_wp2
  go_ret
  exact ⟨rfl, by (repeat' (first | exact Below.refl _ _ | refine bstep ?_ hb | refine bstep ?_ hb2 | refine bstep ?_ hb3 | refine Below.setCell ?_ (by simp <;> omega) _ | refine balloc ?_ _ | refine Below.drew ?_ | refine bdrewN ?_ _))⟩

end Go.Proofs.Ythmlhpjhoolflab
