/-
  The contracts of Inverse and Cube, in the program and in the document's answer.
-/
import Derived.Test.YtlegalibjkeccaaInv
namespace Go.Proofs.Ytlegalibjkeccaa
open Go.ChangeShapes Go.WideShapes Go.RowKit

/-- the least span of the root of t / n^p -/
def belowR (t n p : Nat) : Sp.R := Sp.told ((Rt.isq (QT t n p) : Nat) : Int) ((qUp t n p : Nat) : Int)
theorem below_up (t n : Nat) : (t % n = 0 ∧ Rt.isq (t / n) * Rt.isq (t / n) = t / n → qUp t n 1 = Rt.isq (t / n)) ∧ (¬ (t % n = 0 ∧ Rt.isq (t / n) * Rt.isq (t / n) = t / n) → qUp t n 1 = Rt.isq (t / n) + 1) := by
  have e : QW t n 1 = decide (t % n = 0) := rfl
  have e2 : QT t n 1 = t / n := rfl
  unfold qUp
  rw [e, e2]
  by_cases c : t % n = 0
  · simp only [c, decide_true, if_true, true_and]
    unfold Rt.csq
    exact ⟨fun h => if_pos h, fun h => if_neg h⟩
  · simp [c]
end Go.Proofs.Ytlegalibjkeccaa
