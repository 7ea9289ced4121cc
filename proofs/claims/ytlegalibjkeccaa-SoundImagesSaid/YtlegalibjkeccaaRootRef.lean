/-
  The contracts of the document's roots of integers, and of Root in the program and in the document's answer.
-/
import Derived.Test.YtlegalibjkeccaaRoot
import Derived.Deep.RegionHeld3
namespace Go.Proofs.Ytlegalibjkeccaa
open Go.ChangeShapes Go.WideShapes Go.RowKit
theorem pair_drew'' {w : World} {b : Nat} {x y : Int} (h : Pair w b x y) : Pair w.drew b x y := h
theorem mid_yes {n k : Nat} (h : k * k ≤ n) : k ≤ Rt.isq n := by
  have b := (Rt.isq_spec n).2
  rcases Nat.lt_or_ge (Rt.isq n) k with c | c
  · have := Nat.mul_le_mul (show Rt.isq n + 1 ≤ k by omega) (show Rt.isq n + 1 ≤ k by omega); omega
  · exact c
theorem mid_no {n k : Nat} (h : n < k * k) : Rt.isq n < k := Rt.isq_lt h
theorem csq_iff (n : Nat) : (Rt.isq n * Rt.isq n < n → Rt.csq n = Rt.isq n + 1) ∧ (n ≤ Rt.isq n * Rt.isq n → Rt.csq n = Rt.isq n) := by
  have a := (Rt.isq_spec n).1
  unfold Rt.csq
  exact ⟨fun h => if_neg (by omega), fun h => if_pos (by omega)⟩
/-- the span of the roots -/
def rootR (lo hi : Int) : Sp.R := if Sp.vldB lo hi = true ∧ 0 ≤ lo then Sp.told ((Rt.isq (lo.toNat * 1048576) : Nat) : Int) ((Rt.csq (hi.toNat * 1048576) : Nat) : Int) else ((0, 0), 1)
theorem root_any (n m : Nat) (w : World) (h : n ≤ 1152921504606846976) (hm : m ≤ 20) :
    Calls Try.prog 95 #[.int .i64 n, .int .i64 m] w fun e w' => e = .returned (.tuple #[.int .i64 (Rt.isq (n * 4 ^ m) : Nat), .int .i64 (Rt.csq (n * 4 ^ m) : Nat)]) ∧ w = w' := by
  rcases Nat.eq_zero_or_pos n with e | e
  · subst e
    rw [Nat.zero_mul]
    exact root_zero m w
  · exact root_pos n m w e h hm
end Go.Proofs.Ytlegalibjkeccaa
