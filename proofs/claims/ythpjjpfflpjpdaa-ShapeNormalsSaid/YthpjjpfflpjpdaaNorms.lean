/-
  The law ShapeNormals: for every panel it answers true.
-/
import Derived.Test.YthpjjpfflpjpdaaNormsW
import Derived.Test.YthpjjpfflpjpdaaKnown2
namespace Go.Proofs.Ythpjjpfflpjpdaa
open Go.ChangeShapes Go.WideShapes Go.RowKit
open Sh
theorem nrm_swap (a b c : P3) : nrm a c b = tim (-1) (nrm a b c) := by
  unfold nrm vec sub tim
  ext <;> dsimp only
  all_goals
    simp only [Int.neg_mul, Int.one_mul, Int.neg_sub]
    rw [Int.mul_comm (_ - _) (_ - _)]
    congr 1
    rw [Int.mul_comm]
theorem tim_zero (p : P3) : p = (0, 0, 0) ↔ tim (-1) p = (0, 0, 0) := by
  obtain ⟨x, y, z⟩ := p
  unfold tim
  simp only [Prod.mk.injEq]
  omega
theorem pcode_swap (a b c : P3) : pcode a c b = pcode a b c := by
  unfold pcode
  rw [nrm_swap]
  have e : (inP 64 a && inP 64 c && inP 64 b) = (inP 64 a && inP 64 b && inP 64 c) := by cases inP 64 a <;> cases inP 64 b <;> cases inP 64 c <;> rfl
  rw [e]
  have k := tim_zero (nrm a b c)
  by_cases h : nrm a b c = (0, 0, 0)
  · rw [if_pos h, if_pos (k.1 h)]
  · rw [if_neg h, if_neg (fun x => h (k.2 x))]
theorem norms_walk (a b c : P3) (w : World) :
    Calls Try.prog 4 #[pnv a b c] w fun e w' => e = .returned (.bool true) ∧ Below w.heap.size w w' := by
  have N := norm_any a c b
  rw [pcode_swap a b c] at N
  have e : (if pcode a b c = 0 then nrm a c b else (0, 0, 0)) = tim (-1) (if pcode a b c = 0 then nrm a b c else (0, 0, 0)) := by
    rw [nrm_swap a b c]
    split
    · rfl
    · rfl
  rw [e] at N
  have bd : BdP 4611686018427387904 (tim (-1) (if pcode a b c = 0 then nrm a b c else (0, 0, 0))) := by
    by_cases z : pcode a b c = 0
    · rw [if_pos z]
      unfold pcode at z
      split at z
      · rename_i v
        simp only [Bool.and_eq_true] at v
        have n := nrm_bd (inP_iff.1 v.1.1) (inP_iff.1 v.1.2) (inP_iff.1 v.2)
        exact (tim_bd (K := 1) (by decide) (by decide) n).mono (by decide)
      · exact absurd z (by decide)
    · rw [if_neg z]; simp [BdP, tim]
  exact norms_walk0 a b c _ _ _ w (Lib.hid fun W => norm_any a b c W) (Lib.hid fun W => rnorm_any a b c W) (Lib.hid fun W => vp_any a b c W) (Lib.hid fun W => rvp_any a b c W) (Lib.hid N) (Lib.hid fun W => rtimes_any (-1) _ W bd) (Lib.hid fun W => known_any2 W)

end Go.Proofs.Ythpjjpfflpjpdaa
