/-
  Plain arithmetic for TopSpans: the mean of four and the fourth part of their sum.
-/
import Derived.Test.YthpjjpfflpjpdabTopNum3
import Derived.Test.YthpjjpfflpjpdabSumm
namespace Go.Proofs.Ythpjjpfflpjpdab
theorem mean_part {lo hi : Int} (e : (sumR lo hi 0).2 = 0) : partR (sumR lo hi 0).1.1 (sumR lo hi 0).1.2 4 = meanR lo hi 0 4 ∧ (meanR lo hi 0 4).2 = 0 := by
  unfold sumR at *
  rw [if_pos rfl] at *
  have t := Sp.told_ok e
  rw [t.1]
  have v := Sp.vld_iff.1 t.2
  unfold partR meanR
  rw [if_pos (show Sp.vldB lo hi = true ∧ (1 : Int) ≤ 4 ∧ (4 : Int) ≤ 1099511627776 from ⟨t.2, by decide, by decide⟩), if_pos rfl, if_neg (show ¬ (4 : Nat) = 0 by decide)]
  refine ⟨rfl, ?_⟩
  have w : Sp.vldB (Sp.fl lo ((4 : Nat) : Int)) (Sp.ce hi ((4 : Nat) : Int)) = true := by
    rw [Sp.vld_iff]
    unfold Sp.ce
    rw [Sp.fl_pos (by decide), Sp.fl_pos (by decide)]
    omega
  rw [Sp.told_yes w]

end Go.Proofs.Ythpjjpfflpjpdab
