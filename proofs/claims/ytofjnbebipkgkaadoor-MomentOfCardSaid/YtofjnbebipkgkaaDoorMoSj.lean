/-
  The contract of the document's Shift for moments, and what both Shifts answer.
-/
import Derived.Test.YtofjnbebipkgkaaDoorMoSi
namespace Go.Proofs.YtofjnbebipkgkaaDoor
open Go.ChangeShapes Go.WideShapes Go.RowKit
open Sh
theorem shR_bad {m : Mo} {t : P3} (h : mokB m = false) : shR m t = (mzero, 1) := by unfold shR; rw [h]; rfl
theorem shR_far {m : Mo} {t : P3} (h : inP 128 t = false) : shR m t = (mzero, 1) := by unfold shR; rw [h, Bool.and_false]; rfl
theorem shR_ok {m : Mo} {t : P3} (h : mokB m = true) (k : inP 128 t = true) : shR m t = (mtold (mshift m t), mlarge (mshift m t)) := by unfold shR; rw [h, k]; rfl
theorem mshf_any (m : Mo) (t : P3) (w : World) (pl : Plc w) : Calls Tryd.prog 9 #[mov m, ptv t] w fun e w' => e = .returned (mor (shR m t)) ∧ Below w.heap.size w w' := by
  cases h : mokB m with
  | false => rw [shR_bad h]; exact mshf_bad m t w h
  | true =>
    cases k : inP 128 t with
    | false => rw [shR_far k]; exact mshf_far m t w h k
    | true => rw [shR_ok h k]; exact mshf_row m t w pl h k
end Go.Proofs.YtofjnbebipkgkaaDoor
