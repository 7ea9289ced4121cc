/-
  The contracts of the document's Scale for moments, and what both Scales answer.
-/
import Derived.Test.YtjflgiegnibgmaaDoorMoSc
namespace Go.Proofs.YtjflgiegnibgmaaDoor
open Go.ChangeShapes Go.WideShapes Go.RowKit
open Sh
theorem scR_bad {k : Int} {m : Mo} (h : mokB m = false) : scR k m = (mzero, 1) := by unfold scR; rw [h]; rfl
theorem scR_far {k : Int} {m : Mo} (h : rngB k 1 128 = false) : scR k m = (mzero, 1) := by unfold scR; rw [h, Bool.and_false]; rfl
theorem scR_ok {k : Int} {m : Mo} (h : mokB m = true) (l : rngB k 1 128 = true) : scR k m = (mtold (mscale k m), mlarge (mscale k m)) := by unfold scR; rw [h, l]; rfl
theorem msc_any (m : Mo) (k : Int) (w : World) : Calls Tryd.prog 17 #[mov m, .int .i64 k] w fun e w' => e = .returned (mor (scR k m)) ∧ Below w.heap.size w w' := by
  cases h : mokB m with
  | false => rw [scR_bad h]; exact msc_bad m k w h
  | true =>
    cases l : rngB k 1 128 with
    | false => rw [scR_far l]; exact msc_far m k w h l
    | true => rw [scR_ok h l]; exact msc_row m k w h l
end Go.Proofs.YtjflgiegnibgmaaDoor
