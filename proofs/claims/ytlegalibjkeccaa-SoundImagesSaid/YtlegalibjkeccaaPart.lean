/-
  The contracts of Part and Scale, in the program and in the document's answer.
-/
import Derived.Test.YtlegalibjkeccaaScale
import Derived.Deep.RegionHeld3
namespace Go.Proofs.Ytlegalibjkeccaa
open Go.ChangeShapes Go.WideShapes Go.RowKit
attribute [local go_sem 1000000] run_min_mn run_max_mx
theorem pair_drew {w : World} {b : Nat} {x y : Int} (h : Pair w b x y) : Pair w.drew b x y := h
/-- the span of the quotients by n -/
def partR (lo hi n : Int) : Sp.R := if Sp.vldB lo hi = true ∧ 1 ≤ n ∧ n ≤ 1099511627776 then Sp.told (Sp.fl lo n) (Sp.ce hi n) else ((0, 0), 1)
/-- the span of the products with n -/
def scaleR (lo hi n : Int) : Sp.R := if Sp.vldB lo hi = true ∧ -1099511627776 ≤ n ∧ n ≤ 1099511627776 then Sp.told (Sp.mn (lo * n) (hi * n)) (Sp.mx (lo * n) (hi * n)) else ((0, 0), 1)
end Go.Proofs.Ytlegalibjkeccaa
