/-
  The contracts of sizes, Scale and Part in the program, and of product, Scale and Part in the document's answer.
-/
import Derived.Test.YtjflgiegnibgmaaMulRef
import Derived.StillTailTactics
namespace Go.Proofs.Ytjflgiegnibgmaa
open Go.ChangeShapes Go.WideShapes Go.RowKit
attribute [local go_sem 1000000] run_min_mn run_max_mx
theorem run_max3 (P : Program) (w : World) (ts : Array TypeId) (t : TypeId) (x y z : Int) : (Builtin.max_ ts t #[.int .i64 x, .int .i64 y, .int .i64 z]).run P w = .ok (.int .i64 (Sp.mx (Sp.mx x y) z)) w := by
  unfold Sp.mx; simp [Builtin.max_, Builtin.max2]
attribute [local go_sem high] run_max3
/-- the product, or a number beyond the greatest fixed point number -/
def prodR (n m : Int) : Int := if -1099511627776 ≤ n * m ∧ n * m ≤ 1099511627776 then n * m else if (n < 0 ∧ 0 ≤ m ∨ 0 ≤ n ∧ m < 0) then -1099511627777 else 1099511627777
end Go.Proofs.Ytjflgiegnibgmaa
