/-
  The contracts of sizes, Scale and Part in the program, and of product, Scale and Part in the document's answer.
-/
import Derived.Test.YtlegalibjkeccaaMulRef
import Derived.StillTailTactics
namespace Go.Proofs.Ytlegalibjkeccaa
open Go.ChangeShapes Go.WideShapes Go.RowKit
attribute [local go_sem 1000000] run_min_mn run_max_mx
theorem run_max3 (P : Program) (w : World) (ts : Array TypeId) (t : TypeId) (x y z : Int) : (Builtin.max_ ts t #[.int .i64 x, .int .i64 y, .int .i64 z]).run P w = .ok (.int .i64 (Sp.mx (Sp.mx x y) z)) w := by
  unfold Sp.mx; simp [Builtin.max_, Builtin.max2]
attribute [local go_sem high] run_max3
/-- the product, or a number beyond the greatest fixed point number -/
def prodR (n m : Int) : Int := if -1099511627776 ≤ n * m ∧ n * m ≤ 1099511627776 then n * m else if (n < 0 ∧ 0 ≤ m ∨ 0 ≤ n ∧ m < 0) then -1099511627777 else 1099511627777
set_option maxRecDepth 100000 in
theorem sizes_any (lo hi : Int) (w : World) (h1 : -1099511627776 ≤ lo) (h2 : lo ≤ 1099511627776) (h3 : -1099511627776 ≤ hi) (h4 : hi ≤ 1099511627776) :
    Calls Try.prog 80 #[spv lo hi] w fun e w' => e = .returned (.tuple #[.int .i64 (Sp.mx (Sp.mx 0 lo) (-hi)), .int .i64 (Sp.mx (-lo) hi)]) ∧ Below w.heap.size w w' := by
  have V0 : IntKind.i64.wrap (-lo) = -lo := IntWalk.i64_in _ (by omega)
  have V1 : IntKind.i64.wrap (-hi) = -hi := IntWalk.i64_in _ (by omega)
  go_enter Try.func80, Try.ntmps80
  go_wp2
  go_quiet (fail)
  go_wp2
  go_ret2
  exact ⟨rfl, by (repeat' (first | exact Below.refl _ _ | refine Below.setCell ?_ (by simp <;> omega) _ | refine balloc ?_ _ | refine Below.drew ?_ | refine bdrewN ?_ _))⟩
end Go.Proofs.Ytlegalibjkeccaa
