/-
  The contract of known.
-/
import Derived.Test.YtllonfaogbdbnaaCr22
namespace Go.Proofs.Ytllonfaogbdbnaa
open Go.ChangeShapes Go.WideShapes Go.RowKit
open Cr
theorem known6_any (w : World) : Calls Try.prog 14 #[] w fun e w' => e = .returned (.bool true) ∧ Below w.heap.size w w' := by
  have KR := Lib.hid (fun W (a : Arg W (some ⟨w.heap.size + 2, 0, none⟩) [[2, 1], [1, 1]] (some ⟨w.heap.size + 3, 0, none⟩) (some ⟨w.heap.size + 4, 0, none⟩) [0] [0]) => res_any (some ⟨w.heap.size + 2, 0, none⟩) (some ⟨w.heap.size + 3, 0, none⟩) (some ⟨w.heap.size + 4, 0, none⟩) 2 1 1 [[2, 1], [1, 1]] [0] [0] 1 1 W a)
  rw [kn_res, show ([[2, 1], [1, 1]] : List (List Int)).length = 2 from rfl, show ([0] : List Int).length = 1 from rfl] at KR
  go_enter Try.func14, Try.ntmps14
  go_wp2_with fail
  with_reducible refine (KR.out _ (kn_arg w)).mono ?_
  rintro e w2 ⟨rfl, hb⟩
  have HB := Lib.hid hb
  have B0 := Lib.hid (show Below w.heap.size w (((((w.alloc (.cells #[.int .i64 2, .int .i64 1] 3)).alloc (.cells #[.int .i64 1, .int .i64 1] 3)).alloc (.cells #[.slice (some ⟨w.heap.size, 0, none⟩) 2 2, .slice (some ⟨w.heap.size + 1, 0, none⟩) 2 2] 37)).alloc (.cells #[.int .i64 0] 3)).alloc (.cells #[.int .i64 0] 3)) from balloc (balloc (balloc (balloc (balloc (Below.refl _ _) _) _) _) _) _)
  clear hb
  go_wp2_with fail
  go_ret
  exact ⟨rfl, balloc (bstep B0.out HB.out) _⟩

end Go.Proofs.Ytllonfaogbdbnaa
