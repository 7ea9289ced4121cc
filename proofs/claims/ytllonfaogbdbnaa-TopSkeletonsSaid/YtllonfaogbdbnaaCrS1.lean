/-
  The contract of OnesCount at small numbers.
-/
import Derived.Test.YtllonfaogbdbnaaCrMinors
import Derived.Laws.Bits64b
import Derived.Laws.BitsAllLaws
namespace Go.Proofs.Ytllonfaogbdbnaa
open Go.ChangeShapes Go.WideShapes Go.RowKit
open Cr
/-- the numbers below n whose bits are in the mask -/
def bitsL (n mask : Nat) : List Nat := (List.range n).filter fun i => mask / 2 ^ i % 2 == 1
theorem oc64_any (x : Nat) (w : World) (hx : x < 64) : Calls Try.prog 115 #[.int .u64 (x : Int)] w fun e w' => e = .returned (.int .i64 ((bitsL 6 x).length : Int)) ∧ w = w' := by
  have x0 : 0 ≤ (x : Int) := by omega
  have x1 : (x : Int) < 64 := by omega
  obtain ⟨rr, hr⟩ : ∃ rr : Int, ((bitsL 6 x).length : Int) = rr := ⟨_, rfl⟩
  rw [hr]
  go_enter Try.func115, Try.ntmps115
  go_wp2
  go_ret
  refine ⟨congrArg Ending.returned (congrArg (Value.int .i64) ?_), rfl⟩
  subst hr
  clear x0 x1
  revert hx
  revert x
  decide +kernel
theorem oc_any (x : Nat) (w : World) (hx : x < 64) : Calls Try.prog 111 #[.int .u64 (x : Int)] w fun e w' => e = .returned (.int .i64 ((bitsL 6 x).length : Int)) ∧ w = w' := by
  have O := Lib.hid (fun W => oc64_any x W hx)
  have x0 : 0 ≤ (x : Int) := by omega
  have x1 : (x : Int) < 64 := by omega
  generalize ((bitsL 6 x).length : Int) = rr at *
  go_enter Try.func111, Try.ntmps111
  go_wp2_with fail
  with_reducible refine (O.out _).mono ?_
  rintro e w2 ⟨rfl, rfl⟩
  go_wp2_with fail
  go_ret
  exact ⟨rfl, rfl⟩

end Go.Proofs.Ytllonfaogbdbnaa
