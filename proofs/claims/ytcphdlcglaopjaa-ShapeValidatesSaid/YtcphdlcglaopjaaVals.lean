/-
  The law ShapeValidates: for every mesh it answers true.
-/
import Derived.Test.YtcphdlcglaopjaaValsW
import Derived.Test.YtcphdlcglaopjaaRAny
namespace Go.Proofs.Ytcphdlcglaopjaa
open Go.ChangeShapes Go.WideShapes Go.RowKit
open Sh
theorem vals_walk (a : Option Addr) (np c : Nat) (P : Nat → P3) (a' : Option Addr) (nf c' : Nat) (F : Nat → P3) (w : World) (l : np ≤ maxLen) (k : nf ≤ maxLen) (rp : Lst w a np P) (rf : Lst w a' nf F) :
    Calls Try.prog 3 #[msv a np c a' nf c'] w fun e w' => e = .returned (.bool true) ∧ Below w.heap.size w w' := by
  unfold maxLen at l k
  have L := fun W => long_any a np c a' nf c' W (by omega) (by omega)
  by_cases g : 200 < np ∨ 300 < nf
  · rw [decide_eq_true g] at L
    exact vals_long a np c a' nf c' w (Lib.hid L) (Lib.hid fun W => known_any2 W)
  · rw [decide_eq_false g] at L
    exact vals_walk0 a np c a' nf c' (Tr P F) _ _ _ _ w (Lib.hid L)
      (Lib.hid fun W B => (spans_any a np c a' nf c' P F W (lst_below rp B) (lst_below rf B) (by omega) (by omega)).mono fun _ _ h => pansN_of h)
      (Lib.hid fun W B => (rpans_any a np c a' nf c' P F W (lst_below rp B) (lst_below rf B) (by omega) (by omega)).mono fun _ _ h => pansN_of h)
      (Lib.hid fun W B => sbox_any a np c a' nf c' P F W (lst_below rp B) (lst_below rf B) (by omega) (by omega))
      (Lib.hid fun W B => rbox_any a np c a' nf c' P F W (lst_below rp B) (lst_below rf B) (by omega) (by omega))
      (Lib.hid fun W B => val_any a np c a' nf c' P F W (lst_below rp B) (lst_below rf B) (by omega) (by omega))
      (Lib.hid fun W B => rval_any a np c a' nf c' P F W (lst_below rp B) (lst_below rf B) (by omega) (by omega))
      (Lib.hid fun W => known_any2 W) (by split <;> omega)

end Go.Proofs.Ytcphdlcglaopjaa
