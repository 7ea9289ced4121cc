/-
  The regions of quarters, by name.
-/
import Derived.Test.YtlegalibjkeccaaFiQ0
namespace Go.Proofs.Ytlegalibjkeccaa
open Go.ChangeShapes Go.WideShapes Go.RowKit
open Sh
/-- the two regions that draw their order, and what follows them -/
def regA : Option Code → Array Oper
  | some (.seq _ (.seq (.region _ o _) _)) => o
  | _ => #[]
def regB : Option Code → Array Oper
  | some (.seq _ (.seq _ (.seq (.region _ o _) _))) => o
  | _ => #[]
def regR : Option Code → Code
  | some (.seq _ (.seq _ (.seq _ r))) => r
  | _ => .ret

end Go.Proofs.Ytlegalibjkeccaa
