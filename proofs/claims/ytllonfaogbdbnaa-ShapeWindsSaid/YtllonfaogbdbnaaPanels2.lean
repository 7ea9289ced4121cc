/-
  The contracts of Panels, in the program and in the document's answer, and of samePanels.
-/
import Derived.Test.YtllonfaogbdbnaaRVol
import Derived.Test.YtllonfaogbdbnaaValidate
namespace Go.Proofs.Ytllonfaogbdbnaa
open Go.ChangeShapes Go.WideShapes Go.RowKit
open Sh
/-- n panels at the head of a block; of none nothing is known -/
def Lst9 (w : World) (a : Option Addr) (n : Nat) (T : Nat → P3 × P3 × P3) : Prop := 0 < n → ∃ g, a = some ⟨g, 0, none⟩ ∧ Row9 w g n T
theorem lst9_below {w w1 : World} {a : Option Addr} {n : Nat} {T : Nat → P3 × P3 × P3} (h : Lst9 w a n T) (hb : Below w.heap.size w w1) : Lst9 w1 a n T := fun h0 => by
  obtain ⟨g, e, r⟩ := h h0
  exact ⟨g, e, row9_below r hb⟩
/-- what Panels answers -/
def Pans (T : Nat → P3 × P3 × P3) (nf : Nat) (code : Int) (w : World) (e : Ending) (w' : World) : Prop :=
  ∃ a n cap, e = .returned (.tuple #[.slice a n cap, .int .i64 code]) ∧ n = (if code = 0 then nf else 0) ∧ Lst9 w' a n T ∧ Below w.heap.size w w'
theorem int_ne0 {x : Int} (h : x ≠ 0) : (x != 0) = true := bne_iff_ne.2 h
end Go.Proofs.Ytllonfaogbdbnaa
