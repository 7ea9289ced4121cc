/-
  The contracts of Mirror, and of the document's Turn and Mirror.
-/
import Derived.Test.YtfpenkgkcjpknaaRMoves
import Derived.Test.YtfpenkgkcjpknaaTurnNum
import Derived.Test.YtfpenkgkcjpknaaMovesW
namespace Go.Proofs.Ytfpenkgkcjpknaa
open Go.ChangeShapes Go.WideShapes Go.RowKit
open Sh
theorem rt_alloc {w W : World} {R T base g np gc nf fc : Nat} {fa : Option Addr} {f F : Nat → P3} (h : RT w W R T base g np gc nf fc fa f F) (o : Obj) : RT w (W.alloc o) R T base g np gc nf fc fa f F := rt_below h ((Below.refl _ _).alloc (Nat.le_refl _) _)
/-- what a round of the loop over the faces has -/
def RF (w W : World) (R T base g nf fc np gc : Nat) (ga : Option Addr) (f P : Nat → P3) : Prop :=
  Row3W W g nf f ∧ OwnMs W T (.slice ga np gc) (.slice (some ⟨g, 0, none⟩) nf fc) ∧ OwnMs W R (.slice none 0 0) (.slice none 0 0) ∧ LstW W base ga np P ∧ Below w.heap.size w W
theorem rf_below {w W W' : World} {R T base g nf fc np gc : Nat} {ga : Option Addr} {f P : Nat → P3} (h : RF w W R T base g nf fc np gc ga f P) (hb : Below W.heap.size W W') : RF w W' R T base g nf fc np gc ga f P :=
  ⟨row3w_below h.1 hb, ownMs_below h.2.1 hb, ownMs_below h.2.2.1 hb, lstw_below h.2.2.2.1 hb, bstep h.2.2.2.2 hb⟩
theorem rf_alloc {w W : World} {R T base g nf fc np gc : Nat} {ga : Option Addr} {f P : Nat → P3} (h : RF w W R T base g nf fc np gc ga f P) (o : Obj) : RF w (W.alloc o) R T base g nf fc np gc ga f P := rf_below h ((Below.refl _ _).alloc (Nat.le_refl _) _)
theorem rf_put {w W : World} {R T base g nf fc np gc : Nat} {ga : Option Addr} {f P : Nat → P3} (h : RF w W R T base g nf fc np gc ga f P) {i : Nat} (hi : i < nf) (q : P3) (n1 : g ≠ T) (n2 : g ≠ R) (n3 : w.heap.size ≤ g) (n4 : 0 < np → ∀ b', ga = some b' → b'.block ≠ g) {f' : Nat → P3} (hf : ∀ k, (if k = i then q else f k) = f' k) :
    RF w (((W.setCell ⟨g, i * 3, none⟩ (.int .i64 q.1)).setCell ⟨g, i * 3 + 1, none⟩ (.int .i64 q.2.1)).setCell ⟨g, i * 3 + 2, none⟩ (.int .i64 q.2.2)) R T base g nf fc np gc ga f' P :=
  ⟨row3w_eq (row3w_put h.1 hi q) (fun k _ => hf k), ownMs_sets h.2.1 n1, ownMs_sets h.2.2.1 n2, fun h0 => by
    obtain ⟨x, e, l, r⟩ := h.2.2.2.1 h0
    have ne := n4 h0 _ e
    exact ⟨x, e, l, row3w_set (row3w_set (row3w_set r (fun z => ne z.symm)) (fun z => ne z.symm)) (fun z => ne z.symm)⟩, below_sets h.2.2.2.2 n3⟩

end Go.Proofs.Ytfpenkgkcjpknaa
