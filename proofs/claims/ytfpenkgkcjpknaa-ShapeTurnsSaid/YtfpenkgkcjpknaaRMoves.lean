/-
  The contracts of the document's Move and Scale.
-/
import Derived.Test.YtfpenkgkcjpknaaCopy0
import Derived.Test.YtfpenkgkcjpknaaMoves0
import Derived.Deep.RegionWith
namespace Go.Proofs.Ytfpenkgkcjpknaa
open Go.ChangeShapes Go.WideShapes Go.RowKit
open Sh
/-- what a round of the loop has: the points, the mesh that is made, the result, the faces -/
def RS (w W : World) (R T Vb base g np gc nf fc : Nat) (fa : Option Addr) (v : P3) (f F : Nat → P3) : Prop :=
  Row3W W g np f ∧ OwnMs W T (.slice (some ⟨g, 0, none⟩) np gc) (.slice fa nf fc) ∧ OwnMs W R (.slice none 0 0) (.slice none 0 0) ∧ LstW W base fa nf F ∧ Below w.heap.size w W ∧ Own W Vb v
theorem rs_below {w W : World} {R T Vb base g np gc nf fc : Nat} {fa : Option Addr} {v : P3} {f F : Nat → P3} {W' : World} (h : RS w W R T Vb base g np gc nf fc fa v f F) (hb : Below W.heap.size W W') : RS w W' R T Vb base g np gc nf fc fa v f F :=
  ⟨row3w_below h.1 hb, ownMs_below h.2.1 hb, ownMs_below h.2.2.1 hb, lstw_below h.2.2.2.1 hb, bstep h.2.2.2.2.1 hb, own_below h.2.2.2.2.2 hb⟩
theorem rs_drew {w W : World} {R T Vb base g np gc nf fc : Nat} {fa : Option Addr} {v : P3} {f F : Nat → P3} (h : RS w W R T Vb base g np gc nf fc fa v f F) : RS w W.drew R T Vb base g np gc nf fc fa v f F := ⟨h.1, h.2.1, h.2.2.1, h.2.2.2.1, Below.drew h.2.2.2.2.1, h.2.2.2.2.2⟩
theorem rs_put {w W : World} {R T Vb base g np gc nf fc : Nat} {fa : Option Addr} {v : P3} {f F : Nat → P3} (h : RS w W R T Vb base g np gc nf fc fa v f F) {i : Nat} (hi : i < np) (q : P3) (n1 : g ≠ T) (n2 : g ≠ R) (n3 : w.heap.size ≤ g) (n4 : 0 < nf → ∀ b', fa = some b' → b'.block ≠ g) (n5 : Vb ≠ g) {f' : Nat → P3} (hf : ∀ k, (if k = i then q else f k) = f' k) :
    RS w (((W.setCell ⟨g, i * 3, none⟩ (.int .i64 q.1)).setCell ⟨g, i * 3 + 1, none⟩ (.int .i64 q.2.1)).setCell ⟨g, i * 3 + 2, none⟩ (.int .i64 q.2.2)) R T Vb base g np gc nf fc fa v f' F :=
  ⟨row3w_eq (row3w_put h.1 hi q) (fun k _ => hf k), ownMs_sets h.2.1 n1, ownMs_sets h.2.2.1 n2, fun h0 => by
    obtain ⟨x, e, l, r⟩ := h.2.2.2.1 h0
    have ne := n4 h0 _ e
    exact ⟨x, e, l, row3w_set (row3w_set (row3w_set r (fun z => ne z.symm)) (fun z => ne z.symm)) (fun z => ne z.symm)⟩, below_sets h.2.2.2.2.1 n3, own_set (own_set (own_set h.2.2.2.2.2 n5) n5) n5⟩
/-- what a round of the loop has: the points, the mesh that is made, the result, the faces -/
def RT (w W : World) (R T base g np gc nf fc : Nat) (fa : Option Addr) (f F : Nat → P3) : Prop :=
  Row3W W g np f ∧ OwnMs W T (.slice (some ⟨g, 0, none⟩) np gc) (.slice fa nf fc) ∧ OwnMs W R (.slice none 0 0) (.slice none 0 0) ∧ LstW W base fa nf F ∧ Below w.heap.size w W
theorem rt_below {w W : World} {R T base g np gc nf fc : Nat} {fa : Option Addr} {f F : Nat → P3} {W' : World} (h : RT w W R T base g np gc nf fc fa f F) (hb : Below W.heap.size W W') : RT w W' R T base g np gc nf fc fa f F :=
  ⟨row3w_below h.1 hb, ownMs_below h.2.1 hb, ownMs_below h.2.2.1 hb, lstw_below h.2.2.2.1 hb, bstep h.2.2.2.2 hb⟩
theorem rt_drew {w W : World} {R T base g np gc nf fc : Nat} {fa : Option Addr} {f F : Nat → P3} (h : RT w W R T base g np gc nf fc fa f F) : RT w W.drew R T base g np gc nf fc fa f F := ⟨h.1, h.2.1, h.2.2.1, h.2.2.2.1, Below.drew h.2.2.2.2⟩
theorem rt_put {w W : World} {R T base g np gc nf fc : Nat} {fa : Option Addr} {f F : Nat → P3} (h : RT w W R T base g np gc nf fc fa f F) {i : Nat} (hi : i < np) (q : P3) (n1 : g ≠ T) (n2 : g ≠ R) (n3 : w.heap.size ≤ g) (n4 : 0 < nf → ∀ b', fa = some b' → b'.block ≠ g) {f' : Nat → P3} (hf : ∀ k, (if k = i then q else f k) = f' k) :
    RT w (((W.setCell ⟨g, i * 3, none⟩ (.int .i64 q.1)).setCell ⟨g, i * 3 + 1, none⟩ (.int .i64 q.2.1)).setCell ⟨g, i * 3 + 2, none⟩ (.int .i64 q.2.2)) R T base g np gc nf fc fa f' F :=
  ⟨row3w_eq (row3w_put h.1 hi q) (fun k _ => hf k), ownMs_sets h.2.1 n1, ownMs_sets h.2.2.1 n2, fun h0 => by
    obtain ⟨x, e, l, r⟩ := h.2.2.2.1 h0
    have ne := n4 h0 _ e
    exact ⟨x, e, l, row3w_set (row3w_set (row3w_set r (fun z => ne z.symm)) (fun z => ne z.symm)) (fun z => ne z.symm)⟩, below_sets h.2.2.2.2 n3⟩
end Go.Proofs.Ytfpenkgkcjpknaa
