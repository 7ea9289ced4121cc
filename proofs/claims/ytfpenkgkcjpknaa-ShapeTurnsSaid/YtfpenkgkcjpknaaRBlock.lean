/-
  The contract of the document's Block.
-/
import Derived.Test.YtfpenkgkcjpknaaMakes0
import Derived.Outline
namespace Go.Proofs.Ytfpenkgkcjpknaa
open Go.ChangeShapes Go.WideShapes Go.RowKit
open Sh
/-- the call's own mesh, whatever its slices -/
def OwnMs (w : World) (q : Nat) (v v' : Value) : Prop := w.cell? ⟨q, 0, none⟩ = some v ∧ w.cell? ⟨q, 1, none⟩ = some v' ∧ w.frozen? ⟨q, 0, none⟩ = false ∧ w.frozen? ⟨q, 1, none⟩ = false ∧ q < w.heap.size
theorem ownMs_block {w w1 : World} {q : Nat} {v v' : Value} (h : OwnMs w q v v') (e : w1.heap[q]? = w.heap[q]?) (k : w.heap.size ≤ w1.heap.size) : OwnMs w1 q v v' :=
  ⟨(World.cell?_of_block (w := w) (a := ⟨q, 0, none⟩) e).trans h.1, (World.cell?_of_block (w := w) (a := ⟨q, 1, none⟩) e).trans h.2.1, (World.frozen?_of_block (w := w) (a := ⟨q, 0, none⟩) e).trans h.2.2.1, (World.frozen?_of_block (w := w) (a := ⟨q, 1, none⟩) e).trans h.2.2.2.1, Nat.lt_of_lt_of_le h.2.2.2.2 k⟩
theorem ownMs_below {w w1 : World} {q : Nat} {v v' : Value} (h : OwnMs w q v v') (hb : Below w.heap.size w w1) : OwnMs w1 q v v' := ownMs_block h (hb.block q h.2.2.2.2) hb.size
theorem ownMs_alloc {w : World} {q : Nat} {v v' : Value} (h : OwnMs w q v v') (o : Obj) : OwnMs (w.alloc o) q v v' := ownMs_below h ((Below.refl _ _).alloc (Nat.le_refl _) _)
theorem ownMs_grown {w w1 : World} {row : Option Nat} {q : Nat} {v v' : Value} (h : OwnMs w q v v') (hg : w.grownBy w1 row) (hr : row ≠ some q) : OwnMs w1 q v v' := ownMs_block h (hg.block q h.2.2.2.2 (fun e => hr e.symm)) hg.size
theorem ownMs_new (w : World) (v v' : Value) (t : TypeId) : OwnMs (w.alloc (.cells #[v, v'] t)) w.heap.size v v' := ⟨by go_simp, by go_simp, by go_simp, by go_simp, by simp⟩
theorem ownMs_put0 {w : World} {q : Nat} {v v' : Value} (h : OwnMs w q v v') (u : Value) : OwnMs (w.setCell ⟨q, 0, none⟩ u) q u v' := by
  obtain ⟨h1, h2, h3, h4, h5⟩ := h
  exact ⟨by go_simp, by go_simp, by go_simp, by go_simp, by simpa using h5⟩
theorem ownMs_put1 {w : World} {q : Nat} {v v' : Value} (h : OwnMs w q v v') (u : Value) : OwnMs (w.setCell ⟨q, 1, none⟩ u) q v u := by
  obtain ⟨h1, h2, h3, h4, h5⟩ := h
  exact ⟨by go_simp, by go_simp, by go_simp, by go_simp, by simpa using h5⟩
theorem ownMs_set {w : World} {q r o : Nat} {v v' u : Value} (h : OwnMs w q v v') (k : r ≠ q) : OwnMs (w.setCell ⟨r, o, none⟩ u) q v v' := by
  obtain ⟨h1, h2, h3, h4, h5⟩ := h
  have k1 : ¬ r = q := k
  have k2 : ¬ q = r := fun e => k e.symm
  exact ⟨by go_simp, by go_simp, by go_simp, by go_simp, by simpa using h5⟩
theorem owns_slice {w : World} {base : Nat} {e : TypeId} {size n : Nat} {v : Value} {xs : List Value} (h : w.ownsRow base e size v n xs) (h0 : 0 < n) : ∃ g cap, v = .slice (some ⟨g, 0, none⟩) n cap := by
  rcases h.2 with ⟨_, h'⟩ | ⟨g, cap, cur, rfl, _⟩
  · omega
  · exact ⟨g, cap, rfl⟩
theorem below_put1 {a w : World} {r o : Nat} {x : Value} (h : Below a.heap.size a w) (n : a.heap.size ≤ r) : Below a.heap.size a (w.setCell ⟨r, o, none⟩ x) := h.setCell n _
theorem lst_put1 {w : World} {a : Option Addr} {n : Nat} {P : Nat → P3} {r o : Nat} {x : Value} (h : Lst w a n P) (k : ∀ b, a = some b → b.block ≠ r) : Lst (w.setCell ⟨r, o, none⟩ x) a n P := fun h0 => by
  obtain ⟨b, off, e, q⟩ := h h0
  have ne := k _ e
  exact ⟨b, off, e, row3_set q (fun z => ne z.symm)⟩
end Go.Proofs.Ytfpenkgkcjpknaa
