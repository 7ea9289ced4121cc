/-
  The contract of field.Potential.
-/
import Derived.Test.YtjigcgpcglfjfaaGreatFgMe
import Derived.Test.YtjigcgpcglfjfaaGreatSoMc
import Derived.Test.YtjigcgpcglfjfaaGreatMoM
namespace Go.Proofs.YtjigcgpcglfjfaaGreat
open Go.ChangeShapes Go.WideShapes Go.RowKit
open Sh
/-- what a charged panel gives -/
def potC (x : P3) (D : Int) (q : Ch) : Sp.R := if (meF false q.1 x D).2 = 0 then scaleR (meF false q.1 x D).1.1 (meF false q.1 x D).1.2 q.2 else ((0, 0), (meF false q.1 x D).2)
def potF (n : Nat) (Q : Nat → Ch) (x : P3) (D : Int) : Sp.R := if ccode n Q = 0 then (if akc x D = 0 then sceR (fun k => potC x D (Q k)) n else ((0, 0), akc x D)) else ((0, 0), ccode n Q)
/-- a charged panel in a block of its own -/
def BoxC (w : World) (g : Nat) (q : Ch) : Prop := (w.cell? ⟨g, 0, none⟩ = some (.int .i64 q.1.1.1) ∧ w.cell? ⟨g, 1, none⟩ = some (.int .i64 q.1.1.2.1) ∧ w.cell? ⟨g, 2, none⟩ = some (.int .i64 q.1.1.2.2) ∧ w.cell? ⟨g, 3, none⟩ = some (.int .i64 q.1.2.1.1) ∧ w.cell? ⟨g, 4, none⟩ = some (.int .i64 q.1.2.1.2.1) ∧ w.cell? ⟨g, 5, none⟩ = some (.int .i64 q.1.2.1.2.2) ∧ w.cell? ⟨g, 6, none⟩ = some (.int .i64 q.1.2.2.1) ∧ w.cell? ⟨g, 7, none⟩ = some (.int .i64 q.1.2.2.2.1) ∧ w.cell? ⟨g, 8, none⟩ = some (.int .i64 q.1.2.2.2.2) ∧ w.cell? ⟨g, 9, none⟩ = some (.int .i64 q.2)) ∧ g < w.heap.size
theorem boxC_new (w : World) (q : Ch) (t : TypeId) : BoxC (w.alloc (chb q t)) w.heap.size q := ⟨⟨by go_simp, by go_simp, by go_simp, by go_simp, by go_simp, by go_simp, by go_simp, by go_simp, by go_simp, by go_simp⟩, by simp⟩
theorem boxC_in {w w1 : World} {N g : Nat} {q : Ch} (h : BoxC w g q) (hb : Below N w w1) (hg : g < N) : BoxC w1 g q := by
  obtain ⟨⟨c0, c1, c2, c3, c4, c5, c6, c7, c8, c9⟩, l⟩ := h
  exact ⟨⟨(hb.cell (p := ⟨g, 0, none⟩) hg).trans c0, (hb.cell (p := ⟨g, 1, none⟩) hg).trans c1, (hb.cell (p := ⟨g, 2, none⟩) hg).trans c2, (hb.cell (p := ⟨g, 3, none⟩) hg).trans c3, (hb.cell (p := ⟨g, 4, none⟩) hg).trans c4, (hb.cell (p := ⟨g, 5, none⟩) hg).trans c5, (hb.cell (p := ⟨g, 6, none⟩) hg).trans c6, (hb.cell (p := ⟨g, 7, none⟩) hg).trans c7, (hb.cell (p := ⟨g, 8, none⟩) hg).trans c8, (hb.cell (p := ⟨g, 9, none⟩) hg).trans c9⟩, Nat.lt_of_lt_of_le l hb.size⟩
theorem boxC_below {w w1 : World} {g : Nat} {q : Ch} (h : BoxC w g q) (hb : Below w.heap.size w w1) : BoxC w1 g q := boxC_in h hb h.2
theorem boxC_alloc {w : World} {g : Nat} {q : Ch} (h : BoxC w g q) (o : Obj) : BoxC (w.alloc o) g q := boxC_below h ((Below.refl _ _).alloc (Nat.le_refl _) _)
/-- a point and a number in memory: what the closure takes along -/
def CapX (w : World) (bx bd : Nat) (x : P3) (D : Int) : Prop := Own w bx x ∧ w.cell? ⟨bd, 0, none⟩ = some (.int .i64 D) ∧ bd < w.heap.size
theorem capX_in {w w1 : World} {N bx bd : Nat} {x : P3} {D : Int} (h : CapX w bx bd x D) (hb : Below N w w1) (h1 : bx < N) (h2 : bd < N) : CapX w1 bx bd x D :=
  ⟨own_in' h.1 hb h1, (hb.cell (p := ⟨bd, 0, none⟩) h2).trans h.2.1, Nat.lt_of_lt_of_le h.2.2 hb.size⟩
theorem capX_below {w w1 : World} {bx bd : Nat} {x : P3} {D : Int} (h : CapX w bx bd x D) (hb : Below w.heap.size w w1) : CapX w1 bx bd x D := capX_in h hb h.1.2.2.2.2.2.2 h.2.2
end Go.Proofs.YtjigcgpcglfjfaaGreat
