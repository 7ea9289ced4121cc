/-
  The walk of CrossMinors.
-/
import Derived.Test.YtllonfaogbdbnaaCr23
namespace Go.Proofs.Ytllonfaogbdbnaa
open Go.ChangeShapes Go.WideShapes Go.RowKit
open Cr
theorem alloc_below (w : World) (o : Obj) : Below w.heap.size w (w.alloc o) := balloc (Below.refl _ _) o
/-- the two slices of a choice in the first block of the call's own -/
def CB (w : World) (R : Option Addr) (k cr : Nat) (C : Option Addr) (l cc : Nat) (w' : World) : Prop := w'.cell? ⟨w.heap.size, 0, none⟩ = some (.slice R k cr) ∧ w'.cell? ⟨w.heap.size, 1, none⟩ = some (.slice C l cc) ∧ Below w.heap.size w w' ∧ w.heap.size < w'.heap.size
theorem cb_new (w : World) (R : Option Addr) (k cr : Nat) (C : Option Addr) (l cc : Nat) : CB w R k cr C l cc (w.alloc (.cells #[.slice R k cr, .slice C l cc] 39)) := ⟨by go_simp, by go_simp, alloc_below _ _, by simp⟩
theorem cb_below {w : World} {R : Option Addr} {k cr : Nat} {C : Option Addr} {l cc : Nat} {w1 w2 : World} (h : CB w R k cr C l cc w1) (hb : Below w1.heap.size w1 w2) : CB w R k cr C l cc w2 := by
  obtain ⟨h0, h1, h2, h3⟩ := h
  exact ⟨(hb.cell (p := ⟨w.heap.size, 0, none⟩) h3).trans h0, (hb.cell (p := ⟨w.heap.size, 1, none⟩) h3).trans h1, bstep h2 hb, Nat.lt_of_lt_of_le h3 hb.size⟩
theorem cb_s {w : World} {R : Option Addr} {k cr : Nat} {C : Option Addr} {l cc : Nat} {w1 : World} (h : CB w R k cr C l cc w1) : w1.cell? ⟨w.heap.size, 0, none⟩ = some (.slice R k cr) ∧ w1.cell? ⟨w.heap.size, 1, none⟩ = some (.slice C l cc) ∧ w.heap.size < w1.heap.size := ⟨h.1, h.2.1, h.2.2.2⟩
theorem CB.bel {w : World} {R : Option Addr} {k cr : Nat} {C : Option Addr} {l cc : Nat} {w1 : World} (h : CB w R k cr C l cc w1) : Below w.heap.size w w1 := h.2.2.1
theorem arg_of {w : World} {A R C : Option Addr} {M : List (List Int)} {rows cols : List Int} (hM : ML w A M) (hR : IL w R rows) (hC : IL w C cols) (hl : longB M = false) (h1 : ¬ 40 < rows.length) (h2 : ¬ 40 < cols.length) : Arg w A M R C rows cols := by
  obtain ⟨a, b⟩ := long_no hl
  exact ⟨hM, by omega, fun i hi => by have := b i hi; omega, hR, hC, by omega, by omega⟩
end Go.Proofs.Ytllonfaogbdbnaa
