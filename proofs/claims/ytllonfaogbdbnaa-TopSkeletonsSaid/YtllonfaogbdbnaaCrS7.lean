/-
  The contract of volume, the document's answer.
-/
import Derived.Test.YtllonfaogbdbnaaCrS6
import Derived.BigQuiet
namespace Go.Proofs.Ytllonfaogbdbnaa
open Go.ChangeShapes Go.WideShapes Go.RowKit
open Cr
def VS (w : World) (x0 y0 : Nat) (A0 : Option Addr) (m c0 : Nat) (w1 : World) : Prop := w1.cell? ⟨x0, y0, none⟩ = some (.slice A0 m c0) ∧ Below w.heap.size w w1 ∧ x0 < w1.heap.size
theorem vs_s {w : World} {x0 y0 : Nat} {A0 : Option Addr} {m c0 : Nat} {w1 : World} (h : VS w x0 y0 A0 m c0 w1) : w1.cell? ⟨x0, y0, none⟩ = some (.slice A0 m c0) ∧ Below w.heap.size w w1 ∧ x0 < w1.heap.size := h
theorem vs_of {w : World} {x0 y0 : Nat} {A0 : Option Addr} {m c0 : Nat} {w1 : World} (h : w1.cell? ⟨x0, y0, none⟩ = some (.slice A0 m c0) ∧ Below w.heap.size w w1 ∧ x0 < w1.heap.size) : VS w x0 y0 A0 m c0 w1 := h
theorem vs_drew {w : World} {x0 y0 : Nat} {A0 : Option Addr} {m c0 : Nat} {w1 : World} (h : VS w x0 y0 A0 m c0 w1) : VS w x0 y0 A0 m c0 w1.drew := by
  obtain ⟨h0, hB, b0⟩ := h
  exact ⟨h0, Below.drew hB, b0⟩
theorem vs_drewN {w : World} {x0 y0 : Nat} {A0 : Option Addr} {m c0 : Nat} {w1 : World} (h : VS w x0 y0 A0 m c0 w1) (kk : Nat) : VS w x0 y0 A0 m c0 (w1.drewN kk) := by
  obtain ⟨h0, hB, b0⟩ := h
  exact ⟨h0, bdrewN hB kk, b0⟩
theorem vs_bel {w : World} {x0 y0 : Nat} {A0 : Option Addr} {m c0 : Nat} {w1 : World} (h : VS w x0 y0 A0 m c0 w1) : Below w.heap.size w w1 := by
  obtain ⟨h0, hB, b0⟩ := h
  exact hB
theorem vs_below {w : World} {x0 y0 : Nat} {A0 : Option Addr} {m c0 : Nat} {w1 w2 : World} (h : VS w x0 y0 A0 m c0 w1) (hb : Below w1.heap.size w1 w2) : VS w x0 y0 A0 m c0 w2 := by
  obtain ⟨h0, hB, b0⟩ := h
  exact ⟨(hb.cell (p := ⟨x0, y0, none⟩) b0).trans h0, bstep hB hb, Nat.lt_of_lt_of_le b0 hb.size⟩
def VT (w : World) (x1 y1 : Nat) (R : Option Addr) (cr x3 y3 : Nat) (E : Option Addr) (ce q : Nat) (w1 : World) : Prop := w1.cell? ⟨x1, y1, none⟩ = some (.slice R q cr) ∧ w1.cell? ⟨x3, y3, none⟩ = some (.slice E q ce) ∧ Below w.heap.size w w1 ∧ x1 < w1.heap.size ∧ x3 < w1.heap.size
theorem vt_s {w : World} {x1 y1 : Nat} {R : Option Addr} {cr x3 y3 : Nat} {E : Option Addr} {ce q : Nat} {w1 : World} (h : VT w x1 y1 R cr x3 y3 E ce q w1) : w1.cell? ⟨x1, y1, none⟩ = some (.slice R q cr) ∧ w1.cell? ⟨x3, y3, none⟩ = some (.slice E q ce) ∧ Below w.heap.size w w1 ∧ x1 < w1.heap.size ∧ x3 < w1.heap.size := h
theorem vt_of {w : World} {x1 y1 : Nat} {R : Option Addr} {cr x3 y3 : Nat} {E : Option Addr} {ce q : Nat} {w1 : World} (h : w1.cell? ⟨x1, y1, none⟩ = some (.slice R q cr) ∧ w1.cell? ⟨x3, y3, none⟩ = some (.slice E q ce) ∧ Below w.heap.size w w1 ∧ x1 < w1.heap.size ∧ x3 < w1.heap.size) : VT w x1 y1 R cr x3 y3 E ce q w1 := h
theorem vt_drew {w : World} {x1 y1 : Nat} {R : Option Addr} {cr x3 y3 : Nat} {E : Option Addr} {ce q : Nat} {w1 : World} (h : VT w x1 y1 R cr x3 y3 E ce q w1) : VT w x1 y1 R cr x3 y3 E ce q w1.drew := by
  obtain ⟨h0, h1, hB, b0, b1⟩ := h
  exact ⟨h0, h1, Below.drew hB, b0, b1⟩
theorem vt_drewN {w : World} {x1 y1 : Nat} {R : Option Addr} {cr x3 y3 : Nat} {E : Option Addr} {ce q : Nat} {w1 : World} (h : VT w x1 y1 R cr x3 y3 E ce q w1) (kk : Nat) : VT w x1 y1 R cr x3 y3 E ce q (w1.drewN kk) := by
  obtain ⟨h0, h1, hB, b0, b1⟩ := h
  exact ⟨h0, h1, bdrewN hB kk, b0, b1⟩
theorem vt_bel {w : World} {x1 y1 : Nat} {R : Option Addr} {cr x3 y3 : Nat} {E : Option Addr} {ce q : Nat} {w1 : World} (h : VT w x1 y1 R cr x3 y3 E ce q w1) : Below w.heap.size w w1 := by
  obtain ⟨h0, h1, hB, b0, b1⟩ := h
  exact hB
theorem vt_below {w : World} {x1 y1 : Nat} {R : Option Addr} {cr x3 y3 : Nat} {E : Option Addr} {ce q : Nat} {w1 w2 : World} (h : VT w x1 y1 R cr x3 y3 E ce q w1) (hb : Below w1.heap.size w1 w2) : VT w x1 y1 R cr x3 y3 E ce q w2 := by
  obtain ⟨h0, h1, hB, b0, b1⟩ := h
  exact ⟨(hb.cell (p := ⟨x1, y1, none⟩) b0).trans h0, (hb.cell (p := ⟨x3, y3, none⟩) b1).trans h1, bstep hB hb, Nat.lt_of_lt_of_le b0 hb.size, Nat.lt_of_lt_of_le b1 hb.size⟩
end Go.Proofs.Ytllonfaogbdbnaa
