/-
  The contracts of the document's applied and Fast.
-/
import Derived.Test.YtllonfaogbdbnaaCrP4
namespace Go.Proofs.Ytllonfaogbdbnaa
open Go.ChangeShapes Go.WideShapes Go.RowKit
open Cr
/-- what applied answers -/
def apz (M : List (List Int)) (rows cols x : List Int) : Int × Int := if fcd M rows cols x = 0 then (detR M rows cols, 0) else (0, fcd M rows cols x)
theorem apz_e {M : List (List Int)} {rows cols x : List Int} {e : Int} (h : fcd M rows cols x = e) (n : e ≠ 0) : apz M rows cols x = (0, e) := by unfold apz; rw [h, if_neg n]
theorem apz_0 {M : List (List Int)} {rows cols x : List Int} (h : fcd M rows cols x = 0) : apz M rows cols x = (detR M rows cols, 0) := by unfold apz; rw [h, if_pos rfl]
def FS (w : World) (b o k : Nat) (y : Int) (w1 : World) : Prop := w1.cell? ⟨b, o + k, none⟩ = some (.int .i64 y) ∧ Below w.heap.size w w1 ∧ b < w1.heap.size
theorem fs_s {w : World} {b o k : Nat} {y : Int} {w1 : World} (h : FS w b o k y w1) : w1.cell? ⟨b, o + k, none⟩ = some (.int .i64 y) ∧ Below w.heap.size w w1 ∧ b < w1.heap.size := h
theorem fs_of {w : World} {b o k : Nat} {y : Int} {w1 : World} (h : w1.cell? ⟨b, o + k, none⟩ = some (.int .i64 y) ∧ Below w.heap.size w w1 ∧ b < w1.heap.size) : FS w b o k y w1 := h
theorem fs_drew {w : World} {b o k : Nat} {y : Int} {w1 : World} (h : FS w b o k y w1) : FS w b o k y w1.drew := by
  obtain ⟨h0, hB, b0⟩ := h
  exact ⟨h0, Below.drew hB, b0⟩
theorem fs_drewN {w : World} {b o k : Nat} {y : Int} {w1 : World} (h : FS w b o k y w1) (kk : Nat) : FS w b o k y (w1.drewN kk) := by
  obtain ⟨h0, hB, b0⟩ := h
  exact ⟨h0, bdrewN hB kk, b0⟩
theorem fs_bel {w : World} {b o k : Nat} {y : Int} {w1 : World} (h : FS w b o k y w1) : Below w.heap.size w w1 := by
  obtain ⟨h0, hB, b0⟩ := h
  exact hB
theorem fs_below {w : World} {b o k : Nat} {y : Int} {w1 w2 : World} (h : FS w b o k y w1) (hb : Below w1.heap.size w1 w2) : FS w b o k y w2 := by
  obtain ⟨h0, hB, b0⟩ := h
  exact ⟨(hb.cell (p := ⟨b, o + k, none⟩) b0).trans h0, bstep hB hb, Nat.lt_of_lt_of_le b0 hb.size⟩
theorem lft_low {M : List (List Int)} {rows cols x : List Int} {i : Int} (dz : detR M rows cols ≠ 0) : gI (lft M rows cols i x).1 (lft M rows cols i x).2 = 1 := ratq_low dz
def FQ (w : World) (q : Nat) (l1 l2 : Int) (w1 : World) : Prop := w1.cell? ⟨q, 0, none⟩ = some (.int .i64 l1) ∧ w1.cell? ⟨q, 1, none⟩ = some (.int .i64 l2) ∧ Below w.heap.size w w1 ∧ q < w1.heap.size
theorem fq_s {w : World} {q : Nat} {l1 l2 : Int} {w1 : World} (h : FQ w q l1 l2 w1) : w1.cell? ⟨q, 0, none⟩ = some (.int .i64 l1) ∧ w1.cell? ⟨q, 1, none⟩ = some (.int .i64 l2) ∧ Below w.heap.size w w1 ∧ q < w1.heap.size := h
theorem fq_of {w : World} {q : Nat} {l1 l2 : Int} {w1 : World} (h : w1.cell? ⟨q, 0, none⟩ = some (.int .i64 l1) ∧ w1.cell? ⟨q, 1, none⟩ = some (.int .i64 l2) ∧ Below w.heap.size w w1 ∧ q < w1.heap.size) : FQ w q l1 l2 w1 := h
theorem fq_drew {w : World} {q : Nat} {l1 l2 : Int} {w1 : World} (h : FQ w q l1 l2 w1) : FQ w q l1 l2 w1.drew := by
  obtain ⟨h0, h1, hB, b0⟩ := h
  exact ⟨h0, h1, Below.drew hB, b0⟩
theorem fq_drewN {w : World} {q : Nat} {l1 l2 : Int} {w1 : World} (h : FQ w q l1 l2 w1) (kk : Nat) : FQ w q l1 l2 (w1.drewN kk) := by
  obtain ⟨h0, h1, hB, b0⟩ := h
  exact ⟨h0, h1, bdrewN hB kk, b0⟩
theorem fq_bel {w : World} {q : Nat} {l1 l2 : Int} {w1 : World} (h : FQ w q l1 l2 w1) : Below w.heap.size w w1 := by
  obtain ⟨h0, h1, hB, b0⟩ := h
  exact hB
theorem fq_below {w : World} {q : Nat} {l1 l2 : Int} {w1 w2 : World} (h : FQ w q l1 l2 w1) (hb : Below w1.heap.size w1 w2) : FQ w q l1 l2 w2 := by
  obtain ⟨h0, h1, hB, b0⟩ := h
  exact ⟨(hb.cell (p := ⟨q, 0, none⟩) b0).trans h0, (hb.cell (p := ⟨q, 1, none⟩) b0).trans h1, bstep hB hb, Nat.lt_of_lt_of_le b0 hb.size⟩
theorem fq_grown {w w1 w2 : World} {q : Nat} {l1 l2 : Int} {r : Option Nat} {o : Obj} (h : FQ w q l1 l2 w1) (hg : (w1.alloc o).grownBy w2 r) (B : Below w.heap.size w w2) (ne : r ≠ some q) : FQ w q l1 l2 w2 := by
  obtain ⟨h0, h1, _, h3⟩ := h
  have hs := hg.size
  have c : ∀ j v, w1.cell? ⟨q, j, none⟩ = some v → w2.cell? ⟨q, j, none⟩ = some v := fun j v hv => (World.grownBy.cell_far hg ⟨q, j, none⟩ (by simp; omega) ne.symm).trans ((World.cell?_alloc_lt _ _ _ h3).trans hv)
  exact ⟨c _ _ h0, c _ _ h1, B, by simp at hs; omega⟩
theorem fq_alloc {w w1 : World} {l1 l2 : Int} (B : Below w.heap.size w w1) : FQ w w1.heap.size l1 l2 (w1.alloc (rtc (l1, l2))) := ⟨by go_simp, by go_simp, balloc B _, by simp⟩
end Go.Proofs.Ytllonfaogbdbnaa
