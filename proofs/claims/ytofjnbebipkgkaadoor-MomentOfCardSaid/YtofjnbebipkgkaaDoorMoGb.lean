/-
  The contract of gather: the walk.
-/
import Derived.Test.YtofjnbebipkgkaaDoorMoGa
namespace Go.Proofs.YtofjnbebipkgkaaDoor
open Go.ChangeShapes Go.WideShapes Go.RowKit
open Sh
attribute [local go_sem 1000000] run_min_mn run_max_mx
theorem gc_cells {W wx : World} {g bq : Nat} {p : P3} {m : Mo} {q : Ch} (h : GC W wx g bq (gl p m) q) : (wx.cell? ⟨g, 0, none⟩ = some (.int .i64 p.1) ∧ wx.cell? ⟨g, 1, none⟩ = some (.int .i64 p.2.1) ∧ wx.cell? ⟨g, 2, none⟩ = some (.int .i64 p.2.2)) ∧ (wx.cell? ⟨bq, 0, none⟩ = some (.int .i64 q.1.1.1) ∧ wx.cell? ⟨bq, 1, none⟩ = some (.int .i64 q.1.1.2.1) ∧ wx.cell? ⟨bq, 2, none⟩ = some (.int .i64 q.1.1.2.2) ∧ wx.cell? ⟨bq, 3, none⟩ = some (.int .i64 q.1.2.1.1) ∧ wx.cell? ⟨bq, 4, none⟩ = some (.int .i64 q.1.2.1.2.1) ∧ wx.cell? ⟨bq, 5, none⟩ = some (.int .i64 q.1.2.1.2.2) ∧ wx.cell? ⟨bq, 6, none⟩ = some (.int .i64 q.1.2.2.1) ∧ wx.cell? ⟨bq, 7, none⟩ = some (.int .i64 q.1.2.2.2.1) ∧ wx.cell? ⟨bq, 8, none⟩ = some (.int .i64 q.1.2.2.2.2)) := by
  obtain ⟨h1, ⟨⟨c0, c1, c2, c3, c4, c5, c6, c7, c8, c9⟩, _⟩, _⟩ := h
  exact ⟨⟨(h1.2 0 _ rfl).1, (h1.2 1 _ rfl).1, (h1.2 2 _ rfl).1⟩, c0, c1, c2, c3, c4, c5, c6, c7, c8⟩
theorem gc_set {W wx : World} {g bq r o : Nat} {v : Value} {l : List Int} {q : Ch} (h : GC W wx g bq l q) (n : bq < r) (hr : r ≠ 0) : GC W (wx.setCell ⟨r, o, none⟩ v) g bq l q := by
  obtain ⟨h1, h2, h3, h4, h5⟩ := h
  exact ⟨ownL_set h1 (by omega), ownCh_set h2 (by omega), plc_set h3 hr, below_set1 h4 (by omega), h5⟩
theorem gb_new {W v : World} {g bq : Nat} {l : List Int} {q : Ch} (A B C : P3) (t : TypeId) (h : GC W v g bq l q) : GB W (v.alloc (pnc A B C t)) g bq v.heap.size l q A B C :=
  have k := gc_alloc h (pnc A B C t)
  ⟨k.1, k.2.1, ownL_new9 v A.1 A.2.1 A.2.2 B.1 B.2.1 B.2.2 C.1 C.2.1 C.2.2 t, k.2.2.1, k.2.2.2.1, k.2.2.2.2, h.2.1.2⟩
theorem gb_put {W v : World} {g bq r : Nat} {l : List Int} {q : Ch} (A B C : P3) (oo : OwnL v r [0, 0, 0, 0, 0, 0, 0, 0, 0]) (h : GC W v g bq l q) (n : bq < r) (hr : r ≠ 0) : GB W (((((((((v.setCell ⟨r, 0, none⟩ (.int .i64 A.1)).setCell ⟨r, 1, none⟩ (.int .i64 A.2.1)).setCell ⟨r, 2, none⟩ (.int .i64 A.2.2)).setCell ⟨r, 3, none⟩ (.int .i64 B.1)).setCell ⟨r, 4, none⟩ (.int .i64 B.2.1)).setCell ⟨r, 5, none⟩ (.int .i64 B.2.2)).setCell ⟨r, 6, none⟩ (.int .i64 C.1)).setCell ⟨r, 7, none⟩ (.int .i64 C.2.1)).setCell ⟨r, 8, none⟩ (.int .i64 C.2.2)) g bq r l q A B C := by
  have e : OwnL (((((((((v.setCell ⟨r, 0, none⟩ (.int .i64 A.1)).setCell ⟨r, 1, none⟩ (.int .i64 A.2.1)).setCell ⟨r, 2, none⟩ (.int .i64 A.2.2)).setCell ⟨r, 3, none⟩ (.int .i64 B.1)).setCell ⟨r, 4, none⟩ (.int .i64 B.2.1)).setCell ⟨r, 5, none⟩ (.int .i64 B.2.2)).setCell ⟨r, 6, none⟩ (.int .i64 C.1)).setCell ⟨r, 7, none⟩ (.int .i64 C.2.1)).setCell ⟨r, 8, none⟩ (.int .i64 C.2.2)) r [A.1, A.2.1, A.2.2, B.1, B.2.1, B.2.2, C.1, C.2.1, C.2.2] := (ownL_put (ownL_put (ownL_put (ownL_put (ownL_put (ownL_put (ownL_put (ownL_put (ownL_put oo A.1 (by simp)) A.2.1 (by simp)) A.2.2 (by simp)) B.1 (by simp)) B.2.1 (by simp)) B.2.2 (by simp)) C.1 (by simp)) C.2.1 (by simp)) C.2.2 (by simp))
  have k : GC W (((((((((v.setCell ⟨r, 0, none⟩ (.int .i64 A.1)).setCell ⟨r, 1, none⟩ (.int .i64 A.2.1)).setCell ⟨r, 2, none⟩ (.int .i64 A.2.2)).setCell ⟨r, 3, none⟩ (.int .i64 B.1)).setCell ⟨r, 4, none⟩ (.int .i64 B.2.1)).setCell ⟨r, 5, none⟩ (.int .i64 B.2.2)).setCell ⟨r, 6, none⟩ (.int .i64 C.1)).setCell ⟨r, 7, none⟩ (.int .i64 C.2.1)).setCell ⟨r, 8, none⟩ (.int .i64 C.2.2)) g bq l q := by
    (repeat with_reducible refine gc_set ?_ n hr); exact h
  exact ⟨k.1, k.2.1, e, k.2.2.1, k.2.2.2.1, k.2.2.2.2, n⟩
theorem gb_cells {W wx : World} {g bq bl : Nat} {l : List Int} {q : Ch} {A B C : P3} (h : GB W wx g bq bl l q A B C) : wx.cell? ⟨bl, 0, none⟩ = some (.int .i64 A.1) ∧ wx.cell? ⟨bl, 1, none⟩ = some (.int .i64 A.2.1) ∧ wx.cell? ⟨bl, 2, none⟩ = some (.int .i64 A.2.2) ∧ wx.cell? ⟨bl, 3, none⟩ = some (.int .i64 B.1) ∧ wx.cell? ⟨bl, 4, none⟩ = some (.int .i64 B.2.1) ∧ wx.cell? ⟨bl, 5, none⟩ = some (.int .i64 B.2.2) ∧ wx.cell? ⟨bl, 6, none⟩ = some (.int .i64 C.1) ∧ wx.cell? ⟨bl, 7, none⟩ = some (.int .i64 C.2.1) ∧ wx.cell? ⟨bl, 8, none⟩ = some (.int .i64 C.2.2) := ownL_cells9 h.2.2.1
theorem gb_set {W wx : World} {g bq bl r o : Nat} {v : Value} {l : List Int} {q : Ch} {A B C : P3} (h : GB W wx g bq bl l q A B C) (n : bl < r) (hr : r ≠ 0) : GB W (wx.setCell ⟨r, o, none⟩ v) g bq bl l q A B C := by
  obtain ⟨h1, h2, h3, h4, h5, h6, h7⟩ := h
  exact ⟨ownL_set h1 (by omega), ownCh_set h2 (by omega), ownL_set h3 (by omega), plc_set h4 hr, below_set1 h5 (by omega), h6, h7⟩
theorem ga_new {W v : World} {g bq bl : Nat} {l : List Int} {q : Ch} {A B C : P3} (s : P3) (t : TypeId) (h : GB W v g bq bl l q A B C) : GA W (v.alloc (ptc s t)) g bq bl v.heap.size l q A B C s :=
  have k := gb_alloc h (ptc s t)
  ⟨k.1, k.2.1, k.2.2.1, ownL_new3 v s.1 s.2.1 s.2.2 t, k.2.2.2.1, k.2.2.2.2.1, k.2.2.2.2.2.1, k.2.2.2.2.2.2, h.2.1.2, Nat.ne_of_lt h.2.2.1.1⟩
theorem ga_put3 {W v : World} {g bq bl r : Nat} {l : List Int} {q : Ch} {A B C : P3} (s : P3) (oo : OwnL v r [0, 0, 0]) (h : GB W v g bq bl l q A B C) (n : bl < r) (hr : r ≠ 0) : GA W (((v.setCell ⟨r, 0, none⟩ (.int .i64 s.1)).setCell ⟨r, 1, none⟩ (.int .i64 s.2.1)).setCell ⟨r, 2, none⟩ (.int .i64 s.2.2)) g bq bl r l q A B C s := by
  have e : OwnL (((v.setCell ⟨r, 0, none⟩ (.int .i64 s.1)).setCell ⟨r, 1, none⟩ (.int .i64 s.2.1)).setCell ⟨r, 2, none⟩ (.int .i64 s.2.2)) r [s.1, s.2.1, s.2.2] := (ownL_put (ownL_put (ownL_put oo s.1 (by simp)) s.2.1 (by simp)) s.2.2 (by simp))
  have k : GB W (((v.setCell ⟨r, 0, none⟩ (.int .i64 s.1)).setCell ⟨r, 1, none⟩ (.int .i64 s.2.1)).setCell ⟨r, 2, none⟩ (.int .i64 s.2.2)) g bq bl l q A B C := gb_set (gb_set (gb_set h n hr) n hr) n hr
  exact ⟨k.1, k.2.1, k.2.2.1, e, k.2.2.2.1, k.2.2.2.2.1, k.2.2.2.2.2.1, k.2.2.2.2.2.2, Nat.lt_trans k.2.2.2.2.2.2 n, Nat.ne_of_lt n⟩
theorem gb_lt {W wx : World} {g bq bl : Nat} {l : List Int} {q : Ch} {A B C : P3} (h : GB W wx g bq bl l q A B C) : bl < wx.heap.size := h.2.2.1.1
theorem gc_lt {W wx : World} {g bq : Nat} {l : List Int} {q : Ch} (h : GC W wx g bq l q) : bq < wx.heap.size := h.2.1.2
theorem ga_dip {W wx : World} {g bq bl bs : Nat} {l : List Int} {q : Ch} {A B C s : P3} (h : GA W wx g bq bl bs l q A B C s) (d : P3) (hg : g ≠ 0) (hl : 7 < l.length) {l' : List Int} (e : ((l.set 5 d.1).set 6 d.2.1).set 7 d.2.2 = l') : GA W (((wx.setCell ⟨g, 5, none⟩ (.int .i64 d.1)).setCell ⟨g, 6, none⟩ (.int .i64 d.2.1)).setCell ⟨g, 7, none⟩ (.int .i64 d.2.2)) g bq bl bs l' q A B C s :=
  ga_put (ga_put (ga_put h 5 d.1 (by omega) hg rfl) 6 d.2.1 (by simp; omega) hg rfl) 7 d.2.2 (by simp; omega) hg e

end Go.Proofs.YtofjnbebipkgkaaDoor
