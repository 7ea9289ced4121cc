/-
  The contracts of Box, in the program and in the document's answer.
-/
import Derived.Test.YtllonfaogbdbnaaAllUsed
namespace Go.Proofs.Ytllonfaogbdbnaa
open Go.ChangeShapes Go.WideShapes Go.RowKit
open Sh
attribute [local go_sem 1000000] run_min_mn run_max_mx
theorem own_put {w : World} {b : Nat} {a : P3} (h : Own w b a) (c : P3) : Own (((w.setCell ⟨b, 0, none⟩ (.int .i64 c.1)).setCell ⟨b, 1, none⟩ (.int .i64 c.2.1)).setCell ⟨b, 2, none⟩ (.int .i64 c.2.2)) b c := by
  obtain ⟨h1, h2, h3, h4, h5, h6, h7⟩ := h
  exact ⟨by go_simp, by go_simp, by go_simp, by go_simp, by go_simp, by go_simp, by simpa using h7⟩
theorem own_put3 {w : World} {q r : Nat} {x y z : Value} {a : P3} (h : Own w q a) (n : q ≠ r) : Own (((w.setCell ⟨r, 0, none⟩ x).setCell ⟨r, 1, none⟩ y).setCell ⟨r, 2, none⟩ z) q a := own_set (own_set (own_set h n) n) n
theorem mes_set1 {w : World} {q r o : Nat} {v : Value} {a : Option Addr} {n c : Nat} {a' : Option Addr} {n' c' : Nat} (h : Mes w q a n c a' n' c') (k : r ≠ q) : Mes (w.setCell ⟨r, o, none⟩ v) q a n c a' n' c' := by
  obtain ⟨h1, h2, h3⟩ := h
  have k' : ¬ r = q := k
  have k2 : ¬ q = r := fun e => k e.symm
  exact ⟨by go_simp, by go_simp, by simpa using h3⟩
theorem mes_put3 {w : World} {q r : Nat} {x y z : Value} {a : Option Addr} {n c : Nat} {a' : Option Addr} {n' c' : Nat} (h : Mes w q a n c a' n' c') (k : r ≠ q) : Mes (((w.setCell ⟨r, 0, none⟩ x).setCell ⟨r, 1, none⟩ y).setCell ⟨r, 2, none⟩ z) q a n c a' n' c' := mes_set1 (mes_set1 (mes_set1 h k) k) k
theorem mes_drewb {w : World} {q : Nat} {a : Option Addr} {n c : Nat} {a' : Option Addr} {n' c' : Nat} (h : Mes w q a n c a' n' c') : Mes w.drew q a n c a' n' c' := h
theorem below_put3 {a w : World} {r : Nat} {x y z : Value} (h : Below a.heap.size a w) (n : a.heap.size ≤ r) : Below a.heap.size a (((w.setCell ⟨r, 0, none⟩ x).setCell ⟨r, 1, none⟩ y).setCell ⟨r, 2, none⟩ z) := ((h.setCell n _).setCell n _).setCell n _
/-- the smallest and the greatest coordinates of the first point and the first k -/
def lo3 (P : Nat → P3) : Nat → P3
  | 0 => P 0
  | k + 1 => (Sp.mn (lo3 P k).1 (P k).1, Sp.mn (lo3 P k).2.1 (P k).2.1, Sp.mn (lo3 P k).2.2 (P k).2.2)
def hi3 (P : Nat → P3) : Nat → P3
  | 0 => P 0
  | k + 1 => (Sp.mx (hi3 P k).1 (P k).1, Sp.mx (hi3 P k).2.1 (P k).2.1, Sp.mx (hi3 P k).2.2 (P k).2.2)
def mn3 (a p : P3) : P3 := (Sp.mn a.1 p.1, Sp.mn a.2.1 p.2.1, Sp.mn a.2.2 p.2.2)
def mx3 (a p : P3) : P3 := (Sp.mx a.1 p.1, Sp.mx a.2.1 p.2.1, Sp.mx a.2.2 p.2.2)
theorem results_cct {fn : Func} {p q u : Tmp} {ty ty' : TypeId} (h : fn.results = #[.cell p ty, .cell q ty', .tmp u]) (tmps : Array Value) (P : Program) (w : World) :
    (results fn tmps).run P w =
      ((asAddr (tmps.getD p undef)).run P w).andThen fun a w₁ => ((loadVar ty a).run P w₁).andThen fun x w₂ =>
      ((asAddr (tmps.getD q undef)).run P w₂).andThen fun a' w₃ => ((loadVar ty' a').run P w₃).andThen fun x' w₄ => .ok (.tuple #[x, x', tmps.getD u undef]) w₄ := by
  simp only [results, h]
  simp [Sem.run_bind, Result.andThen]
end Go.Proofs.Ytllonfaogbdbnaa
