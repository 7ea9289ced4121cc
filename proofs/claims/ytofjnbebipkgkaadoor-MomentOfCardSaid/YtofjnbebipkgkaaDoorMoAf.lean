/-
  The contract of the document's Add for moments, and what both Adds answer.
-/
import Derived.Test.YtofjnbebipkgkaaDoorMoP6
import Derived.Test.YtofjnbebipkgkaaDoorMoAe
namespace Go.Proofs.YtofjnbebipkgkaaDoor
open Go.ChangeShapes Go.WideShapes Go.RowKit
open Sh
theorem two_cells {w : World} {b c : Nat} {m n : Mo} (h : OwnMo w b m) (k : OwnMo w c n) : (w.cell? ⟨b, 0, none⟩ = some (.int .i64 m.c) ∧ w.cell? ⟨b, 1, none⟩ = some (.int .i64 m.t) ∧ w.cell? ⟨b, 2, none⟩ = some (.int .i64 m.d.1) ∧ w.cell? ⟨b, 3, none⟩ = some (.int .i64 m.d.2.1) ∧ w.cell? ⟨b, 4, none⟩ = some (.int .i64 m.d.2.2) ∧ w.cell? ⟨b, 5, none⟩ = some (.int .i64 m.s0) ∧ w.cell? ⟨b, 6, none⟩ = some (.int .i64 m.s1) ∧ w.cell? ⟨b, 7, none⟩ = some (.int .i64 m.s2) ∧ w.cell? ⟨b, 8, none⟩ = some (.int .i64 m.s3) ∧ w.cell? ⟨b, 9, none⟩ = some (.int .i64 m.s4) ∧ w.cell? ⟨b, 10, none⟩ = some (.int .i64 m.s5)) ∧ (w.cell? ⟨c, 0, none⟩ = some (.int .i64 n.c) ∧ w.cell? ⟨c, 1, none⟩ = some (.int .i64 n.t) ∧ w.cell? ⟨c, 2, none⟩ = some (.int .i64 n.d.1) ∧ w.cell? ⟨c, 3, none⟩ = some (.int .i64 n.d.2.1) ∧ w.cell? ⟨c, 4, none⟩ = some (.int .i64 n.d.2.2) ∧ w.cell? ⟨c, 5, none⟩ = some (.int .i64 n.s0) ∧ w.cell? ⟨c, 6, none⟩ = some (.int .i64 n.s1) ∧ w.cell? ⟨c, 7, none⟩ = some (.int .i64 n.s2) ∧ w.cell? ⟨c, 8, none⟩ = some (.int .i64 n.s3) ∧ w.cell? ⟨c, 9, none⟩ = some (.int .i64 n.s4) ∧ w.cell? ⟨c, 10, none⟩ = some (.int .i64 n.s5)) := ⟨h.1, k.1⟩
theorem adR_0 {a b : Mo} (h : mokB a = false) : adR a b = (mzero, 1) := by unfold adR; rw [h]; rfl
theorem adR_1 {a b : Mo} (h : mokB b = false) : adR a b = (mzero, 1) := by unfold adR; rw [h, Bool.and_false]; rfl
theorem adR_ok {a b : Mo} (h : mokB a = true) (k : mokB b = true) : adR a b = (mtold (madd a b), mlarge (madd a b)) := by unfold adR; rw [h, k]; rfl
end Go.Proofs.YtofjnbebipkgkaaDoor
