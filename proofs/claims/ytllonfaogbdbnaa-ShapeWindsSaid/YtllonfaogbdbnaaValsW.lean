/-
  The law ShapeValidates: its walk, for any answers of its callees that belong together.
-/
import Derived.Test.YtllonfaogbdbnaaPanels2
namespace Go.Proofs.Ytllonfaogbdbnaa
open Go.ChangeShapes Go.WideShapes Go.RowKit
open Sh
/-- what Panels answers, with the number of its panels -/
def PansN (T : Nat → P3 × P3 × P3) (N : Nat) (code : Int) (w : World) (e : Ending) (w' : World) : Prop :=
  ∃ a cap, e = .returned (.tuple #[.slice a N cap, .int .i64 code]) ∧ Lst9 w' a N T ∧ Below w.heap.size w w'
theorem pansN_of {T : Nat → P3 × P3 × P3} {nf : Nat} {code : Int} {w w' : World} {e : Ending} (h : Pans T nf code w e w') : PansN T (if code = 0 then nf else 0) code w e w' := by
  obtain ⟨a, n, cap, h1, rfl, h2, h3⟩ := h
  exact ⟨a, cap, h1, h2, h3⟩
theorem lst9_drew {w : World} {a : Option Addr} {n : Nat} {T : Nat → P3 × P3 × P3} (h : Lst9 w a n T) : Lst9 w.drew a n T := h
theorem keep14 {w : World} {q t1 t2 t3 t4 : Nat} {a : Option Addr} {n c : Nat} {a' : Option Addr} {n' c' : Nat} {d1 d2 d3 d4 : P3} (h : Mes w q a n c a' n' c') (k1 : Own w t1 d1) (k2 : Own w t2 d2) (k3 : Own w t3 d3) (k4 : Own w t4 d4) :
  w.cell? ⟨q, 0, none⟩ = some (.slice a n c) ∧ w.cell? ⟨q, 1, none⟩ = some (.slice a' n' c') ∧
  w.cell? ⟨t1, 0, none⟩ = some (.int .i64 d1.1) ∧ w.cell? ⟨t1, 1, none⟩ = some (.int .i64 d1.2.1) ∧ w.cell? ⟨t1, 2, none⟩ = some (.int .i64 d1.2.2) ∧
  w.cell? ⟨t2, 0, none⟩ = some (.int .i64 d2.1) ∧ w.cell? ⟨t2, 1, none⟩ = some (.int .i64 d2.2.1) ∧ w.cell? ⟨t2, 2, none⟩ = some (.int .i64 d2.2.2) ∧
  w.cell? ⟨t3, 0, none⟩ = some (.int .i64 d3.1) ∧ w.cell? ⟨t3, 1, none⟩ = some (.int .i64 d3.2.1) ∧ w.cell? ⟨t3, 2, none⟩ = some (.int .i64 d3.2.2) ∧
  w.cell? ⟨t4, 0, none⟩ = some (.int .i64 d4.1) ∧ w.cell? ⟨t4, 1, none⟩ = some (.int .i64 d4.2.1) ∧ w.cell? ⟨t4, 2, none⟩ = some (.int .i64 d4.2.2) :=
  ⟨h.1, h.2.1, k1.1, k1.2.1, k1.2.2.1, k2.1, k2.2.1, k2.2.2.1, k3.1, k3.2.1, k3.2.2.1, k4.1, k4.2.1, k4.2.2.1⟩
theorem long_any (a : Option Addr) (np c : Nat) (a' : Option Addr) (nf c' : Nat) (w : World) (hn : np ≤ 9223372036854775807) (hm : nf ≤ 9223372036854775807) :
    Calls Try.prog 6 #[msv a np c a' nf c'] w fun e w' => e = .returned (.bool (decide (200 < np ∨ 300 < nf))) ∧ Below w.heap.size w w' := by
  have hn' : (np : Int) ≤ 9223372036854775807 := by omega
  have hm' : (nf : Int) ≤ 9223372036854775807 := by omega
  by_cases h : 200 < np
  · rw [decide_eq_true (Or.inl h)]
    have t1 : (200 : Int) < (np : Int) := by omega
    clear h hn hm
    go_enter Try.func6, Try.ntmps6
    go_wp2
    go_ret
    exact ⟨rfl, by (repeat' (first | exact Below.refl _ _ | refine Below.setCell ?_ (by simp <;> omega) _ | refine balloc ?_ _ | refine Below.drew ?_ | refine bdrewN ?_ _))⟩
  · have t1 : decide ((200 : Int) < (np : Int)) = false := decide_eq_false (by omega)
    by_cases k : 300 < nf
    · rw [decide_eq_true (Or.inr k)]
      have t2 : (300 : Int) < (nf : Int) := by omega
      clear h k hn hm
      go_enter Try.func6, Try.ntmps6
      go_wp2
      go_ret
      exact ⟨rfl, by (repeat' (first | exact Below.refl _ _ | refine Below.setCell ?_ (by simp <;> omega) _ | refine balloc ?_ _ | refine Below.drew ?_ | refine bdrewN ?_ _))⟩
    · rw [decide_eq_false (show ¬ (200 < np ∨ 300 < nf) by omega)]
      have t2 : decide ((300 : Int) < (nf : Int)) = false := decide_eq_false (by omega)
      clear h k hn hm
      go_enter Try.func6, Try.ntmps6
      go_wp2
      go_ret
      exact ⟨rfl, by (repeat' (first | exact Below.refl _ _ | refine Below.setCell ?_ (by simp <;> omega) _ | refine balloc ?_ _ | refine Below.drew ?_ | refine bdrewN ?_ _))⟩
end Go.Proofs.Ytllonfaogbdbnaa
