/-
  The contracts of isSize, checked and Block.
-/
import Derived.Test.YtllonfaogbdbnaaValidate
namespace Go.Proofs.Ytllonfaogbdbnaa
open Go.ChangeShapes Go.WideShapes Go.RowKit
open Sh
def szB (n : Int) : Bool := decide (1 ≤ n ∧ n ≤ 64)
/-- what a function that makes a mesh leaves: a mesh, or the error and no mesh -/
def Meshed (np nf : Nat) (P F : Nat → P3) (w : World) (e : Ending) (w' : World) : Prop :=
  (vcode ⟨np, nf, P, F⟩ = 0 → ∃ a c a' c', e = .returned (.tuple #[msv a np c a' nf c', .int .i64 0]) ∧ Lst w' a np P ∧ Lst w' a' nf F ∧ Below w.heap.size w w') ∧
  (vcode ⟨np, nf, P, F⟩ ≠ 0 → e = .returned (.tuple #[msv none 0 0 none 0 0, .int .i64 (vcode ⟨np, nf, P, F⟩)]) ∧ Below w.heap.size w w')
theorem size_any (n : Int) (w : World) :
    Calls Try.prog 66 #[.int .i64 n] w fun e w' => e = .returned (.bool (szB n)) ∧ w = w' := by
  unfold szB
  by_cases h : 1 ≤ n
  · by_cases k : n ≤ 64
    · rw [decide_eq_true (show 1 ≤ n ∧ n ≤ 64 from ⟨h, k⟩)]
      go_enter Try.func66, Try.ntmps66
      go_wp2
      go_ret
      exact ⟨rfl, rfl⟩
    · rw [decide_eq_false (show ¬ (1 ≤ n ∧ n ≤ 64) from fun x => k x.2)]
      have k' : decide (n ≤ 64) = false := decide_eq_false k
      clear k
      go_enter Try.func66, Try.ntmps66
      go_wp2
      go_ret
      exact ⟨rfl, rfl⟩
  · rw [decide_eq_false (show ¬ (1 ≤ n ∧ n ≤ 64) from fun x => h x.1)]
    go_enter Try.func66, Try.ntmps66
    go_wp2
    go_ret
    exact ⟨rfl, rfl⟩
theorem checked_no (a : Option Addr) (np c : Nat) (a' : Option Addr) (nf c' : Nat) (v : Int) (w : World) (V : Hid (∀ W, Below w.heap.size w W → Calls Try.prog 31 #[msv a np c a' nf c'] W fun e w' => e = .returned (.int .i64 v) ∧ Below W.heap.size W w')) (ne : v ≠ 0) :
    Calls Try.prog 67 #[msv a np c a' nf c'] w fun e w' => e = .returned (.tuple #[msv none 0 0 none 0 0, .int .i64 v]) ∧ Below w.heap.size w w' := by
  have NE := int_ne ne
  clear ne
  go_enter Try.func67, Try.ntmps67
  go_wp2_with fail
  refine (V.out _ (by (repeat' (first | exact Below.refl _ _ | refine Below.setCell ?_ (by simp <;> omega) _ | refine balloc ?_ _ | refine Below.drew ?_ | refine bdrewN ?_ _)))).mono ?_
  rintro e w1 ⟨rfl, hb1⟩
  obtain ⟨m1, m2, m3⟩ := mes_below (mes_alloc (mes_new w a np c a' nf c' _) _) hb1
  obtain ⟨z1, z2, z3⟩ := mes_below (mes_new (w.alloc _) none 0 0 none 0 0 _) hb1
  have y1 := hb1.frozen (p := ⟨w.heap.size + 1, 0, none⟩) (by simp)
  have y2 := hb1.frozen (p := ⟨w.heap.size + 1, 1, none⟩) (by simp)
  simp only [World.size_alloc] at z1 z2 z3
  have x1 : w1.frozen? ⟨w.heap.size + 1, 0, none⟩ = false := by rw [y1]; go_simp
  have x2 : w1.frozen? ⟨w.heap.size + 1, 1, none⟩ = false := by rw [y2]; go_simp
  clear y1 y2
  go_wp2
  refine bodyPost_ret (v := .tuple #[msv none 0 0 none 0 0, .int .i64 v]) (by rw [results_cell_tmp rfl]; go_simp) rfl ⟨rfl, ?_⟩
  (repeat' (first | exact Below.refl _ _ | refine bstep ?_ hb1 | refine Below.setCell ?_ (by simp <;> omega) _ | refine balloc ?_ _ | refine Below.drew ?_ | refine bdrewN ?_ _))
theorem checked_ok (a : Option Addr) (np c : Nat) (a' : Option Addr) (nf c' : Nat) (w : World) (V : Hid (∀ W, Below w.heap.size w W → Calls Try.prog 31 #[msv a np c a' nf c'] W fun e w' => e = .returned (.int .i64 0) ∧ Below W.heap.size W w')) :
    Calls Try.prog 67 #[msv a np c a' nf c'] w fun e w' => e = .returned (.tuple #[msv a np c a' nf c', .int .i64 0]) ∧ Below w.heap.size w w' := by
  go_enter Try.func67, Try.ntmps67
  go_wp2_with fail
  refine (V.out _ (by (repeat' (first | exact Below.refl _ _ | refine Below.setCell ?_ (by simp <;> omega) _ | refine balloc ?_ _ | refine Below.drew ?_ | refine bdrewN ?_ _)))).mono ?_
  rintro e w1 ⟨rfl, hb1⟩
  obtain ⟨m1, m2, m3⟩ := mes_below (mes_alloc (mes_new w a np c a' nf c' _) _) hb1
  obtain ⟨z1, z2, z3⟩ := mes_below (mes_new (w.alloc _) none 0 0 none 0 0 _) hb1
  have y1 := hb1.frozen (p := ⟨w.heap.size + 1, 0, none⟩) (by simp)
  have y2 := hb1.frozen (p := ⟨w.heap.size + 1, 1, none⟩) (by simp)
  simp only [World.size_alloc] at z1 z2 z3
  have x1 : w1.frozen? ⟨w.heap.size + 1, 0, none⟩ = false := by rw [y1]; go_simp
  have x2 : w1.frozen? ⟨w.heap.size + 1, 1, none⟩ = false := by rw [y2]; go_simp
  clear y1 y2
  go_wp2
  refine bodyPost_ret (v := .tuple #[msv a np c a' nf c', .int .i64 0]) (by rw [results_cell_tmp rfl]; go_simp) rfl ⟨rfl, ?_⟩
  (repeat' (first | exact Below.refl _ _ | refine bstep ?_ hb1 | refine Below.setCell ?_ (by simp <;> omega) _ | refine balloc ?_ _ | refine Below.drew ?_ | refine bdrewN ?_ _))

end Go.Proofs.Ytllonfaogbdbnaa
