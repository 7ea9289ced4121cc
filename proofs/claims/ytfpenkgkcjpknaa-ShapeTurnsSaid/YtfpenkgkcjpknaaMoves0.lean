/-
  The contracts of Move and Scale.
-/
import Derived.Test.YtfpenkgkcjpknaaPlaced
namespace Go.Proofs.Ytfpenkgkcjpknaa
open Go.ChangeShapes Go.WideShapes Go.RowKit
open Sh
/-- a mesh in new memory, and a code -/
def MovedW (N NF : Nat) (P F : Nat → P3) (code : Int) (w : World) (e : Ending) (w' : World) : Prop :=
  ∃ a c a' c', e = .returned (.tuple #[msv a N c a' NF c', .int .i64 code]) ∧ LstW w' w.heap.size a N P ∧ LstW w' w.heap.size a' NF F ∧ Below w.heap.size w w'
theorem movedW_none {P F : Nat → P3} {code : Int} {w w' : World} {e : Ending} (h : e = .returned (.tuple #[msv none 0 0 none 0 0, .int .i64 code]) ∧ Below w.heap.size w w') : MovedW 0 0 P F code w e w' :=
  ⟨none, 0, none, 0, h.1, lstw_zero _ _ _ _, lstw_zero _ _ _ _, h.2⟩
theorem turn_no (a : Option Addr) (np c : Nat) (a' : Option Addr) (nf c' : Nat) (code : Int) (w : World) (V : Hid (∀ W, Below w.heap.size w W → Calls Try.prog 24 #[msv a np c a' nf c'] W fun e w' => e = .returned (.int .i64 code) ∧ Below W.heap.size W w')) (z : code ≠ 0) :
    Calls Try.prog 8 #[msv a np c a' nf c'] w fun e w' => e = .returned (.tuple #[msv none 0 0 none 0 0, .int .i64 code]) ∧ Below w.heap.size w w' := by
  have z1 := int_ne0 z
  clear z
  go_enter Try.func8, Try.ntmps8
  go_wp2_with fail
  refine (V.out _ (by (repeat' (first | exact Below.refl _ _ | refine Below.setCell ?_ (by simp <;> omega) _ | refine balloc ?_ _ | refine Below.drew ?_ | refine bdrewN ?_ _)))).mono ?_
  rintro e w1 ⟨rfl, hb1⟩
  have RM := Lib.hid (by have z := ownMs_below (ownMs_new (w.alloc (msc a np c a' nf c' 25)) (.slice none 0 0) (.slice none 0 0) 25) hb1; simp only [World.size_alloc] at z; exact z : OwnMs w1 (w.heap.size + 1) (.slice none 0 0) (.slice none 0 0))
  have ME := Lib.hid (mes_below (mes_alloc (mes_new w a np c a' nf c' 25) (.cells #[.slice none 0 0, .slice none 0 0] 25)) hb1)
  have B1 := Lib.hid (bstep (balloc (balloc (Below.refl w.heap.size w) (msc a np c a' nf c' 25)) (.cells #[.slice none 0 0, .slice none 0 0] 25)) hb1)
  clear hb1
  obtain ⟨m1, m2, m3, m4, m5⟩ := RM.out
  go_wp2
  refine bodyPost_ret (v := .tuple #[msv none 0 0 none 0 0, .int .i64 code]) (by rw [results_cell_tmp rfl]; go_simp) rfl ⟨rfl, ?_⟩
  exact below_put2 B1.out (by omega)

end Go.Proofs.Ytfpenkgkcjpknaa
