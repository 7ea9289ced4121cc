/-
  The law SoundEchoes: its walk.
-/
import Derived.Test.YtemchbdlckcmkaaGreatSoMf
import Derived.Test.YtemchbdlckcmkaaGreatSoE
namespace Go.Proofs.YtemchbdlckcmkaaGreat
open Go.ChangeShapes Go.WideShapes Go.RowKit
open Sh
set_option maxRecDepth 100000 in
set_option maxHeartbeats 4000000 in
theorem echoes_long (a : Option Addr) (n c : Nat) (so : Bool) (x : P3) (s t d : Int) (w : World) (h1 : (60 : Int) < (n : Int)) (K : Hid (∀ W, Calls Tryz.prog 6 #[] W fun e w' => e = .returned (.bool true) ∧ Below W.heap.size W w')) : Calls Tryz.prog 5 #[.slice a n c, .bool so, earv x s t d] w fun e w' => e = .returned (.bool true) ∧ Below w.heap.size w w' := by
  go_enter Tryz.func5, Tryz.ntmps5
  go_wp2_with fail
  refine (K.out _).mono ?_
  rintro e w1 ⟨rfl, hb1⟩
  go_wp2
  go_ret
  exact ⟨rfl, by (repeat' (first | exact Below.refl _ _ | refine bstep ?_ hb1 | refine Below.setCell ?_ (by simp <;> omega) _ | refine balloc ?_ _ | refine Below.drew ?_ | refine bdrewN ?_ _))⟩
set_option maxRecDepth 100000 in
set_option maxHeartbeats 4000000 in
theorem echoes_walk0 (a : Option Addr) (n c : Nat) (so : Bool) (x : P3) (s t d : Int) (r : Sp.R) (w : World) (h1 : decide ((60 : Int) < (n : Int)) = false) (C1 : Hid (∀ W, Below w.heap.size w W → Calls Tryz.prog 16 #[.slice a n c, ptv x, .bool so, .int .i64 s, .int .i64 t, .int .i64 d] W fun e w' => e = .returned (spr r) ∧ Below W.heap.size W w')) (C2 : Hid (∀ W, Below w.heap.size w W → Calls Tryz.prog 17 #[.slice a n c, ptv x, .bool so, .int .i64 s, .int .i64 t, .int .i64 d] W fun e w' => e = .returned (spr r) ∧ Below W.heap.size W w')) (K : Hid (∀ W, Calls Tryz.prog 6 #[] W fun e w' => e = .returned (.bool true) ∧ Below W.heap.size W w')) : Calls Tryz.prog 5 #[.slice a n c, .bool so, earv x s t d] w fun e w' => e = .returned (.bool true) ∧ Below w.heap.size w w' := by
  obtain ⟨⟨u, v⟩, cc⟩ := r
  have E0 := Lib.hid (ownE_new w x s t d 26)
  have B0 := Lib.hid (show Below w.heap.size w (w.alloc (earb x s t d 26)) by (repeat' (first | exact Below.refl _ _ | refine Below.setCell ?_ (by simp <;> omega) _ | refine balloc ?_ _ | refine Below.drew ?_ | refine bdrewN ?_ _)))
  go_enter Tryz.func5, Tryz.ntmps5
  go_wp2_with fail
  refine (C1.out _ B0.out).mono ?_
  rintro e w1 ⟨rfl, hb1⟩
  have E1 := Lib.hid (ownE_alloc (ownE_below E0.out hb1) (.cells #[.int .i64 u, .int .i64 v] 29))
  have Z1 := Lib.hid (pair_new w1 u v 29)
  have B1 := Lib.hid (balloc (bstep B0.out hb1) (.cells #[.int .i64 u, .int .i64 v] 29))
  clear hb1
  obtain ⟨⟨q0, q1, q2, q3, q4, q5⟩, el⟩ := E1.out
  go_wp2_with fail
  refine (C2.out _ B1.out).mono ?_
  rintro e w2 ⟨rfl, hb2⟩
  clear q0 q1 q2 q3 q4 q5 el
  obtain ⟨z0, z1, z3, z4, zl⟩ := pair_alloc (pair_below Z1.out hb2) (.cells #[.int .i64 u, .int .i64 v] 29)
  obtain ⟨y0, y1, y2, y3, yl⟩ := pair_new w2 u v 29
  have B2 := Lib.hid (balloc (bstep B1.out hb2) (.cells #[.int .i64 u, .int .i64 v] 29))
  clear hb2
  go_wp2_with fail
  refine (K.out _).mono ?_
  rintro e w6 ⟨rfl, hb6⟩
  go_wp2
  go_ret
  exact ⟨rfl, bstep B2.out hb6⟩
theorem echoes_walk (a : Option Addr) (n c : Nat) (Q : Nat → Pu) (so : Bool) (x : P3) (s t d : Int) (w : World) (_ : n ≤ maxLen) (hnil : a = none → c = 0) (r : LstU w a n Q) : Calls Tryz.prog 5 #[.slice a n c, .bool so, earv x s t d] w fun e w' => e = .returned (.bool true) ∧ Below w.heap.size w w' := by
  have K := Lib.hid fun W => sane_any W
  by_cases h1 : (60 : Int) < (n : Int)
  · exact echoes_long a n c so x s t d w h1 K
  · exact echoes_walk0 a n c so x s t d _ w (decide_eq_false h1) (Lib.hid fun W B => ech_any a n c Q x so s t d W (lstU_below r B) hnil (by omega)) (Lib.hid fun W B => rech_any a n c Q x so s t d W (lstU_below r B) hnil (by omega)) K

end Go.Proofs.YtemchbdlckcmkaaGreat
