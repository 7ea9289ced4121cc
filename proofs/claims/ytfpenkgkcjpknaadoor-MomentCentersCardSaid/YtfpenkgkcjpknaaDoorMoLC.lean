/-
  The law MomentCenters: for all charged panels, centers and vectors it answers true.
-/
import Derived.Test.YtfpenkgkcjpknaaDoorMoSa
namespace Go.Proofs.YtfpenkgkcjpknaaDoor
open Go.ChangeShapes Go.WideShapes Go.RowKit
open Sh
theorem ocode_ok {n : Nat} {Q : Nat → Ch} {p : P3} (z : ocode n Q p = 0) : n ≤ 96 ∧ inP 64 p = true ∧ chcodes Q n = 0 := by
  have hc : ccode n Q = 0 := by
    unfold ocode at z
    by_cases q : ccode n Q = 0
    · exact q
    · rw [if_neg q] at z; exact absurd z q
  have hp : inP 64 p = true := by
    unfold ocode at z
    rw [if_pos hc] at z
    cases q : inP 64 p with
    | true => rfl
    | false => rw [q] at z; cases z
  have h9 : ¬ 96 < n := fun h => by unfold ccode at hc; rw [if_pos h] at hc; cases hc
  have hq : chcodes Q n = 0 := by unfold ccode at hc; rw [if_neg h9] at hc; exact hc
  exact ⟨by omega, hp, hq⟩
theorem cen_sh {n : Nat} {Q : Nat → Ch} {p t : P3} (z : ocode n Q p = 0) (y : ocode n Q (add p t) = 0) (k : inP 128 t = true) : shR (mof p Q n) t = (mof (add p t) Q n, 0) := by
  obtain ⟨h1, h2, h3⟩ := ocode_ok z
  obtain ⟨_, h4, _⟩ := ocode_ok y
  have a := mokB_iff.2 (mof_mok (inP_iff.1 h2) h3 (by omega))
  have b := mokB_iff.2 (mof_mok (inP_iff.1 h4) h3 (by omega))
  rw [shR_ok a k, ← mof_shift]
  unfold mtold mlarge
  rw [b]
  rfl
set_option maxRecDepth 100000 in
set_option maxHeartbeats 4000000 in
theorem mcen_big (a : Option Addr) (n cap : Nat) (p t : P3) (w : World) (pl : Plc w) (h : decide (300 < n) = true) (hn : n ≤ 9223372036854775807) (S : Hid (∀ W, Plc W → Calls Tryd.prog 12 #[] W fun e w' => e = .returned (.bool true) ∧ Below W.heap.size W w')) : Calls Tryd.prog 8 #[.slice a n cap, ptv p, ptv t] w fun e w' => e = .returned (.bool true) ∧ Below w.heap.size w w' := by
  have PL := Lib.hid pl
  have gz : 0 < w.heap.size := pl.2
  clear pl
  have h' : (300 : Int) < (n : Int) := by have := of_decide_eq_true h; omega
  clear h
  go_enter Tryd.func8, Tryd.ntmps8
  go_wp2_with fail
  refine (S.out _ (plc_alloc (plc_alloc PL.out _) _)).mono ?_
  rintro e w1 ⟨rfl, hb1⟩
  go_wp2
  go_ret
  exact ⟨rfl, by (repeat' (first | exact Below.refl _ _ | refine bstep ?_ hb1 | refine Below.setCell ?_ (by simp <;> omega) _ | refine balloc ?_ _ | refine Below.drew ?_ | refine bdrewN ?_ _))⟩
set_option maxRecDepth 100000 in
set_option maxHeartbeats 4000000 in
theorem mcen_far0 (a : Option Addr) (n cap : Nat) (p t : P3) (w : World) (pl : Plc w) (h : n ≤ 300) (C0 : Hid (∀ W, Calls Tryd.prog 29 #[ptv t, .int .i64 128] W fun e w' => e = .returned (.bool false) ∧ Below W.heap.size W w')) (S : Hid (∀ W, Plc W → Calls Tryd.prog 12 #[] W fun e w' => e = .returned (.bool true) ∧ Below W.heap.size W w')) : Calls Tryd.prog 8 #[.slice a n cap, ptv p, ptv t] w fun e w' => e = .returned (.bool true) ∧ Below w.heap.size w w' := by
  have PL := Lib.hid pl
  have gz : 0 < w.heap.size := pl.2
  clear pl
  have h' : (n : Int) ≤ 300 := by omega
  have d1 : decide ((300 : Int) < (n : Int)) = false := decide_eq_false (by omega)
  have d2 : decide (300 < n) = false := decide_eq_false (by omega)
  clear h
  go_enter Tryd.func8, Tryd.ntmps8
  go_wp2_with fail
  refine (C0.out _).mono ?_
  rintro e w1 ⟨rfl, hb1⟩
  have PP := Lib.hid (own_below (own_alloc (own_new w p 24) (ptc t 24)) hb1)
  have PT := Lib.hid (by have z := own_below (own_new (w.alloc (ptc p 24)) t 24) hb1; simp only [World.size_alloc] at z; exact z : Own w1 (w.heap.size + 1) t)
  have B1 := Lib.hid (bstep (balloc (balloc (Below.refl _ w) _) _) hb1)
  clear hb1
  go_wp2_with fail
  refine (S.out _ (plc_in PL.out B1.out gz)).mono ?_
  rintro e w2 ⟨rfl, hb2⟩
  have B2 := bstep B1.out hb2
  go_wp2
  go_ret
  exact ⟨rfl, B2⟩
set_option maxRecDepth 100000 in
set_option maxHeartbeats 4000000 in
theorem mcen_far1 (a : Option Addr) (n cap : Nat) (p t : P3) (w : World) (pl : Plc w) (h : n ≤ 300) (C0 : Hid (∀ W, Calls Tryd.prog 29 #[ptv t, .int .i64 128] W fun e w' => e = .returned (.bool true) ∧ Below W.heap.size W w')) (C1 : Hid (∀ W, Calls Tryd.prog 29 #[ptv p, .int .i64 64] W fun e w' => e = .returned (.bool false) ∧ Below W.heap.size W w')) (S : Hid (∀ W, Plc W → Calls Tryd.prog 12 #[] W fun e w' => e = .returned (.bool true) ∧ Below W.heap.size W w')) : Calls Tryd.prog 8 #[.slice a n cap, ptv p, ptv t] w fun e w' => e = .returned (.bool true) ∧ Below w.heap.size w w' := by
  have PL := Lib.hid pl
  have gz : 0 < w.heap.size := pl.2
  clear pl
  have h' : (n : Int) ≤ 300 := by omega
  have d1 : decide ((300 : Int) < (n : Int)) = false := decide_eq_false (by omega)
  have d2 : decide (300 < n) = false := decide_eq_false (by omega)
  clear h
  go_enter Tryd.func8, Tryd.ntmps8
  go_wp2_with fail
  refine (C0.out _).mono ?_
  rintro e w1 ⟨rfl, hb1⟩
  have PP := Lib.hid (own_below (own_alloc (own_new w p 24) (ptc t 24)) hb1)
  have PT := Lib.hid (by have z := own_below (own_new (w.alloc (ptc p 24)) t 24) hb1; simp only [World.size_alloc] at z; exact z : Own w1 (w.heap.size + 1) t)
  have B1 := Lib.hid (bstep (balloc (balloc (Below.refl _ w) _) _) hb1)
  clear hb1
  have PP' := PP.out
  obtain ⟨a1, a2, a3, a4, a5, a6, a7⟩ := PP'
  go_wp2_with fail
  refine (C1.out _).mono ?_
  rintro e w2 ⟨rfl, hb2⟩
  clear a1 a2 a3 a4 a5 a6 a7
  have PP := Lib.hid (own_below PP.out hb2)
  have PT := Lib.hid (own_below PT.out hb2)
  have B2 := Lib.hid (bstep B1.out hb2)
  clear hb2
  go_wp2_with fail
  refine (S.out _ (plc_in PL.out B2.out gz)).mono ?_
  rintro e w3 ⟨rfl, hb3⟩
  have B3 := bstep B2.out hb3
  go_wp2
  go_ret
  exact ⟨rfl, B3⟩
set_option maxRecDepth 100000 in
set_option maxHeartbeats 4000000 in
theorem mcen_no0 (a : Option Addr) (n cap : Nat) (p t : P3) (q : P3) (R R' : Mo) (E E' : Int) (w : World) (pl : Plc w) (h : n ≤ 300) (C0 : Hid (∀ W, Calls Tryd.prog 29 #[ptv t, .int .i64 128] W fun e w' => e = .returned (.bool true) ∧ Below W.heap.size W w')) (C1 : Hid (∀ W, Calls Tryd.prog 29 #[ptv p, .int .i64 64] W fun e w' => e = .returned (.bool true) ∧ Below W.heap.size W w')) (O0 : Hid (∀ W, Below w.heap.size w W → Calls Tryd.prog 13 #[.slice a n cap, ptv p] W fun e w' => e = .returned (.tuple #[mov R, .int .i64 E]) ∧ Below W.heap.size W w')) (O1 : Hid (∀ W, Below w.heap.size w W → Calls Tryd.prog 13 #[.slice a n cap, ptv q] W fun e w' => e = .returned (.tuple #[mov R', .int .i64 E']) ∧ Below W.heap.size W w')) (PS : Hid (∀ W, Calls Tryd.prog 30 #[ptv p, ptv t] W fun e w' => e = .returned (ptv q) ∧ Below W.heap.size W w')) (z : (E != 0) = true) (S : Hid (∀ W, Plc W → Calls Tryd.prog 12 #[] W fun e w' => e = .returned (.bool true) ∧ Below W.heap.size W w')) : Calls Tryd.prog 8 #[.slice a n cap, ptv p, ptv t] w fun e w' => e = .returned (.bool true) ∧ Below w.heap.size w w' := by
  have PL := Lib.hid pl
  have gz : 0 < w.heap.size := pl.2
  clear pl
  have h' : (n : Int) ≤ 300 := by omega
  have d1 : decide ((300 : Int) < (n : Int)) = false := decide_eq_false (by omega)
  have d2 : decide (300 < n) = false := decide_eq_false (by omega)
  clear h
  go_enter Tryd.func8, Tryd.ntmps8
  go_wp2_with fail
  refine (C0.out _).mono ?_
  rintro e w1 ⟨rfl, hb1⟩
  have PP := Lib.hid (own_below (own_alloc (own_new w p 24) (ptc t 24)) hb1)
  have PT := Lib.hid (by have z := own_below (own_new (w.alloc (ptc p 24)) t 24) hb1; simp only [World.size_alloc] at z; exact z : Own w1 (w.heap.size + 1) t)
  have B1 := Lib.hid (bstep (balloc (balloc (Below.refl _ w) _) _) hb1)
  clear hb1
  have PP' := PP.out
  obtain ⟨a1, a2, a3, a4, a5, a6, a7⟩ := PP'
  go_wp2_with fail
  refine (C1.out _).mono ?_
  rintro e w2 ⟨rfl, hb2⟩
  clear a1 a2 a3 a4 a5 a6 a7
  have PP := Lib.hid (own_below PP.out hb2)
  have PT := Lib.hid (own_below PT.out hb2)
  have B2 := Lib.hid (bstep B1.out hb2)
  clear hb2
  have PP' := PP.out
  obtain ⟨a1, a2, a3, a4, a5, a6, a7⟩ := PP'
  go_wp2_with fail
  refine (O0.out _ B2.out).mono ?_
  rintro e w3 ⟨rfl, hb3⟩
  clear a1 a2 a3 a4 a5 a6 a7
  have PP := Lib.hid (own_alloc (own_below PP.out hb3) (mob R 28))
  have PT := Lib.hid (own_alloc (own_below PT.out hb3) (mob R 28))
  have PX := Lib.hid (ownMo_new w3 R 28)
  have B3 := Lib.hid (balloc (bstep B2.out hb3) (mob R 28))
  clear hb3
  have PP' := PP.out
  obtain ⟨a1, a2, a3, a4, a5, a6, a7⟩ := PP'
  have PT' := PT.out
  obtain ⟨b1, b2, b3, b4, b5, b6, b7⟩ := PT'
  go_wp2_with fail
  refine (PS.out _).mono ?_
  rintro e w4 ⟨rfl, hb4⟩
  clear a1 a2 a3 a4 a5 a6 a7
  clear b1 b2 b3 b4 b5 b6 b7
  have PT := Lib.hid (own_below PT.out hb4)
  have PX := Lib.hid (ownMo_below PX.out hb4)
  have B4 := Lib.hid (bstep B3.out hb4)
  clear hb4 PP
  go_wp2_with fail
  refine (O1.out _ B4.out).mono ?_
  rintro e w5 ⟨rfl, hb5⟩
  have PT := Lib.hid (own_below PT.out hb5)
  have PX := Lib.hid (ownMo_below PX.out hb5)
  have B5 := Lib.hid (bstep B4.out hb5)
  clear hb5
  go_wp2_with fail
  refine (S.out _ (plc_in PL.out (balloc B5.out (mob R' 28)) gz)).mono ?_
  rintro e w6 ⟨rfl, hb6⟩
  have B6 := bstep (balloc B5.out (mob R' 28)) hb6
  go_wp2
  go_ret
  exact ⟨rfl, B6⟩
set_option maxRecDepth 100000 in
set_option maxHeartbeats 4000000 in
theorem mcen_no1 (a : Option Addr) (n cap : Nat) (p t : P3) (q : P3) (R R' : Mo) (E' : Int) (w : World) (pl : Plc w) (h : n ≤ 300) (C0 : Hid (∀ W, Calls Tryd.prog 29 #[ptv t, .int .i64 128] W fun e w' => e = .returned (.bool true) ∧ Below W.heap.size W w')) (C1 : Hid (∀ W, Calls Tryd.prog 29 #[ptv p, .int .i64 64] W fun e w' => e = .returned (.bool true) ∧ Below W.heap.size W w')) (O0 : Hid (∀ W, Below w.heap.size w W → Calls Tryd.prog 13 #[.slice a n cap, ptv p] W fun e w' => e = .returned (.tuple #[mov R, .int .i64 0]) ∧ Below W.heap.size W w')) (O1 : Hid (∀ W, Below w.heap.size w W → Calls Tryd.prog 13 #[.slice a n cap, ptv q] W fun e w' => e = .returned (.tuple #[mov R', .int .i64 E']) ∧ Below W.heap.size W w')) (PS : Hid (∀ W, Calls Tryd.prog 30 #[ptv p, ptv t] W fun e w' => e = .returned (ptv q) ∧ Below W.heap.size W w')) (z : (E' != 0) = true) (S : Hid (∀ W, Plc W → Calls Tryd.prog 12 #[] W fun e w' => e = .returned (.bool true) ∧ Below W.heap.size W w')) : Calls Tryd.prog 8 #[.slice a n cap, ptv p, ptv t] w fun e w' => e = .returned (.bool true) ∧ Below w.heap.size w w' := by
  have PL := Lib.hid pl
  have gz : 0 < w.heap.size := pl.2
  clear pl
  have h' : (n : Int) ≤ 300 := by omega
  have d1 : decide ((300 : Int) < (n : Int)) = false := decide_eq_false (by omega)
  have d2 : decide (300 < n) = false := decide_eq_false (by omega)
  clear h
  go_enter Tryd.func8, Tryd.ntmps8
  go_wp2_with fail
  refine (C0.out _).mono ?_
  rintro e w1 ⟨rfl, hb1⟩
  have PP := Lib.hid (own_below (own_alloc (own_new w p 24) (ptc t 24)) hb1)
  have PT := Lib.hid (by have z := own_below (own_new (w.alloc (ptc p 24)) t 24) hb1; simp only [World.size_alloc] at z; exact z : Own w1 (w.heap.size + 1) t)
  have B1 := Lib.hid (bstep (balloc (balloc (Below.refl _ w) _) _) hb1)
  clear hb1
  have PP' := PP.out
  obtain ⟨a1, a2, a3, a4, a5, a6, a7⟩ := PP'
  go_wp2_with fail
  refine (C1.out _).mono ?_
  rintro e w2 ⟨rfl, hb2⟩
  clear a1 a2 a3 a4 a5 a6 a7
  have PP := Lib.hid (own_below PP.out hb2)
  have PT := Lib.hid (own_below PT.out hb2)
  have B2 := Lib.hid (bstep B1.out hb2)
  clear hb2
  have PP' := PP.out
  obtain ⟨a1, a2, a3, a4, a5, a6, a7⟩ := PP'
  go_wp2_with fail
  refine (O0.out _ B2.out).mono ?_
  rintro e w3 ⟨rfl, hb3⟩
  clear a1 a2 a3 a4 a5 a6 a7
  have PP := Lib.hid (own_alloc (own_below PP.out hb3) (mob R 28))
  have PT := Lib.hid (own_alloc (own_below PT.out hb3) (mob R 28))
  have PX := Lib.hid (ownMo_new w3 R 28)
  have B3 := Lib.hid (balloc (bstep B2.out hb3) (mob R 28))
  clear hb3
  have PP' := PP.out
  obtain ⟨a1, a2, a3, a4, a5, a6, a7⟩ := PP'
  have PT' := PT.out
  obtain ⟨b1, b2, b3, b4, b5, b6, b7⟩ := PT'
  go_wp2_with fail
  refine (PS.out _).mono ?_
  rintro e w4 ⟨rfl, hb4⟩
  clear a1 a2 a3 a4 a5 a6 a7
  clear b1 b2 b3 b4 b5 b6 b7
  have PT := Lib.hid (own_below PT.out hb4)
  have PX := Lib.hid (ownMo_below PX.out hb4)
  have B4 := Lib.hid (bstep B3.out hb4)
  clear hb4 PP
  go_wp2_with fail
  refine (O1.out _ B4.out).mono ?_
  rintro e w5 ⟨rfl, hb5⟩
  have PT := Lib.hid (own_below PT.out hb5)
  have PX := Lib.hid (ownMo_below PX.out hb5)
  have B5 := Lib.hid (bstep B4.out hb5)
  clear hb5
  go_wp2_with fail
  refine (S.out _ (plc_in PL.out (balloc B5.out (mob R' 28)) gz)).mono ?_
  rintro e w6 ⟨rfl, hb6⟩
  have B6 := bstep (balloc B5.out (mob R' 28)) hb6
  go_wp2
  go_ret
  exact ⟨rfl, B6⟩
set_option maxRecDepth 100000 in
set_option maxHeartbeats 4000000 in
theorem mcen_ok (a : Option Addr) (n cap : Nat) (p t : P3) (q : P3) (R R' : Mo) (w : World) (pl : Plc w) (h : n ≤ 300) (C0 : Hid (∀ W, Calls Tryd.prog 29 #[ptv t, .int .i64 128] W fun e w' => e = .returned (.bool true) ∧ Below W.heap.size W w')) (C1 : Hid (∀ W, Calls Tryd.prog 29 #[ptv p, .int .i64 64] W fun e w' => e = .returned (.bool true) ∧ Below W.heap.size W w')) (O0 : Hid (∀ W, Below w.heap.size w W → Calls Tryd.prog 13 #[.slice a n cap, ptv p] W fun e w' => e = .returned (.tuple #[mov R, .int .i64 0]) ∧ Below W.heap.size W w')) (O1 : Hid (∀ W, Below w.heap.size w W → Calls Tryd.prog 13 #[.slice a n cap, ptv q] W fun e w' => e = .returned (.tuple #[mov R', .int .i64 0]) ∧ Below W.heap.size W w')) (PS : Hid (∀ W, Calls Tryd.prog 30 #[ptv p, ptv t] W fun e w' => e = .returned (ptv q) ∧ Below W.heap.size W w')) (SH : Hid (∀ W, Plc W → Calls Tryd.prog 27 #[mov R, ptv t] W fun e w' => e = .returned (.tuple #[mov R', .int .i64 0]) ∧ Below W.heap.size W w')) (S : Hid (∀ W, Plc W → Calls Tryd.prog 12 #[] W fun e w' => e = .returned (.bool true) ∧ Below W.heap.size W w')) : Calls Tryd.prog 8 #[.slice a n cap, ptv p, ptv t] w fun e w' => e = .returned (.bool true) ∧ Below w.heap.size w w' := by
  have PL := Lib.hid pl
  have gz : 0 < w.heap.size := pl.2
  clear pl
  have h' : (n : Int) ≤ 300 := by omega
  have d1 : decide ((300 : Int) < (n : Int)) = false := decide_eq_false (by omega)
  have d2 : decide (300 < n) = false := decide_eq_false (by omega)
  clear h
  go_enter Tryd.func8, Tryd.ntmps8
  go_wp2_with fail
  refine (C0.out _).mono ?_
  rintro e w1 ⟨rfl, hb1⟩
  have PP := Lib.hid (own_below (own_alloc (own_new w p 24) (ptc t 24)) hb1)
  have PT := Lib.hid (by have z := own_below (own_new (w.alloc (ptc p 24)) t 24) hb1; simp only [World.size_alloc] at z; exact z : Own w1 (w.heap.size + 1) t)
  have B1 := Lib.hid (bstep (balloc (balloc (Below.refl _ w) _) _) hb1)
  clear hb1
  have PP' := PP.out
  obtain ⟨a1, a2, a3, a4, a5, a6, a7⟩ := PP'
  go_wp2_with fail
  refine (C1.out _).mono ?_
  rintro e w2 ⟨rfl, hb2⟩
  clear a1 a2 a3 a4 a5 a6 a7
  have PP := Lib.hid (own_below PP.out hb2)
  have PT := Lib.hid (own_below PT.out hb2)
  have B2 := Lib.hid (bstep B1.out hb2)
  clear hb2
  have PP' := PP.out
  obtain ⟨a1, a2, a3, a4, a5, a6, a7⟩ := PP'
  go_wp2_with fail
  refine (O0.out _ B2.out).mono ?_
  rintro e w3 ⟨rfl, hb3⟩
  clear a1 a2 a3 a4 a5 a6 a7
  have PP := Lib.hid (own_alloc (own_below PP.out hb3) (mob R 28))
  have PT := Lib.hid (own_alloc (own_below PT.out hb3) (mob R 28))
  have PX := Lib.hid (ownMo_new w3 R 28)
  have B3 := Lib.hid (balloc (bstep B2.out hb3) (mob R 28))
  clear hb3
  have PP' := PP.out
  obtain ⟨a1, a2, a3, a4, a5, a6, a7⟩ := PP'
  have PT' := PT.out
  obtain ⟨b1, b2, b3, b4, b5, b6, b7⟩ := PT'
  go_wp2_with fail
  refine (PS.out _).mono ?_
  rintro e w4 ⟨rfl, hb4⟩
  clear a1 a2 a3 a4 a5 a6 a7
  clear b1 b2 b3 b4 b5 b6 b7
  have PT := Lib.hid (own_below PT.out hb4)
  have PX := Lib.hid (ownMo_below PX.out hb4)
  have B4 := Lib.hid (bstep B3.out hb4)
  clear hb4 PP
  go_wp2_with fail
  refine (O1.out _ B4.out).mono ?_
  rintro e w5 ⟨rfl, hb5⟩
  have PT := Lib.hid (own_below PT.out hb5)
  have PX := Lib.hid (ownMo_below PX.out hb5)
  have B5 := Lib.hid (bstep B4.out hb5)
  clear hb5
  have PT' := PT.out
  obtain ⟨b1, b2, b3, b4, b5, b6, b7⟩ := PT'
  have PX' := PX.out
  obtain ⟨⟨x0, x1, x2, x3, x4, x5, x6, x7, x8, x9, x10⟩, _, lx⟩ := PX'
  go_wp2_with fail
  refine (SH.out _ (plc_in PL.out (balloc B5.out (mob R' 28)) gz)).mono ?_
  rintro e w6 ⟨rfl, hb6⟩
  clear b1 b2 b3 b4 b5 b6 b7
  clear x0 x1 x2 x3 x4 x5 x6 x7 x8 x9 x10 lx
  have PY := Lib.hid (ownMo_below (ownMo_new w5 R' 28) hb6)
  have B6 := Lib.hid (bstep (balloc B5.out (mob R' 28)) hb6)
  clear hb6
  have PY' := PY.out
  obtain ⟨⟨y0, y1, y2, y3, y4, y5, y6, y7, y8, y9, y10⟩, _, ly⟩ := PY'
  have e6 := same6 9998
  have e7 := same6 9997
  go_wp2_with fail
  refine (S.out _ (plc_in PL.out (balloc B6.out (mob R' 28)) gz)).mono ?_
  rintro e w7 ⟨rfl, hb7⟩
  have B7 := bstep (balloc B6.out (mob R' 28)) hb7
  clear y0 y1 y2 y3 y4 y5 y6 y7 y8 y9 y10 ly
  go_wp2
  go_ret
  exact ⟨rfl, B7⟩
theorem mcen_walk (a : Option Addr) (n cap : Nat) (p t : P3) (Q : Nat → Ch) (w : World) (pl : Plc w) (hm : n ≤ maxLen) (r : LstC w a n Q) : Calls Tryd.prog 8 #[.slice a n cap, ptv p, ptv t] w fun e w' => e = .returned (.bool true) ∧ Below w.heap.size w w' := by
  unfold maxLen at hm
  have S : Hid (∀ W, Plc W → Calls Tryd.prog 12 #[] W fun e w' => e = .returned (.bool true) ∧ Below W.heap.size W w') := Lib.hid fun W p => sane_any W p
  cases h : decide (300 < n) with
  | true => exact mcen_big a n cap p t w pl h hm S
  | false =>
    have h3 : n ≤ 300 := by have := of_decide_eq_false h; omega
    have c0 := fun W => small_any t 128 W (by decide) (by decide)
    have c1 := fun W => small_any p 64 W (by decide) (by decide)
    cases k0 : inP 128 t with
    | false => rw [k0] at c0; exact mcen_far0 a n cap p t w pl h3 (Lib.hid c0) S
    | true =>
      cases k1 : inP 64 p with
      | false => rw [k0] at c0; rw [k1] at c1; exact mcen_far1 a n cap p t w pl h3 (Lib.hid c0) (Lib.hid c1) S
      | true =>
        rw [k0] at c0
        rw [k1] at c1
        have o0 := fun W (B : Below w.heap.size w W) => of_any a n cap Q p W (plc_in pl B pl.2) (lstC_below r B) (by omega)
        have o1 := fun W (B : Below w.heap.size w W) => of_any a n cap Q (add p t) W (plc_in pl B pl.2) (lstC_below r B) (by omega)
        have ps := Lib.hid fun W => plus4_any p t W ((add_bd (inP_iff.1 k1) (inP_iff.1 k0)).mono (by decide))
        by_cases z0 : ocode n Q p = 0
        · by_cases z1 : ocode n Q (add p t) = 0
          · rw [if_pos z0, z0] at o0
            rw [if_pos z1, z1] at o1
            have sh := fun W p' => mshf_any (mof p Q n) t W p'
            rw [cen_sh z0 z1 k0] at sh
            exact mcen_ok a n cap p t (add p t) _ _ w pl h3 (Lib.hid c0) (Lib.hid c1) (Lib.hid o0) (Lib.hid o1) ps (Lib.hid sh) S
          · rw [z0] at o0
            exact mcen_no1 a n cap p t (add p t) _ _ _ w pl h3 (Lib.hid c0) (Lib.hid c1) (Lib.hid o0) (Lib.hid o1) ps (int_ne0 z1) S
        · exact mcen_no0 a n cap p t (add p t) _ _ _ _ w pl h3 (Lib.hid c0) (Lib.hid c1) (Lib.hid o0) (Lib.hid o1) ps (int_ne0 z0) S

end Go.Proofs.YtfpenkgkcjpknaaDoor
