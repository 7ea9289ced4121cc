/-
  The law SoundLater: its walk.
-/
import Derived.Test.YtemchbdlckcmkaaSoMc
import Derived.Test.YtemchbdlckcmkaaSoMd
import Derived.Test.YtemchbdlckcmkaaSoE
import Derived.Test.YtemchbdlckcmkaaSoMf
namespace Go.Proofs.Ytemchbdlckcmkaa
open Go.ChangeShapes Go.WideShapes Go.RowKit
open Sh
set_option maxRecDepth 100000 in
set_option maxHeartbeats 4000000 in
theorem laters_n (a : Option Addr) (n c : Nat) (y : Int) (x : P3) (s t d : Int) (w : World) (h1 : (60 : Int) < (n : Int)) (K : Hid (∀ W, Calls Try.prog 10 #[] W fun e w' => e = .returned (.bool true) ∧ Below W.heap.size W w')) : Calls Try.prog 4 #[.slice a n c, .int .i64 y, earv x s t d] w fun e w' => e = .returned (.bool true) ∧ Below w.heap.size w w' := by
  go_enter Try.func4, Try.ntmps4
  go_wp2_with fail
  refine (K.out _).mono ?_
  rintro e w1 ⟨rfl, hb1⟩
  go_wp2
  go_ret
  exact ⟨rfl, by (repeat' (first | exact Below.refl _ _ | refine bstep ?_ hb1 | refine Below.setCell ?_ (by simp <;> omega) _ | refine balloc ?_ _ | refine Below.drew ?_ | refine bdrewN ?_ _))⟩
set_option maxRecDepth 100000 in
set_option maxHeartbeats 4000000 in
theorem laters_lo (a : Option Addr) (n c : Nat) (y : Int) (x : P3) (s t d : Int) (w : World) (h1 : decide ((60 : Int) < (n : Int)) = false) (h2 : y < 0) (K : Hid (∀ W, Calls Try.prog 10 #[] W fun e w' => e = .returned (.bool true) ∧ Below W.heap.size W w')) : Calls Try.prog 4 #[.slice a n c, .int .i64 y, earv x s t d] w fun e w' => e = .returned (.bool true) ∧ Below w.heap.size w w' := by
  go_enter Try.func4, Try.ntmps4
  go_wp2_with fail
  refine (K.out _).mono ?_
  rintro e w1 ⟨rfl, hb1⟩
  go_wp2
  go_ret
  exact ⟨rfl, by (repeat' (first | exact Below.refl _ _ | refine bstep ?_ hb1 | refine Below.setCell ?_ (by simp <;> omega) _ | refine balloc ?_ _ | refine Below.drew ?_ | refine bdrewN ?_ _))⟩
set_option maxRecDepth 100000 in
set_option maxHeartbeats 4000000 in
theorem laters_hi (a : Option Addr) (n c : Nat) (y : Int) (x : P3) (s t d : Int) (w : World) (h1 : decide ((60 : Int) < (n : Int)) = false) (h2 : decide (y < 0) = false) (h3 : 1000 < y) (K : Hid (∀ W, Calls Try.prog 10 #[] W fun e w' => e = .returned (.bool true) ∧ Below W.heap.size W w')) : Calls Try.prog 4 #[.slice a n c, .int .i64 y, earv x s t d] w fun e w' => e = .returned (.bool true) ∧ Below w.heap.size w w' := by
  go_enter Try.func4, Try.ntmps4
  go_wp2_with fail
  refine (K.out _).mono ?_
  rintro e w1 ⟨rfl, hb1⟩
  go_wp2
  go_ret
  exact ⟨rfl, by (repeat' (first | exact Below.refl _ _ | refine bstep ?_ hb1 | refine Below.setCell ?_ (by simp <;> omega) _ | refine balloc ?_ _ | refine Below.drew ?_ | refine bdrewN ?_ _))⟩
set_option maxRecDepth 100000 in
set_option maxHeartbeats 4000000 in
theorem laters_er (a : Option Addr) (n c : Nat) (y : Int) (x : P3) (s t d er : Int) (w : World) (h1 : decide ((60 : Int) < (n : Int)) = false) (h2 : decide (y < 0) = false) (h3 : decide (1000 < y) = false) (z : (er != 0) = true) (PR : Value → World → Prop) (C1 : Hid (∀ W, Below w.heap.size w W → Calls Try.prog 11 #[.slice a n c, .int .i64 y] W fun e w' => ∃ v, e = .returned (.tuple #[v, .int .i64 er]) ∧ PR v w' ∧ Below W.heap.size W w')) (K : Hid (∀ W, Calls Try.prog 10 #[] W fun e w' => e = .returned (.bool true) ∧ Below W.heap.size W w')) : Calls Try.prog 4 #[.slice a n c, .int .i64 y, earv x s t d] w fun e w' => e = .returned (.bool true) ∧ Below w.heap.size w w' := by
  have E0 := Lib.hid (ownE_new w x s t d 29)
  have B0 := Lib.hid (show Below w.heap.size w (w.alloc (earb x s t d 29)) by (repeat' (first | exact Below.refl _ _ | refine Below.setCell ?_ (by simp <;> omega) _ | refine balloc ?_ _ | refine Below.drew ?_ | refine bdrewN ?_ _)))
  go_enter Try.func4, Try.ntmps4
  go_wp2_with fail
  refine (C1.out _ B0.out).mono ?_
  rintro e w1 ⟨v, rfl, p1, hb1⟩
  have P1 := Lib.hid p1
  have E1 := Lib.hid (ownE_below E0.out hb1)
  have B1 := Lib.hid (bstep B0.out hb1)
  clear p1
  obtain ⟨⟨q0, q1, q2, q3, q4, q5⟩, el⟩ := E1.out
  go_wp2_with fail
  refine (K.out _).mono ?_
  rintro e w6 ⟨rfl, hb6⟩
  go_wp2
  go_ret
  exact ⟨rfl, bstep B1.out hb6⟩
set_option maxRecDepth 100000 in
set_option maxHeartbeats 4000000 in
theorem laters_tl (a : Option Addr) (n c : Nat) (y : Int) (x : P3) (s t d : Int) (w : World) (h1 : decide ((60 : Int) < (n : Int)) = false) (h2 : decide (y < 0) = false) (h3 : decide (1000 < y) = false) (z : t < 0) (PR : Value → World → Prop) (C1 : Hid (∀ W, Below w.heap.size w W → Calls Try.prog 11 #[.slice a n c, .int .i64 y] W fun e w' => ∃ v, e = .returned (.tuple #[v, .int .i64 0]) ∧ PR v w' ∧ Below W.heap.size W w')) (K : Hid (∀ W, Calls Try.prog 10 #[] W fun e w' => e = .returned (.bool true) ∧ Below W.heap.size W w')) : Calls Try.prog 4 #[.slice a n c, .int .i64 y, earv x s t d] w fun e w' => e = .returned (.bool true) ∧ Below w.heap.size w w' := by
  have E0 := Lib.hid (ownE_new w x s t d 29)
  have B0 := Lib.hid (show Below w.heap.size w (w.alloc (earb x s t d 29)) by (repeat' (first | exact Below.refl _ _ | refine Below.setCell ?_ (by simp <;> omega) _ | refine balloc ?_ _ | refine Below.drew ?_ | refine bdrewN ?_ _)))
  go_enter Try.func4, Try.ntmps4
  go_wp2_with fail
  refine (C1.out _ B0.out).mono ?_
  rintro e w1 ⟨v, rfl, p1, hb1⟩
  have P1 := Lib.hid p1
  have E1 := Lib.hid (ownE_below E0.out hb1)
  have B1 := Lib.hid (bstep B0.out hb1)
  clear p1
  obtain ⟨⟨q0, q1, q2, q3, q4, q5⟩, el⟩ := E1.out
  go_wp2_with fail
  refine (K.out _).mono ?_
  rintro e w6 ⟨rfl, hb6⟩
  go_wp2
  go_ret
  exact ⟨rfl, bstep B1.out hb6⟩
set_option maxRecDepth 100000 in
set_option maxHeartbeats 4000000 in
theorem laters_th (a : Option Addr) (n c : Nat) (y : Int) (x : P3) (s t d : Int) (w : World) (h1 : decide ((60 : Int) < (n : Int)) = false) (h2 : decide (y < 0) = false) (h3 : decide (1000 < y) = false) (z : decide (t < 0) = false) (z2 : 1000 < t) (PR : Value → World → Prop) (C1 : Hid (∀ W, Below w.heap.size w W → Calls Try.prog 11 #[.slice a n c, .int .i64 y] W fun e w' => ∃ v, e = .returned (.tuple #[v, .int .i64 0]) ∧ PR v w' ∧ Below W.heap.size W w')) (K : Hid (∀ W, Calls Try.prog 10 #[] W fun e w' => e = .returned (.bool true) ∧ Below W.heap.size W w')) : Calls Try.prog 4 #[.slice a n c, .int .i64 y, earv x s t d] w fun e w' => e = .returned (.bool true) ∧ Below w.heap.size w w' := by
  have E0 := Lib.hid (ownE_new w x s t d 29)
  have B0 := Lib.hid (show Below w.heap.size w (w.alloc (earb x s t d 29)) by (repeat' (first | exact Below.refl _ _ | refine Below.setCell ?_ (by simp <;> omega) _ | refine balloc ?_ _ | refine Below.drew ?_ | refine bdrewN ?_ _)))
  go_enter Try.func4, Try.ntmps4
  go_wp2_with fail
  refine (C1.out _ B0.out).mono ?_
  rintro e w1 ⟨v, rfl, p1, hb1⟩
  have P1 := Lib.hid p1
  have E1 := Lib.hid (ownE_below E0.out hb1)
  have B1 := Lib.hid (bstep B0.out hb1)
  clear p1
  obtain ⟨⟨q0, q1, q2, q3, q4, q5⟩, el⟩ := E1.out
  go_wp2_with fail
  refine (K.out _).mono ?_
  rintro e w6 ⟨rfl, hb6⟩
  go_wp2
  go_ret
  exact ⟨rfl, bstep B1.out hb6⟩
set_option maxRecDepth 100000 in
set_option maxHeartbeats 4000000 in
theorem laters_ok (a : Option Addr) (n c : Nat) (y : Int) (x : P3) (s t d : Int) (r : Sp.R) (w : World) (h1 : decide ((60 : Int) < (n : Int)) = false) (h2 : decide (y < 0) = false) (h3 : decide (1000 < y) = false) (y1 : 0 ≤ y) (y2 : y ≤ 1000) (z : decide (t < 0) = false) (z2 : decide (1000 < t) = false) (t1 : 0 ≤ t) (t2 : t ≤ 1000) (PR : Value → World → Prop) (PB : Hid (∀ v W W', PR v W → Below W.heap.size W W' → PR v W')) (C1 : Hid (∀ W, Below w.heap.size w W → Calls Try.prog 11 #[.slice a n c, .int .i64 y] W fun e w' => ∃ v, e = .returned (.tuple #[v, .int .i64 0]) ∧ PR v w' ∧ Below W.heap.size W w'))
    (S1 : Hid (∀ W, Below w.heap.size w W → Calls Try.prog 12 #[.slice a n c, ptv x, .int .i64 s, .int .i64 t, .int .i64 d] W fun e w' => e = .returned (spr r) ∧ Below W.heap.size W w')) (S2 : Hid (∀ v W, PR v W → Calls Try.prog 12 #[v, ptv x, .int .i64 s, .int .i64 (t + y), .int .i64 d] W fun e w' => e = .returned (spr r) ∧ Below W.heap.size W w')) (K : Hid (∀ W, Calls Try.prog 10 #[] W fun e w' => e = .returned (.bool true) ∧ Below W.heap.size W w')) : Calls Try.prog 4 #[.slice a n c, .int .i64 y, earv x s t d] w fun e w' => e = .returned (.bool true) ∧ Below w.heap.size w w' := by
  obtain ⟨⟨u, v8⟩, c8⟩ := r
  have E0 := Lib.hid (ownE_new w x s t d 29)
  have B0 := Lib.hid (show Below w.heap.size w (w.alloc (earb x s t d 29)) by (repeat' (first | exact Below.refl _ _ | refine Below.setCell ?_ (by simp <;> omega) _ | refine balloc ?_ _ | refine Below.drew ?_ | refine bdrewN ?_ _)))
  go_enter Try.func4, Try.ntmps4
  go_wp2_with fail
  refine (C1.out _ B0.out).mono ?_
  rintro e w1 ⟨v, rfl, p1, hb1⟩
  have P1 := Lib.hid p1
  have E1 := Lib.hid (ownE_below E0.out hb1)
  have B1 := Lib.hid (bstep B0.out hb1)
  clear p1
  obtain ⟨⟨q0, q1, q2, q3, q4, q5⟩, el⟩ := E1.out
  go_wp2_with fail
  refine (S1.out _ B1.out).mono ?_
  rintro e w2 ⟨rfl, hb2⟩
  have hZ := (Below.refl w2.heap.size w2).alloc (Nat.le_refl _) (.cells #[.int .i64 u, .int .i64 v8] 31)
  have P2 := Lib.hid (PB.out _ _ _ (PB.out _ _ _ P1.out hb2) hZ)
  have E2 := Lib.hid (ownE_below (ownE_below E1.out hb2) hZ)
  have Z2 := Lib.hid (pair_new w2 u v8 31)
  have B2 := Lib.hid (balloc (bstep B1.out hb2) (.cells #[.int .i64 u, .int .i64 v8] 31))
  clear q0 q1 q2 q3 q4 q5 el hZ
  obtain ⟨⟨q0, q1, q2, q3, q4, q5⟩, el⟩ := E2.out
  go_wp2_with fail
  refine (S2.out _ _ P2.out).mono ?_
  rintro e w3 ⟨rfl, hb3⟩
  clear q0 q1 q2 q3 q4 q5 el
  obtain ⟨z0, z1, z3, z4, zl⟩ := pair_alloc (pair_below Z2.out hb3) (.cells #[.int .i64 u, .int .i64 v8] 31)
  obtain ⟨y0, y1', y2', y3, yl⟩ := pair_new w3 u v8 31
  have B3 := Lib.hid (balloc (bstep B2.out hb3) (.cells #[.int .i64 u, .int .i64 v8] 31))
  go_wp2_with fail
  refine (K.out _).mono ?_
  rintro e w6 ⟨rfl, hb6⟩
  go_wp2
  go_ret
  exact ⟨rfl, bstep B3.out hb6⟩
theorem laters_walk (a : Option Addr) (n c : Nat) (Q : Nat → Pu) (y : Int) (x : P3) (s t d : Int) (w : World) (hm : n ≤ maxLen) (hnil : a = none → c = 0) (r : LstU w a n Q) : Calls Try.prog 4 #[.slice a n c, .int .i64 y, earv x s t d] w fun e w' => e = .returned (.bool true) ∧ Below w.heap.size w w' := by
  unfold maxLen at hm
  have K := Lib.hid fun W => sane_any W
  by_cases h1 : (60 : Int) < (n : Int)
  · exact laters_n a n c y x s t d w h1 K
  by_cases h2 : y < 0
  · exact laters_lo a n c y x s t d w (decide_eq_false h1) h2 K
  by_cases h3 : 1000 < y
  · exact laters_hi a n c y x s t d w (decide_eq_false h1) (decide_eq_false h2) h3 K
  have C1 := Lib.hid fun W (B : Below w.heap.size w W) => del_any a n c Q y W (lstU_below r B) hnil (by omega)
  by_cases z : dcode n Q y = 0
  · rw [z] at C1
    by_cases t1 : t < 0
    · exact laters_tl a n c y x s t d w (decide_eq_false h1) (decide_eq_false h2) (decide_eq_false h3) t1 _ C1 K
    by_cases t2 : 1000 < t
    · exact laters_th a n c y x s t d w (decide_eq_false h1) (decide_eq_false h2) (decide_eq_false h3) (decide_eq_false t1) t2 _ C1 K
    refine laters_ok a n c y x s t d (scnR n Q x s t d) w (decide_eq_false h1) (decide_eq_false h2) (decide_eq_false h3) (by omega) (by omega) (decide_eq_false t1) (decide_eq_false t2) (by omega) (by omega) (fun v W => PuR W n 0 (shf Q y) v) (Lib.hid fun v W W' p b => puR_below p b) C1 (Lib.hid fun W B => scn_any a n c Q x s t d W (lstU_below r B) (by omega)) (Lib.hid fun v W p => ?_) K
    unfold PuR at p
    rw [if_pos rfl] at p
    obtain ⟨a', c', rfl, l'⟩ := lst_of_pu p
    have e := scn_later (x := x) (s := s) (t := t) (d := d) z (by omega) (by omega) (by omega) (by omega)
    rw [← e]
    exact scn_any a' n c' (shf Q y) x s (t + y) d W l' (by omega)
  · exact laters_er a n c y x s t d _ w (decide_eq_false h1) (decide_eq_false h2) (decide_eq_false h3) (bne_iff_ne.2 z) _ C1 K

end Go.Proofs.Ytemchbdlckcmkaa
