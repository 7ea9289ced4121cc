/-
  The law ShapeMeasures: for every mesh it answers true.
-/
import Derived.Test.YtjflgiegnibgmaaMe3
import Derived.Test.YtjflgiegnibgmaaValsW
namespace Go.Proofs.Ytjflgiegnibgmaa
open Go.ChangeShapes Go.WideShapes Go.RowKit
open Sh
theorem sarea_any (a : Option Addr) (np c : Nat) (a' : Option Addr) (nf c' : Nat) (P F : Nat → P3) (w : World) (rp : Lst w a np P) (rf : Lst w a' nf F) (hn : np ≤ 1000000) (hm : nf ≤ 1000000) : Calls Try.prog 12 #[msv a np c a' nf c'] w fun e w' => e = .returned (spr (if vcode ⟨np, nf, P, F⟩ = 0 then arS P F nf else ((0, 0), vcode ⟨np, nf, P, F⟩))) ∧ Below w.heap.size w w' := by
  have V := fun W (B : Below w.heap.size w W) => val_any a np c a' nf c' P F W (lst_below rp B) (lst_below rf B) hn hm
  by_cases z : vcode ⟨np, nf, P, F⟩ = 0
  · obtain ⟨h1, h2, h3, h4, h5, h6⟩ := vcode_rows z
    obtain ⟨b', off', rfl, rF⟩ := rf h3
    obtain ⟨b, off, rfl, rP⟩ := rp h1
    rw [z] at V
    rw [if_pos z]
    exact sar_ok _ np c _ nf c' P F w (Lib.hid V) (Lib.hid fun W B => panels_row b off np c b' off' nf c' P F W (row3_below rP B) (row3_below rF B) (by omega) (by omega) h3 h5) h3 h4 h6
  · rw [if_neg z]
    exact sar_no a np c a' nf c' _ w (Lib.hid V) z
theorem rarea_any (a : Option Addr) (np c : Nat) (a' : Option Addr) (nf c' : Nat) (P F : Nat → P3) (w : World) (rp : Lst w a np P) (rf : Lst w a' nf F) (hn : np ≤ 1000000) (hm : nf ≤ 1000000) : Calls Try.prog 13 #[msv a np c a' nf c'] w fun e w' => e = .returned (spr (if vcode ⟨np, nf, P, F⟩ = 0 then arS P F nf else ((0, 0), vcode ⟨np, nf, P, F⟩))) ∧ Below w.heap.size w w' := by
  have V := fun W (B : Below w.heap.size w W) => rval_any a np c a' nf c' P F W (lst_below rp B) (lst_below rf B) hn hm
  by_cases z : vcode ⟨np, nf, P, F⟩ = 0
  · obtain ⟨h1, h2, h3, h4, h5, h6⟩ := vcode_rows z
    obtain ⟨b', off', rfl, rF⟩ := rf h3
    obtain ⟨b, off, rfl, rP⟩ := rp h1
    rw [z] at V
    rw [if_pos z]
    exact rar_ok b off np c b' off' nf c' P F w (Lib.hid V) rP rF (by omega) h3 h4 h5 h6
  · rw [if_neg z]
    exact rar_no a np c a' nf c' _ w (Lib.hid V) z
theorem meas_long (a : Option Addr) (np c : Nat) (a' : Option Addr) (nf c' : Nat) (w : World) (hL : Hid (∀ W, Calls Try.prog 6 #[msv a np c a' nf c'] W fun e' w' => e' = .returned (.bool true) ∧ Below W.heap.size W w')) (hK : Hid (∀ W, Calls Try.prog 7 #[] W fun e' w' => e' = .returned (.bool true) ∧ Below W.heap.size W w')) : Calls Try.prog 3 #[msv a np c a' nf c'] w fun e w' => e = .returned (.bool true) ∧ Below w.heap.size w w' := by
  go_enter Try.func3, Try.ntmps3
  go_wp2_with fail
  refine (hL.out _).mono ?_
  rintro e w1 ⟨rfl, hb1⟩
  go_wp2_with fail
  refine (hK.out _).mono ?_
  rintro e w2 ⟨rfl, hb2⟩
  go_wp2
  go_ret
  exact ⟨rfl, by (repeat' (first | exact Below.refl _ _ | refine bstep ?_ hb1 | refine bstep ?_ hb2 | refine Below.setCell ?_ (by simp <;> omega) _ | refine balloc ?_ _ | refine Below.drew ?_ | refine bdrewN ?_ _))⟩
set_option maxRecDepth 100000 in
set_option maxHeartbeats 4000000 in
theorem meas_walk0 (a : Option Addr) (np c : Nat) (a' : Option Addr) (nf c' : Nat) (v e1 : Int) (q : P3) (x y e2 : Int) (w : World) (hL : Hid (∀ W, Calls Try.prog 6 #[msv a np c a' nf c'] W fun e' w' => e' = .returned (.bool false) ∧ Below W.heap.size W w')) (C1 : Hid (∀ W, Below w.heap.size w W → Calls Try.prog 8 #[msv a np c a' nf c'] W fun e' w' => e' = .returned (.tuple #[.int .i64 v, .int .i64 e1]) ∧ Below W.heap.size W w')) (C2 : Hid (∀ W, Below w.heap.size w W → Calls Try.prog 9 #[msv a np c a' nf c'] W fun e' w' => e' = .returned (.tuple #[.int .i64 v, .int .i64 e1]) ∧ Below W.heap.size W w')) (C3 : Hid (∀ W, Below w.heap.size w W → Calls Try.prog 10 #[msv a np c a' nf c'] W fun e' w' => e' = .returned (.tuple #[ptv q, .int .i64 e1]) ∧ Below W.heap.size W w')) (C4 : Hid (∀ W, Below w.heap.size w W → Calls Try.prog 11 #[msv a np c a' nf c'] W fun e' w' => e' = .returned (.tuple #[ptv q, .int .i64 e1]) ∧ Below W.heap.size W w')) (C5 : Hid (∀ W, Below w.heap.size w W → Calls Try.prog 12 #[msv a np c a' nf c'] W fun e' w' => e' = .returned (spr ((x, y), e2)) ∧ Below W.heap.size W w')) (C6 : Hid (∀ W, Below w.heap.size w W → Calls Try.prog 13 #[msv a np c a' nf c'] W fun e' w' => e' = .returned (spr ((x, y), e2)) ∧ Below W.heap.size W w')) (hK : Hid (∀ W, Calls Try.prog 7 #[] W fun e' w' => e' = .returned (.bool true) ∧ Below W.heap.size W w')) : Calls Try.prog 3 #[msv a np c a' nf c'] w fun e w' => e = .returned (.bool true) ∧ Below w.heap.size w w' := by
  go_enter Try.func3, Try.ntmps3
  go_wp2_with fail
  refine (hL.out _).mono ?_
  rintro e w1 ⟨rfl, hb1⟩
  have MM := Lib.hid (mes_below (mes_new w a np c a' nf c' 25) hb1)
  have BB := Lib.hid (bstep (balloc (Below.refl _ w) _) hb1)
  clear hb1
  obtain ⟨m1, m2, m3⟩ := MM.out
  go_wp2_with fail
  refine (C1.out _ BB.out).mono ?_
  rintro e w2 ⟨rfl, hb2⟩
  clear m1 m2 m3
  have MM := Lib.hid (mes_below MM.out hb2)
  have BB := Lib.hid ((bstep BB.out hb2))
  clear hb2
  obtain ⟨m1, m2, m3⟩ := MM.out
  go_wp2_with fail
  refine (C2.out _ BB.out).mono ?_
  rintro e w3 ⟨rfl, hb3⟩
  clear m1 m2 m3
  have MM := Lib.hid (mes_below MM.out hb3)
  have BB := Lib.hid ((bstep BB.out hb3))
  clear hb3
  obtain ⟨m1, m2, m3⟩ := MM.out
  go_wp2_with fail
  refine (C3.out _ BB.out).mono ?_
  rintro e w4 ⟨rfl, hb4⟩
  clear m1 m2 m3
  have MM := Lib.hid (mes_alloc (mes_below MM.out hb4) (ptc q 32))
  have BB := Lib.hid (balloc (bstep BB.out hb4) (ptc q 32))
  have OC3 := Lib.hid (own_new w4 q 32)
  clear hb4
  obtain ⟨m1, m2, m3⟩ := MM.out
  go_wp2_with fail
  refine (C4.out _ BB.out).mono ?_
  rintro e w5 ⟨rfl, hb5⟩
  clear m1 m2 m3
  have MM := Lib.hid (mes_alloc (mes_below MM.out hb5) (ptc q 32))
  have OC3 := Lib.hid (own_alloc (own_below OC3.out hb5) (ptc q 32))
  have BB := Lib.hid (balloc (bstep BB.out hb5) (ptc q 32))
  have OC4 := Lib.hid (own_new w5 q 32)
  clear hb5
  obtain ⟨m1, m2, m3⟩ := MM.out
  go_wp2_with fail
  refine (C5.out _ BB.out).mono ?_
  rintro e w6 ⟨rfl, hb6⟩
  clear m1 m2 m3
  have MM := Lib.hid (mes_alloc (mes_below MM.out hb6) (.cells #[.int .i64 x, .int .i64 y] 36))
  have OC3 := Lib.hid (own_alloc (own_below OC3.out hb6) (.cells #[.int .i64 x, .int .i64 y] 36))
  have OC4 := Lib.hid (own_alloc (own_below OC4.out hb6) (.cells #[.int .i64 x, .int .i64 y] 36))
  have BB := Lib.hid (balloc (bstep BB.out hb6) (.cells #[.int .i64 x, .int .i64 y] 36))
  have OC5 := Lib.hid (pair_new w6 x y 36)
  clear hb6
  obtain ⟨m1, m2, m3⟩ := MM.out
  go_wp2_with fail
  refine (C6.out _ BB.out).mono ?_
  rintro e w7 ⟨rfl, hb7⟩
  clear m1 m2 m3
  have MM := Lib.hid (mes_alloc (mes_below MM.out hb7) (.cells #[.int .i64 x, .int .i64 y] 36))
  have OC3 := Lib.hid (own_alloc (own_below OC3.out hb7) (.cells #[.int .i64 x, .int .i64 y] 36))
  have OC4 := Lib.hid (own_alloc (own_below OC4.out hb7) (.cells #[.int .i64 x, .int .i64 y] 36))
  have OC5 := Lib.hid (pair_alloc (pair_below OC5.out hb7) (.cells #[.int .i64 x, .int .i64 y] 36))
  have BB := Lib.hid (balloc (bstep BB.out hb7) (.cells #[.int .i64 x, .int .i64 y] 36))
  have OC6 := Lib.hid (pair_new w7 x y 36)
  clear hb7
  obtain ⟨a1, a2, a3, _, _, _, a7⟩ := OC3.out
  obtain ⟨b1, b2, b3, _, _, _, b7⟩ := OC4.out
  obtain ⟨p1, p2, _, _, p5⟩ := OC5.out
  obtain ⟨q1, q2, _, _, q5⟩ := OC6.out
  go_wp2_with fail
  refine (hK.out _).mono ?_
  rintro e w8 ⟨rfl, hb8⟩
  have B8 := bstep BB.out hb8
  clear a1 a2 a3 a7 b1 b2 b3 b7 p1 p2 p5 q1 q2 q5
  go_wp2
  go_ret
  exact ⟨rfl, B8⟩
theorem meas_walk (a : Option Addr) (np c : Nat) (P : Nat → P3) (a' : Option Addr) (nf c' : Nat) (F : Nat → P3) (w : World) (l : np ≤ maxLen) (k : nf ≤ maxLen) (rp : Lst w a np P) (rf : Lst w a' nf F) :
    Calls Try.prog 3 #[msv a np c a' nf c'] w fun e w' => e = .returned (.bool true) ∧ Below w.heap.size w w' := by
  unfold maxLen at l k
  have L := fun W => long_any a np c a' nf c' W (by omega) (by omega)
  by_cases g : 200 < np ∨ 300 < nf
  · rw [decide_eq_true g] at L
    exact meas_long a np c a' nf c' w (Lib.hid L) (Lib.hid fun W => known_any2 W)
  · rw [decide_eq_false g] at L
    exact meas_walk0 a np c a' nf c' _ _ _ _ _ _ w (Lib.hid L)
      (Lib.hid fun W B => s6_any a np c a' nf c' P F W (lst_below rp B) (lst_below rf B) (by omega) (by omega))
      (Lib.hid fun W B => r6_any a np c a' nf c' P F W (lst_below rp B) (lst_below rf B) (by omega) (by omega))
      (Lib.hid fun W B => scen_any a np c a' nf c' P F W (lst_below rp B) (lst_below rf B) (by omega) (by omega))
      (Lib.hid fun W B => rcen_any a np c a' nf c' P F W (lst_below rp B) (lst_below rf B) (by omega) (by omega))
      (Lib.hid fun W B => sarea_any a np c a' nf c' P F W (lst_below rp B) (lst_below rf B) (by omega) (by omega))
      (Lib.hid fun W B => rarea_any a np c a' nf c' P F W (lst_below rp B) (lst_below rf B) (by omega) (by omega))
      (Lib.hid fun W => known_any2 W)

end Go.Proofs.Ytjflgiegnibgmaa
