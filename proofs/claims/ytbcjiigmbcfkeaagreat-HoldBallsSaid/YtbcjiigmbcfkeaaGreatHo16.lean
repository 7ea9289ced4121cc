/-
  Stage 7: the law HoldBalls: its walk.
-/
import Derived.Test.YtbcjiigmbcfkeaaGreatHo14
namespace Go.Proofs.YtbcjiigmbcfkeaaGreat
open Go.ChangeShapes Go.WideShapes Go.RowKit
open Sh
set_option maxRecDepth 100000 in
set_option maxHeartbeats 2000000 in
theorem hba_h (a : Option Addr) (np c : Nat) (a' : Option Addr) (nf c' : Nat) (x : P3) (w : World) (HV : Hid (∀ W, Below w.heap.size w W → Calls Tryz.prog 13 #[msv a np c a' nf c', .int .i64 (-1)] W fun e w' => e = .returned (.bool true) ∧ Below W.heap.size W w')) (SA : Hid (∀ W, Calls Tryz.prog 14 #[] W fun e w' => e = .returned (.bool true) ∧ Below W.heap.size W w')) : Calls Tryz.prog 7 #[msv a np c a' nf c', ptv x] w fun e w' => e = .returned (.bool true) ∧ Below w.heap.size w w' := by
  have M0 := Lib.hid (mes_alloc (mes_new w a np c a' nf c' 25) (ptc x 44))
  have X0 := Lib.hid (own_new (w.alloc (msc a np c a' nf c' 25)) x 44)
  simp only [World.size_alloc] at X0
  have B0 := Lib.hid (show Below w.heap.size w ((w.alloc (msc a np c a' nf c' 25)).alloc (ptc x 44)) from balloc (balloc (Below.refl _ w) _) _)
  obtain ⟨m0, m1, ml⟩ := M0.out
  obtain ⟨x0, x1, x2, x3, x4, x5, xl⟩ := X0.out
  go_enter Tryz.func7, Tryz.ntmps7
  go_wp2_with fail
  with_reducible refine (HV.out _ B0.out).mono ?_
  rintro e w1 ⟨rfl, hb1⟩
  have M1 := Lib.hid (mes_below M0.out hb1)
  have X1 := Lib.hid (own_below X0.out hb1)
  have B1 := Lib.hid (bstep B0.out hb1)
  clear hb1 m0 m1 ml x0 x1 x2 x3 x4 x5 xl M0 X0 B0
  obtain ⟨m0, m1, ml⟩ := M1.out
  obtain ⟨x0, x1, x2, x3, x4, x5, xl⟩ := X1.out
  go_wp2_with fail
  with_reducible refine (SA.out _).mono ?_
  rintro e w2 ⟨rfl, hb2⟩
  have hB := bstep B1.out hb2
  clear hb2 m0 m1 ml x0 x1 x2 x3 x4 x5 xl
  go_wp2
  go_ret
  exact ⟨rfl, by (repeat' (first | with_reducible exact hB | with_reducible refine Below.drew ?_ | (with_reducible refine balloc ?_ _) | (with_reducible refine Below.setCell ?_ (by simp <;> omega) _)))⟩
set_option maxRecDepth 100000 in
set_option maxHeartbeats 2000000 in
theorem hba_w (a : Option Addr) (np c : Nat) (a' : Option Addr) (nf c' : Nat) (x : P3) (u v : Int) (w : World) (HV : Hid (∀ W, Below w.heap.size w W → Calls Tryz.prog 13 #[msv a np c a' nf c', .int .i64 (-1)] W fun e w' => e = .returned (.bool false) ∧ Below W.heap.size W w')) (SA : Hid (∀ W, Calls Tryz.prog 14 #[] W fun e w' => e = .returned (.bool true) ∧ Below W.heap.size W w')) (A1 : Hid (∀ W, Below w.heap.size w W → Calls Tryz.prog 30 #[msv a np c a' nf c', ptv x] W fun e w' => e = .returned (.tuple #[.int .i64 u, .int .i64 v]) ∧ Below W.heap.size W w')) (A2 : Hid (∀ W, Below w.heap.size w W → Calls Tryz.prog 31 #[msv a np c a' nf c', ptv x] W fun e w' => e = .returned (.tuple #[.int .i64 u, .int .i64 v]) ∧ Below W.heap.size W w')) : Calls Tryz.prog 7 #[msv a np c a' nf c', ptv x] w fun e w' => e = .returned (.bool true) ∧ Below w.heap.size w w' := by
  have M0 := Lib.hid (mes_alloc (mes_new w a np c a' nf c' 25) (ptc x 44))
  have X0 := Lib.hid (own_new (w.alloc (msc a np c a' nf c' 25)) x 44)
  simp only [World.size_alloc] at X0
  have B0 := Lib.hid (show Below w.heap.size w ((w.alloc (msc a np c a' nf c' 25)).alloc (ptc x 44)) from balloc (balloc (Below.refl _ w) _) _)
  obtain ⟨m0, m1, ml⟩ := M0.out
  obtain ⟨x0, x1, x2, x3, x4, x5, xl⟩ := X0.out
  go_enter Tryz.func7, Tryz.ntmps7
  go_wp2_with fail
  with_reducible refine (HV.out _ B0.out).mono ?_
  rintro e w1 ⟨rfl, hb1⟩
  have M1 := Lib.hid (mes_below M0.out hb1)
  have X1 := Lib.hid (own_below X0.out hb1)
  have B1 := Lib.hid (bstep B0.out hb1)
  clear hb1 m0 m1 ml x0 x1 x2 x3 x4 x5 xl M0 X0 B0
  obtain ⟨m0, m1, ml⟩ := M1.out
  obtain ⟨x0, x1, x2, x3, x4, x5, xl⟩ := X1.out
  go_wp2_with fail
  with_reducible refine (A1.out _ B1.out).mono ?_
  rintro e w2 ⟨rfl, hb2⟩
  have M2 := Lib.hid (mes_below M1.out hb2)
  have X2 := Lib.hid (own_below X1.out hb2)
  have B2 := Lib.hid (bstep B1.out hb2)
  clear hb2 m0 m1 ml x0 x1 x2 x3 x4 x5 xl M1 X1 B1
  obtain ⟨m0, m1, ml⟩ := M2.out
  obtain ⟨x0, x1, x2, x3, x4, x5, xl⟩ := X2.out
  go_wp2_with fail
  with_reducible refine (A2.out _ B2.out).mono ?_
  rintro e w3 ⟨rfl, hb3⟩
  have M3 := Lib.hid (mes_below M2.out hb3)
  have X3 := Lib.hid (own_below X2.out hb3)
  have B3 := Lib.hid (bstep B2.out hb3)
  clear hb3 m0 m1 ml x0 x1 x2 x3 x4 x5 xl M2 X2 B2
  obtain ⟨m0, m1, ml⟩ := M3.out
  obtain ⟨x0, x1, x2, x3, x4, x5, xl⟩ := X3.out
  go_wp2_with fail
  with_reducible refine (SA.out _).mono ?_
  rintro e w4 ⟨rfl, hb4⟩
  have hB := bstep B3.out hb4
  clear hb4 m0 m1 ml x0 x1 x2 x3 x4 x5 xl
  go_wp2
  go_ret
  exact ⟨rfl, by (repeat' (first | with_reducible exact hB | with_reducible refine Below.drew ?_ | (with_reducible refine balloc ?_ _) | (with_reducible refine Below.setCell ?_ (by simp <;> omega) _)))⟩
theorem hballs_walk (a : Option Addr) (np c : Nat) (P : Nat → P3) (a' : Option Addr) (nf c' : Nat) (F : Nat → P3) (x : P3) (w : World) (_ : np ≤ maxLen) (_ : nf ≤ maxLen) (rp : Lst w a np P) (rf : Lst w a' nf F) : Calls Tryz.prog 7 #[msv a np c a' nf c', ptv x] w fun e w' => e = .returned (.bool true) ∧ Below w.heap.size w w' := by
  have SA := Lib.hid (fun W => san_any W)
  have key := hvy_m1 a np c a' nf c' P F w rp rf
  by_cases h : (decide (200 < np) || decide (200 < nf)) = true
  · rw [h] at key
    exact hba_h a np c a' nf c' x w (Lib.hid key) SA
  · have h' : (decide (200 < np) || decide (200 < nf)) = false := by simpa using h
    rw [h'] at key
    rw [Bool.or_eq_false_iff] at h'
    have h1 := of_decide_eq_false h'.1
    have h2 := of_decide_eq_false h'.2
    exact hba_w a np c a' nf c' x _ _ w (Lib.hid key) SA
      (Lib.hid fun W B => hbl_any a np c a' nf c' x P F W (lst_below rp B) (lst_below rf B) (by omega) (by omega)) (Lib.hid fun W B => rbl_any a np c a' nf c' x P F W (lst_below rp B) (lst_below rf B) (by omega) (by omega))
end Go.Proofs.YtbcjiigmbcfkeaaGreat
