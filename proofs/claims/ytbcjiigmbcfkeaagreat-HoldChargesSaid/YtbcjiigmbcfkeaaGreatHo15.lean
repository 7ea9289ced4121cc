/-
  Stage 7: the law HoldCharges: its walk.
-/
import Derived.Test.YtbcjiigmbcfkeaaGreatHo14
namespace Go.Proofs.YtbcjiigmbcfkeaaGreat
open Go.ChangeShapes Go.WideShapes Go.RowKit
open Sh
theorem mes_cells {w : World} {q np c nf c' : Nat} {a a' : Option Addr} (m : Mes w q a np c a' nf c') : w.cell? ⟨q, 0, none⟩ = some (.slice a np c) ∧ w.cell? ⟨q, 1, none⟩ = some (.slice a' nf c') := ⟨m.1, m.2.1⟩
set_option maxRecDepth 100000 in
set_option maxHeartbeats 2000000 in
theorem hch_h (a : Option Addr) (np c : Nat) (a' : Option Addr) (nf c' : Nat) (b : Option Addr) (n cap : Nat) (D : Int) (w : World) (HV : Hid (∀ W, Below w.heap.size w W → Calls Tryz.prog 13 #[msv a np c a' nf c', .int .i64 (-1)] W fun e w' => e = .returned (.bool true) ∧ Below W.heap.size W w')) (SA : Hid (∀ W, Calls Tryz.prog 14 #[] W fun e w' => e = .returned (.bool true) ∧ Below W.heap.size W w')) : Calls Tryz.prog 3 #[msv a np c a' nf c', .slice b n cap, .int .i64 D] w fun e w' => e = .returned (.bool true) ∧ Below w.heap.size w w' := by
  have M0 := Lib.hid (mes_new w a np c a' nf c' 25)
  have B0 := Lib.hid (show Below w.heap.size w (w.alloc (msc a np c a' nf c' 25)) from (Below.refl _ w).alloc (Nat.le_refl _) _)
  obtain ⟨m0, m1, ml⟩ := M0.out
  go_enter Tryz.func3, Tryz.ntmps3
  go_wp2_with fail
  with_reducible refine (HV.out _ B0.out).mono ?_
  rintro e w1 ⟨rfl, hb1⟩
  have M1 := Lib.hid (mes_below M0.out hb1)
  have B1 := Lib.hid (bstep B0.out hb1)
  clear hb1 m0 m1 ml M0 B0
  obtain ⟨m0, m1, ml⟩ := M1.out
  go_wp2_with fail
  with_reducible refine (SA.out _).mono ?_
  rintro e w2 ⟨rfl, hb2⟩
  have hB := bstep B1.out hb2
  clear hb2 m0 m1 ml
  go_wp2
  go_ret
  exact ⟨rfl, by (repeat' (first | with_reducible exact hB | with_reducible refine Below.drew ?_ | (with_reducible refine balloc ?_ _) | (with_reducible refine Below.setCell ?_ (by simp <;> omega) _)))⟩
set_option maxRecDepth 100000 in
set_option maxHeartbeats 2000000 in
theorem hch_n (a : Option Addr) (np c : Nat) (a' : Option Addr) (nf c' : Nat) (b : Option Addr) (n cap : Nat) (D : Int) (w : World) (hn : (300 : Int) < (n : Int)) (HV : Hid (∀ W, Below w.heap.size w W → Calls Tryz.prog 13 #[msv a np c a' nf c', .int .i64 (-1)] W fun e w' => e = .returned (.bool false) ∧ Below W.heap.size W w')) (SA : Hid (∀ W, Calls Tryz.prog 14 #[] W fun e w' => e = .returned (.bool true) ∧ Below W.heap.size W w')) : Calls Tryz.prog 3 #[msv a np c a' nf c', .slice b n cap, .int .i64 D] w fun e w' => e = .returned (.bool true) ∧ Below w.heap.size w w' := by
  have M0 := Lib.hid (mes_new w a np c a' nf c' 25)
  have B0 := Lib.hid (show Below w.heap.size w (w.alloc (msc a np c a' nf c' 25)) from (Below.refl _ w).alloc (Nat.le_refl _) _)
  obtain ⟨m0, m1, ml⟩ := M0.out
  go_enter Tryz.func3, Tryz.ntmps3
  go_wp2_with fail
  with_reducible refine (HV.out _ B0.out).mono ?_
  rintro e w1 ⟨rfl, hb1⟩
  have M1 := Lib.hid (mes_below M0.out hb1)
  have B1 := Lib.hid (bstep B0.out hb1)
  clear hb1 m0 m1 ml M0 B0
  obtain ⟨m0, m1, ml⟩ := M1.out
  go_wp2_with fail
  with_reducible refine (SA.out _).mono ?_
  rintro e w2 ⟨rfl, hb2⟩
  have hB := bstep B1.out hb2
  clear hb2 m0 m1 ml
  go_wp2
  go_ret
  exact ⟨rfl, by (repeat' (first | with_reducible exact hB | with_reducible refine Below.drew ?_ | (with_reducible refine balloc ?_ _) | (with_reducible refine Below.setCell ?_ (by simp <;> omega) _)))⟩
set_option maxRecDepth 100000 in
set_option maxHeartbeats 4000000 in
theorem hch_w (a : Option Addr) (np c : Nat) (a' : Option Addr) (nf c' : Nat) (b : Option Addr) (n cap : Nat) (D : Int) (x y u : Int) (w : World) (hn : ¬ (300 : Int) < (n : Int)) (HV : Hid (∀ W, Below w.heap.size w W → Calls Tryz.prog 13 #[msv a np c a' nf c', .int .i64 (-1)] W fun e w' => e = .returned (.bool false) ∧ Below W.heap.size W w')) (SA : Hid (∀ W, Calls Tryz.prog 14 #[] W fun e w' => e = .returned (.bool true) ∧ Below W.heap.size W w')) (W1 : Hid (∀ W, Below w.heap.size w W → Calls Tryz.prog 15 #[msv a np c a' nf c', .int .i64 D] W fun e w' => e = .returned (.tuple #[.int .i64 x, .int .i64 y]) ∧ Below W.heap.size W w')) (W2 : Hid (∀ W, Below w.heap.size w W → Calls Tryz.prog 16 #[msv a np c a' nf c', .int .i64 D] W fun e w' => e = .returned (.tuple #[.int .i64 x, .int .i64 y]) ∧ Below W.heap.size W w')) (V1 : Hid (∀ W, Below w.heap.size w W → Calls Tryz.prog 17 #[msv a np c a' nf c', .slice b n cap] W fun e w' => e = .returned (.int .i64 u) ∧ Below W.heap.size W w')) (V2 : Hid (∀ W, Below w.heap.size w W → Calls Tryz.prog 18 #[msv a np c a' nf c', .slice b n cap] W fun e w' => e = .returned (.int .i64 u) ∧ Below W.heap.size W w')) : Calls Tryz.prog 3 #[msv a np c a' nf c', .slice b n cap, .int .i64 D] w fun e w' => e = .returned (.bool true) ∧ Below w.heap.size w w' := by
  have M0 := Lib.hid (mes_new w a np c a' nf c' 25)
  have B0 := Lib.hid (show Below w.heap.size w (w.alloc (msc a np c a' nf c' 25)) from (Below.refl _ w).alloc (Nat.le_refl _) _)
  obtain ⟨m0, m1, ml⟩ := M0.out
  go_enter Tryz.func3, Tryz.ntmps3
  go_wp2_with fail
  with_reducible refine (HV.out _ B0.out).mono ?_
  rintro e w1 ⟨rfl, hb1⟩
  have M1 := Lib.hid (mes_below M0.out hb1)
  have B1 := Lib.hid (bstep B0.out hb1)
  clear hb1 m0 m1 ml M0 B0
  obtain ⟨m0, m1, ml⟩ := M1.out
  go_wp2_with fail
  with_reducible refine (W1.out _ B1.out).mono ?_
  rintro e w2 ⟨rfl, hb2⟩
  have M2 := Lib.hid (mes_below M1.out hb2)
  have B2 := Lib.hid (bstep B1.out hb2)
  clear hb2 m0 m1 ml M1 B1
  obtain ⟨m0, m1, ml⟩ := M2.out
  go_wp2_with fail
  with_reducible refine (W2.out _ B2.out).mono ?_
  rintro e w3 ⟨rfl, hb3⟩
  have M3 := Lib.hid (mes_below M2.out hb3)
  have B3 := Lib.hid (bstep B2.out hb3)
  clear hb3 m0 m1 ml M2 B2
  obtain ⟨m0, m1, ml⟩ := M3.out
  have i0 : Mes w3.drew w.heap.size a np c a' nf c' := M3.out
  have b0 := Lib.hid (show Below w.heap.size w w3.drew from Below.drew B3.out)
  clear m0 m1 ml M3 B3
  go_wp2_with fail
  go_region_held3 (fun w' => w'.cell? ⟨w.heap.size, 0, none⟩ = some (.slice a np c) ∧ w'.cell? ⟨w.heap.size, 1, none⟩ = some (.slice a' nf c'))
    (first | (with_reducible exact mes_cells i0) | (with_reducible exact mes_cells i1) | (with_reducible exact mes_cells i2) | (with_reducible exact mes_cells i3) | fail)
    (first
      | (go_at_call 17; (first | ((with_reducible refine (V1.out _ b0.out).mono ?_); rintro e v1 ⟨rfl, hv⟩; have i1 := mes_below i0 hv; have b1 := Lib.hid (bstep b0.out hv); clear hv) | ((with_reducible refine (V1.out _ b1.out).mono ?_); rintro e v2 ⟨rfl, hv⟩; have i2 := mes_below i1 hv; have b2 := Lib.hid (bstep b1.out hv); clear hv)))
      | (go_at_call 18; (first | ((with_reducible refine (V2.out _ b0.out).mono ?_); rintro e v1 ⟨rfl, hv⟩; have i1 := mes_below i0 hv; have b1 := Lib.hid (bstep b0.out hv); clear hv) | ((with_reducible refine (V2.out _ b1.out).mono ?_); rintro e v2 ⟨rfl, hv⟩; have i2 := mes_below i1 hv; have b2 := Lib.hid (bstep b1.out hv); clear hv)))
      | (go_at_call 14; (with_reducible refine (SA.out _).mono ?_); rintro e v3 ⟨rfl, hv⟩; have i3 := mes_below i2 hv; have b3 := Lib.hid (bstep b2.out hv); clear hv)
      | fail)
  all_goals
    have hB := b3.out
    go_wp2
    go_ret
    exact ⟨rfl, by (repeat' (first | with_reducible exact hB | with_reducible refine Below.drew ?_ | (with_reducible refine balloc ?_ _) | (with_reducible refine Below.setCell ?_ (by simp <;> omega) _)))⟩
theorem hcharges_walk (a : Option Addr) (np c : Nat) (P : Nat → P3) (a' : Option Addr) (nf c' : Nat) (F : Nat → P3) (b : Option Addr) (n cap : Nat) (ch : Nat → Int) (D : Int) (w : World) (_ : np ≤ maxLen) (_ : nf ≤ maxLen) (rp : Lst w a np P) (rf : Lst w a' nf F) (_ : n ≤ maxLen) (rc : LstI w b n ch) : Calls Tryz.prog 3 #[msv a np c a' nf c', .slice b n cap, .int .i64 D] w fun e w' => e = .returned (.bool true) ∧ Below w.heap.size w w' := by
  have SA := Lib.hid (fun W => san_any W)
  have key := hvy_m1 a np c a' nf c' P F w rp rf
  by_cases h : (decide (200 < np) || decide (200 < nf)) = true
  · rw [h] at key
    exact hch_h a np c a' nf c' b n cap D w (Lib.hid key) SA
  · have h' : (decide (200 < np) || decide (200 < nf)) = false := by simpa using h
    rw [h'] at key
    rw [Bool.or_eq_false_iff] at h'
    have h1 := of_decide_eq_false h'.1
    have h2 := of_decide_eq_false h'.2
    by_cases k : (300 : Int) < (n : Int)
    · exact hch_n a np c a' nf c' b n cap D w k (Lib.hid key) SA
    · exact hch_w a np c a' nf c' b n cap D _ _ _ w k (Lib.hid key) SA
        (Lib.hid fun W B => hwk_any a np c a' nf c' D P F W (lst_below rp B) (lst_below rf B) (by omega) (by omega)) (Lib.hid fun W B => rwk_any a np c a' nf c' D P F W (lst_below rp B) (lst_below rf B) (by omega) (by omega))
        (Lib.hid fun W B => hvc_any a np c a' nf c' b n cap P F ch W (lst_below rp B) (lst_below rf B) (lstI_below rc B) (by omega) (by omega) (by omega)) (Lib.hid fun W B => rvc_any a np c a' nf c' b n cap P F ch W (lst_below rp B) (lst_below rf B) (lstI_below rc B) (by omega) (by omega) (by omega))
end Go.Proofs.YtbcjiigmbcfkeaaGreat
