/-
  The law MomentScales: for all charged panels, centers and numbers it answers true.
-/
import Derived.Test.YtjflgiegnibgmaaDoorMoLM0
namespace Go.Proofs.YtjflgiegnibgmaaDoor
open Go.ChangeShapes Go.WideShapes Go.RowKit
open Sh
set_option maxRecDepth 100000 in
set_option maxHeartbeats 4000000 in
theorem msl_big (a : Option Addr) (n cap : Nat) (p : P3) (k : Int) (w : World) (pl : Plc w) (h : decide (300 < n) = true) (hn : n ≤ 9223372036854775807) (S : Hid (∀ W, Plc W → Calls Tryd.prog 9 #[] W fun e w' => e = .returned (.bool true) ∧ Below W.heap.size W w')) : Calls Tryd.prog 5 #[.slice a n cap, ptv p, .int .i64 k] w fun e w' => e = .returned (.bool true) ∧ Below w.heap.size w w' := by
  have PL := Lib.hid pl
  have gz : 0 < w.heap.size := pl.2
  clear pl
  have h' : (300 : Int) < (n : Int) := by have := of_decide_eq_true h; omega
  clear h
  go_enter Tryd.func5, Tryd.ntmps5
  go_wp2_with fail
  refine (S.out _ (plc_alloc PL.out _)).mono ?_
  rintro e w1 ⟨rfl, hb1⟩
  go_wp2
  go_ret
  exact ⟨rfl, by (repeat' (first | exact Below.refl _ _ | refine bstep ?_ hb1 | refine Below.setCell ?_ (by simp <;> omega) _ | refine balloc ?_ _ | refine Below.drew ?_ | refine bdrewN ?_ _))⟩
set_option maxRecDepth 100000 in
set_option maxHeartbeats 4000000 in
theorem msl_lo (a : Option Addr) (n cap : Nat) (p : P3) (k : Int) (w : World) (pl : Plc w) (h : n ≤ 300) (hk : decide (k < 1) = true) (S : Hid (∀ W, Plc W → Calls Tryd.prog 9 #[] W fun e w' => e = .returned (.bool true) ∧ Below W.heap.size W w')) : Calls Tryd.prog 5 #[.slice a n cap, ptv p, .int .i64 k] w fun e w' => e = .returned (.bool true) ∧ Below w.heap.size w w' := by
  have PL := Lib.hid pl
  have gz : 0 < w.heap.size := pl.2
  clear pl
  have h' : (n : Int) ≤ 300 := by omega
  have d1 : decide ((300 : Int) < (n : Int)) = false := decide_eq_false (by omega)
  have d2 : decide (300 < n) = false := decide_eq_false (by omega)
  clear h
  go_enter Tryd.func5, Tryd.ntmps5
  go_wp2_with fail
  refine (S.out _ (plc_alloc PL.out _)).mono ?_
  rintro e w1 ⟨rfl, hb1⟩
  go_wp2
  go_ret
  exact ⟨rfl, by (repeat' (first | exact Below.refl _ _ | refine bstep ?_ hb1 | refine Below.setCell ?_ (by simp <;> omega) _ | refine balloc ?_ _ | refine Below.drew ?_ | refine bdrewN ?_ _))⟩
set_option maxRecDepth 100000 in
set_option maxHeartbeats 4000000 in
theorem msl_hi (a : Option Addr) (n cap : Nat) (p : P3) (k : Int) (w : World) (pl : Plc w) (h : n ≤ 300) (hk : decide (k < 1) = false) (hl : decide (64 < k) = true) (S : Hid (∀ W, Plc W → Calls Tryd.prog 9 #[] W fun e w' => e = .returned (.bool true) ∧ Below W.heap.size W w')) : Calls Tryd.prog 5 #[.slice a n cap, ptv p, .int .i64 k] w fun e w' => e = .returned (.bool true) ∧ Below w.heap.size w w' := by
  have PL := Lib.hid pl
  have gz : 0 < w.heap.size := pl.2
  clear pl
  have h' : (n : Int) ≤ 300 := by omega
  have d1 : decide ((300 : Int) < (n : Int)) = false := decide_eq_false (by omega)
  have d2 : decide (300 < n) = false := decide_eq_false (by omega)
  clear h
  go_enter Tryd.func5, Tryd.ntmps5
  go_wp2_with fail
  refine (S.out _ (plc_alloc PL.out _)).mono ?_
  rintro e w1 ⟨rfl, hb1⟩
  go_wp2
  go_ret
  exact ⟨rfl, by (repeat' (first | exact Below.refl _ _ | refine bstep ?_ hb1 | refine Below.setCell ?_ (by simp <;> omega) _ | refine balloc ?_ _ | refine Below.drew ?_ | refine bdrewN ?_ _))⟩
set_option maxRecDepth 100000 in
set_option maxHeartbeats 4000000 in
theorem msl_far (a : Option Addr) (n cap : Nat) (p : P3) (k : Int) (w : World) (pl : Plc w) (h : n ≤ 300) (hk : decide (k < 1) = false) (hl : decide (64 < k) = false) (C0 : Hid (∀ W, Calls Tryd.prog 15 #[ptv p, .int .i64 64] W fun e w' => e = .returned (.bool false) ∧ Below W.heap.size W w')) (S : Hid (∀ W, Plc W → Calls Tryd.prog 9 #[] W fun e w' => e = .returned (.bool true) ∧ Below W.heap.size W w')) : Calls Tryd.prog 5 #[.slice a n cap, ptv p, .int .i64 k] w fun e w' => e = .returned (.bool true) ∧ Below w.heap.size w w' := by
  have PL := Lib.hid pl
  have gz : 0 < w.heap.size := pl.2
  clear pl
  have h' : (n : Int) ≤ 300 := by omega
  have d1 : decide ((300 : Int) < (n : Int)) = false := decide_eq_false (by omega)
  have d2 : decide (300 < n) = false := decide_eq_false (by omega)
  clear h
  go_enter Tryd.func5, Tryd.ntmps5
  go_wp2_with fail
  refine (C0.out _).mono ?_
  rintro e w1 ⟨rfl, hb1⟩
  have PP := Lib.hid (own_below (own_new w p 24) hb1)
  have B1 := Lib.hid (bstep (balloc (Below.refl _ w) _) hb1)
  clear hb1
  go_wp2_with fail
  refine (S.out _ (plc_in PL.out B1.out gz)).mono ?_
  rintro e w2 ⟨rfl, hb2⟩
  have B2 := bstep B1.out hb2
  go_wp2
  go_ret
  exact ⟨rfl, B2⟩
set_option maxRecDepth 100000 in
set_option maxHeartbeats 4000000 in
theorem msl_no0 (a : Option Addr) (n cap : Nat) (p : P3) (k : Int) (R : Mo) (E : Int) (w : World) (pl : Plc w) (h : n ≤ 300) (hk : decide (k < 1) = false) (hl : decide (64 < k) = false) (C0 : Hid (∀ W, Calls Tryd.prog 15 #[ptv p, .int .i64 64] W fun e w' => e = .returned (.bool true) ∧ Below W.heap.size W w')) (O0 : Hid (∀ W, Below w.heap.size w W → Calls Tryd.prog 10 #[.slice a n cap, ptv p] W fun e w' => e = .returned (.tuple #[mov R, .int .i64 E]) ∧ Below W.heap.size W w')) (z : (E != 0) = true) (S : Hid (∀ W, Plc W → Calls Tryd.prog 9 #[] W fun e w' => e = .returned (.bool true) ∧ Below W.heap.size W w')) : Calls Tryd.prog 5 #[.slice a n cap, ptv p, .int .i64 k] w fun e w' => e = .returned (.bool true) ∧ Below w.heap.size w w' := by
  have PL := Lib.hid pl
  have gz : 0 < w.heap.size := pl.2
  clear pl
  have h' : (n : Int) ≤ 300 := by omega
  have d1 : decide ((300 : Int) < (n : Int)) = false := decide_eq_false (by omega)
  have d2 : decide (300 < n) = false := decide_eq_false (by omega)
  clear h
  go_enter Tryd.func5, Tryd.ntmps5
  go_wp2_with fail
  refine (C0.out _).mono ?_
  rintro e w1 ⟨rfl, hb1⟩
  have PP := Lib.hid (own_below (own_new w p 24) hb1)
  have B1 := Lib.hid (bstep (balloc (Below.refl _ w) _) hb1)
  clear hb1
  have PP0 := Lib.hid (show w.heap.size < w1.heap.size from PP.out.2.2.2.2.2.2)
  have PP' := PP.out
  obtain ⟨a1, a2, a3, a4, a5, a6, a7⟩ := PP'
  go_wp2_with fail
  refine (O0.out _ B1.out).mono ?_
  rintro e w2 ⟨rfl, hb2⟩
  clear a1 a2 a3 a4 a5 a6 a7
  have PP := Lib.hid (own_alloc (own_below PP.out hb2) (mob R 28))
  have PX := Lib.hid (ownMo_new w2 R 28)
  have LG := Lib.hid (show w.heap.size < w2.heap.size from Nat.lt_of_lt_of_le PP0.out hb2.size)
  have B2 := Lib.hid (balloc (bstep B1.out hb2) (mob R 28))
  clear hb2
  go_wp2_with fail
  refine (S.out _ (plc_in PL.out B2.out gz)).mono ?_
  rintro e w3 ⟨rfl, hb3⟩
  have B3 := bstep B2.out hb3
  go_wp2
  go_ret
  exact ⟨rfl, B3⟩
set_option maxRecDepth 100000 in
set_option maxHeartbeats 4000000 in
theorem msl_run (a : Option Addr) (n cap : Nat) (p : P3) (k : Int) (Q : Nat → Ch) (R R' : Mo) (E' : Int) (w : World) (pl : Plc w) (h : n ≤ 300) (hk : decide (k < 1) = false) (hl : decide (64 < k) = false) (C0 : Hid (∀ W, Calls Tryd.prog 15 #[ptv p, .int .i64 64] W fun e w' => e = .returned (.bool true) ∧ Below W.heap.size W w')) (O0 : Hid (∀ W, Below w.heap.size w W → Calls Tryd.prog 10 #[.slice a n cap, ptv p] W fun e w' => e = .returned (.tuple #[mov R, .int .i64 0]) ∧ Below W.heap.size W w'))
    (TS : Hid (∀ j, j < n → ∀ W, (Calls Tryd.prog 16 #[ptv (Q j).1.1, .int .i64 k] W fun e w' => e = .returned (ptv (tim k (Q j).1.1)) ∧ Below W.heap.size W w') ∧ (Calls Tryd.prog 16 #[ptv (Q j).1.2.1, .int .i64 k] W fun e w' => e = .returned (ptv (tim k (Q j).1.2.1)) ∧ Below W.heap.size W w') ∧ (Calls Tryd.prog 16 #[ptv (Q j).1.2.2, .int .i64 k] W fun e w' => e = .returned (ptv (tim k (Q j).1.2.2)) ∧ Below W.heap.size W w')))
    (TP : Hid (∀ W, Calls Tryd.prog 16 #[ptv p, .int .i64 k] W fun e w' => e = .returned (ptv (tim k p)) ∧ Below W.heap.size W w')) (O1 : Hid (∀ W ao c', Plc W → LstC W ao n (fun i => timQ k (Q i)) → Calls Tryd.prog 10 #[.slice ao n c', ptv (tim k p)] W fun e w' => e = .returned (.tuple #[mov R', .int .i64 E']) ∧ Below W.heap.size W w')) (SH : Hid (E' = 0 → ∀ W, Calls Tryd.prog 17 #[mov R, .int .i64 k] W fun e w' => e = .returned (.tuple #[mov R', .int .i64 0]) ∧ Below W.heap.size W w')) (r : LstC w a n Q) (S : Hid (∀ W, Plc W → Calls Tryd.prog 9 #[] W fun e w' => e = .returned (.bool true) ∧ Below W.heap.size W w')) : Calls Tryd.prog 5 #[.slice a n cap, ptv p, .int .i64 k] w fun e w' => e = .returned (.bool true) ∧ Below w.heap.size w w' := by
  have PL := Lib.hid pl
  have gz : 0 < w.heap.size := pl.2
  clear pl
  have h' : (n : Int) ≤ 300 := by omega
  have d1 : decide ((300 : Int) < (n : Int)) = false := decide_eq_false (by omega)
  have d2 : decide (300 < n) = false := decide_eq_false (by omega)
  clear h
  have RR := Lib.hid r
  clear r
  go_enter Tryd.func5, Tryd.ntmps5
  go_wp2_with fail
  refine (C0.out _).mono ?_
  rintro e w1 ⟨rfl, hb1⟩
  have PP := Lib.hid (own_below (own_new w p 24) hb1)
  have B1 := Lib.hid (bstep (balloc (Below.refl _ w) _) hb1)
  clear hb1
  have PP0 := Lib.hid (show w.heap.size < w1.heap.size from PP.out.2.2.2.2.2.2)
  have PP' := PP.out
  obtain ⟨a1, a2, a3, a4, a5, a6, a7⟩ := PP'
  go_wp2_with fail
  refine (O0.out _ B1.out).mono ?_
  rintro e w2 ⟨rfl, hb2⟩
  clear a1 a2 a3 a4 a5 a6 a7
  have PP := Lib.hid (own_alloc (own_below PP.out hb2) (mob R 28))
  have PX := Lib.hid (ownMo_new w2 R 28)
  have LG := Lib.hid (show w.heap.size < w2.heap.size from Nat.lt_of_lt_of_le PP0.out hb2.size)
  have B2 := Lib.hid (balloc (bstep B1.out hb2) (mob R 28))
  clear hb2
  have ST : SLR w (w2.alloc (mob R 28)) w2.heap.size p R Q k 0 (.slice none 0 0) := ⟨World.ownsRow_nil _ _ _ _, PX.out, PP.out, B2.out, by simp, LG.out⟩
  have STH := Lib.hid ST
  clear ST PX PP B2
  go_wp2
  go_loopw [9, 10] (fun v kv wr => ∃ j : Nat, j ≤ n ∧ kv = .int .i64 j ∧ SLR w wr w2.heap.size p R Q k j v) (fun _ kv _ => n - (intOf kv).toNat)
  case atStart => exact ⟨0, Nat.zero_le _, rfl, STH.out⟩
  case round =>
    clear STH
    obtain ⟨j, hj, rfl, st⟩ := hrel
    by_cases hlt : j < n
    · have SR := Lib.hid st
      clear st
      obtain ⟨b, off, ea, r1⟩ := RR.out (by omega)
      subst ea
      have hbw := r1.1
      have r2 := rowC_in r1 SR.out.2.2.2.1 hbw
      obtain ⟨c0, c1, c2, c3, c4, c5, c6, c7, c8, c9⟩ := r2.2 j hlt
      have r5 := r2.1
      clear r1 r2
      have hk1 : (j : Int) < (n : Int) := by omega
      have t0 := Lib.hid fun W => (TS.out j hlt W).1
      have t1 := Lib.hid fun W => (TS.out j hlt W).2.1
      have t2 := Lib.hid fun W => (TS.out j hlt W).2.2
      obtain ⟨q, eq⟩ : ∃ q, q = Q j := ⟨_, rfl⟩
      rw [← eq] at c0 c1 c2 c3 c4 c5 c6 c7 c8 c9 t0 t1 t2
      have EQ := Lib.hid (show timQ k (Q j) = ((tim k q.1.1, tim k q.1.2.1, tim k q.1.2.2), q.2) by rw [← eq]; rfl)
      clear eq
      obtain ⟨⟨a', b', c'⟩, z'⟩ := q
      dsimp only at c0 c1 c2 c3 c4 c5 c6 c7 c8 c9 t0 t1 t2 EQ
      have RS := Lib.hid (sls_drew (sls_new (a := a') (b := b') (c := c') SR.out c9 hbw 39))
      clear SR
      go_wp2
      go_region_held3 (fun w' => ((w'.cell? ⟨wr.heap.size, 0, none⟩ = some (.int .i64 a'.1) ∧ w'.cell? ⟨wr.heap.size, 1, none⟩ = some (.int .i64 a'.2.1) ∧ w'.cell? ⟨wr.heap.size, 2, none⟩ = some (.int .i64 a'.2.2) ∧ w'.cell? ⟨wr.heap.size, 3, none⟩ = some (.int .i64 b'.1) ∧ w'.cell? ⟨wr.heap.size, 4, none⟩ = some (.int .i64 b'.2.1) ∧ w'.cell? ⟨wr.heap.size, 5, none⟩ = some (.int .i64 b'.2.2) ∧ w'.cell? ⟨wr.heap.size, 6, none⟩ = some (.int .i64 c'.1) ∧ w'.cell? ⟨wr.heap.size, 7, none⟩ = some (.int .i64 c'.2.1) ∧ w'.cell? ⟨wr.heap.size, 8, none⟩ = some (.int .i64 c'.2.2)) ∧ w'.cell? ⟨b, off + j * 10 + 9, none⟩ = some (.int .i64 z')))
        (first | exact sls_cells RS.out | exact sls_cells (sls_alloc RS.out _) | exact RT.out.1)
        (first | (go_at_call 16; (with_reducible refine (t0.out _).mono ?_); rintro e vv ⟨rfl, hv⟩; have RS := Lib.hid (sls_below RS.out hv)) | (go_at_call 16; (with_reducible refine (t1.out _).mono ?_); rintro e vv ⟨rfl, hv⟩; have RS := Lib.hid (sls_below RS.out hv)) | (go_at_call 16; (with_reducible refine (t2.out _).mono ?_); rintro e vv ⟨rfl, hv⟩; have RS := Lib.hid (sls_below RS.out hv)) | ((obtain ⟨v', w', hr, hR⟩ := sls_push RS.out (by omega) EQ.out); (refine stepC rfl (.tmp 53) (.tmp 73) 22 rfl _ _ v' w' (by simp [Act.eval]) (by simp [Act.eval]) hr ?_); have RT := Lib.hid hR) | fail)
      all_goals
        have RT2 := Lib.hid RT.out.2
        clear RT RS c0 c1 c2 c3 c4 c5 c6 c7 c8 c9
        go_wp2
        go_roundw
        case rel => exact ⟨j + 1, by omega, by go_num, RT2.out⟩
        case measure => simp [intOf]; omega
    · obtain rfl : j = n := by omega
      have SR := Lib.hid st
      clear st
      obtain ⟨ao, c', ev, L⟩ := lstC_of SR.out.1
      subst ev
      have PP := Lib.hid SR.out.2.2.1
      have LL := Lib.hid L
      clear L
      have PP' := PP.out
      obtain ⟨a1, a2, a3, a4, a5, a6, a7⟩ := PP'
      go_wp2_with fail
      refine (TP.out _).mono ?_
      rintro e w4 ⟨rfl, hb4⟩
      clear a1 a2 a3 a4 a5 a6 a7
      have B4 := Lib.hid (bstep SR.out.2.2.2.1 hb4)
      have PX := Lib.hid (ownMo_below SR.out.2.1 hb4)
      have L4 := Lib.hid (lstC_below LL.out hb4)
      clear hb4 LL
      go_wp2_with fail
      refine (O1.out _ _ _ (plc_in PL.out B4.out gz) L4.out).mono ?_
      rintro e w5 ⟨rfl, hb5⟩
      have B5 := Lib.hid (bstep B4.out hb5)
      have PX := Lib.hid (ownMo_below PX.out hb5)
      clear hb5 L4 SR
      by_cases z : E' = 0
      · have SH' := Lib.hid (SH.out z)
        subst z
        have PX' := PX.out
        obtain ⟨⟨x0, x1, x2, x3, x4, x5, x6, x7, x8, x9, x10⟩, _, lx⟩ := PX'
        go_wp2_with fail
        refine (SH'.out _).mono ?_
        rintro e w6 ⟨rfl, hb6⟩
        clear x0 x1 x2 x3 x4 x5 x6 x7 x8 x9 x10 lx
        have PY := Lib.hid (ownMo_below (ownMo_new w5 R' 28) hb6)
        have B6 := Lib.hid (bstep (balloc B5.out (mob R' 28)) hb6)
        clear hb6
        have PY' := PY.out
        obtain ⟨⟨y0, y1, y2, y3, y4, y5, y6, y7, y8, y9, y10⟩, _, ly⟩ := PY'
        have e6 := same6 9998
        have e7 := same6 9997
        go_wp2_with fail
        refine (S.out _ (plc_in PL.out (balloc B6.out (mob R' 28)) gz)).mono ?_
        rintro e w7 ⟨rfl, hb7⟩
        have B7 := bstep (balloc B6.out (mob R' 28)) hb7
        clear y0 y1 y2 y3 y4 y5 y6 y7 y8 y9 y10 ly
        go_wp2
        go_ret
        exact ⟨rfl, B7⟩
      · have z1 := int_ne0 z
        go_wp2_with fail
        refine (S.out _ (plc_in PL.out (balloc B5.out (mob R' 28)) gz)).mono ?_
        rintro e w6 ⟨rfl, hb6⟩
        have B6 := bstep (balloc B5.out (mob R' 28)) hb6
        go_wp2
        go_ret
        exact ⟨rfl, B6⟩
theorem msl_walk (a : Option Addr) (n cap : Nat) (p : P3) (k : Int) (Q : Nat → Ch) (w : World) (pl : Plc w) (hm : n ≤ maxLen) (r : LstC w a n Q) : Calls Tryd.prog 5 #[.slice a n cap, ptv p, .int .i64 k] w fun e w' => e = .returned (.bool true) ∧ Below w.heap.size w w' := by
  unfold maxLen at hm
  have S : Hid (∀ W, Plc W → Calls Tryd.prog 9 #[] W fun e w' => e = .returned (.bool true) ∧ Below W.heap.size W w') := Lib.hid fun W p => sane_any W p
  cases h : decide (300 < n) with
  | true => exact msl_big a n cap p k w pl h hm S
  | false =>
    have h3 : n ≤ 300 := by have := of_decide_eq_false h; omega
    cases hk : decide (k < 1) with
    | true => exact msl_lo a n cap p k w pl h3 hk S
    | false =>
      cases hl : decide (64 < k) with
      | true => exact msl_hi a n cap p k w pl h3 hk hl S
      | false =>
        have k1 : 1 ≤ k := by have := of_decide_eq_false hk; omega
        have k2 : k ≤ 64 := by have := of_decide_eq_false hl; omega
        have c0 := fun W => small_any p 64 W (by decide) (by decide)
        cases k0 : inP 64 p with
        | false => rw [k0] at c0; exact msl_far a n cap p k w pl h3 hk hl (Lib.hid c0) S
        | true =>
          rw [k0] at c0
          have o0 := fun W (B : Below w.heap.size w W) => of_any a n cap Q p W (plc_in pl B pl.2) (lstC_below r B) (by omega)
          by_cases z0 : ocode n Q p = 0
          · rw [if_pos z0, z0] at o0
            obtain ⟨_, _, hq⟩ := ocode_ok2 z0
            have tb := fun (x : P3) (hx : BdP 64 x) W => ltimes_any x k W ((tim_bd (K := 64) (by omega) k2 hx).mono (by decide))
            refine msl_run a n cap p k Q (mof p Q n) _ (ocode n (fun i => timQ k (Q i)) (tim k p)) w pl h3 hk hl (Lib.hid c0) (Lib.hid o0) (Lib.hid fun j hj W => ?_) (Lib.hid fun W => tb p (inP_iff.1 k0) W) (Lib.hid fun W ao c' pl' L => of_any ao n c' (fun i => timQ k (Q i)) (tim k p) W pl' L (by omega)) (Lib.hid fun z W => ?_) r S
            · obtain ⟨⟨h1, h2, h3⟩, _⟩ := chcode_ok' (chcodes_all hq j hj)
              exact ⟨tb _ h1 W, tb _ h2 W, tb _ h3 W⟩
            · have sc := msc_any (mof p Q n) k W
              rw [scl_sh z0 z (rngB_iff.2 ⟨by omega, by omega⟩)] at sc
              rw [if_pos z]
              exact sc
          · exact msl_no0 a n cap p k _ _ w pl h3 hk hl (Lib.hid c0) (Lib.hid o0) (int_ne0 z0) S

end Go.Proofs.YtjflgiegnibgmaaDoor
