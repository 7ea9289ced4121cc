/-
  The contract of the document's Of whole, and the law MomentOf: for every list of charged panels and every point it answers true.
-/
import Derived.Test.YtofjnbebipkgkaaDoorMoOg
import Derived.Test.YtofjnbebipkgkaaDoorMoOf
import Derived.Test.YtofjnbebipkgkaaDoorMoSa
namespace Go.Proofs.YtofjnbebipkgkaaDoor
open Go.ChangeShapes Go.WideShapes Go.RowKit
open Sh
set_option maxHeartbeats 2000000 in
theorem rof_zero (a : Option Addr) (cap : Nat) (p : P3) (w : World) (V : Hid (∀ W, Below w.heap.size w W → Calls Tryd.prog 13 #[.slice a 0 cap, ptv p] W fun e w' => e = .returned (.int .i64 0) ∧ Below W.heap.size W w')) : Calls Tryd.prog 6 #[.slice a 0 cap, ptv p] w fun e w' => e = .returned (.tuple #[mov0, .int .i64 0]) ∧ Below w.heap.size w w' := by
  go_enter Tryd.func6, Tryd.ntmps6
  go_wp2_with fail
  refine (V.out _ (by (repeat' (first | exact Below.refl _ _ | refine Below.setCell ?_ (by simp <;> omega) _ | refine balloc ?_ _ | refine Below.drew ?_ | refine bdrewN ?_ _)))).mono ?_
  rintro e w1 ⟨rfl, hb1⟩
  have PR := Lib.hid (by have z := ownMo_below (ownMo_new0 (w.alloc (ptc p 24)) 28) hb1; simp only [World.size_alloc] at z; exact z : OwnMo w1 (w.heap.size + 1) mzero)
  have B1 := Lib.hid (bstep (balloc (balloc (Below.refl _ w) _) _) hb1)
  clear hb1
  have ST := Lib.hid (show OwnMo (w1.alloc (mob0 28)) w1.heap.size mzero ∧ OwnMo (w1.alloc (mob0 28)) (w.heap.size + 1) mzero ∧ Below w.heap.size w (w1.alloc (mob0 28)) from ⟨ownMo_new0 w1 28, ownMo_alloc PR.out _, balloc B1.out _⟩)
  clear PR B1
  go_wp2
  refine wp_loop_rounds 1 ?_
  rw [rounds_succ]
  have OK' := ST.out.1
  simp only [OwnMo, mzero] at OK'
  obtain ⟨⟨k0, k1, k2, k3, k4, k5, k6, k7, k8, k9, k10⟩, ⟨kf0, kf1, kf2, kf3, kf4, kf5, kf6, kf7, kf8, kf9, kf10⟩, kl⟩ := OK'
  have OR' := ST.out.2.1
  simp only [OwnMo, mzero] at OR'
  obtain ⟨⟨y0, y1, y2, y3, y4, y5, y6, y7, y8, y9, y10⟩, ⟨g0, g1, g2, g3, g4, g5, g6, g7, g8, g9, g10⟩, lr⟩ := OR'
  go_wp2
  refine bodyPost_ret (v := .tuple #[mov0, .int .i64 0]) (by rw [results_cell_tmp rfl]; go_simp) rfl ⟨rfl, ?_⟩
  exact below_put11 ST.out.2.2 (by omega)
theorem rof_any (a : Option Addr) (n cap : Nat) (Q : Nat → Ch) (p : P3) (w : World) (r : LstC w a n Q) (hn : n ≤ 140737488355328) :
    Calls Tryd.prog 6 #[.slice a n cap, ptv p] w fun e w' => e = .returned (.tuple #[mov (if ocode n Q p = 0 then mof p Q n else mzero), .int .i64 (ocode n Q p)]) ∧ Below w.heap.size w w' := by
  have V := fun W (B : Below w.heap.size w W) => giv_any a n cap Q p W (lstC_below r B) hn
  by_cases z : ocode n Q p = 0
  · obtain ⟨h1, h2, h3⟩ := ocode_parts z
    rw [z] at V
    rw [if_pos z, z]
    by_cases h0 : n = 0
    · subst h0
      exact rof_zero a cap p w (Lib.hid V)
    · obtain ⟨b, off, rfl, rr⟩ := r (by omega)
      exact rof_row b off n cap Q p w (Lib.hid V) rr h1 h2 h3
  · rw [if_neg z]
    exact rof_no a n cap p _ w (Lib.hid V) z
theorem mof_big (a : Option Addr) (n cap : Nat) (p : P3) (w : World) (pl : Plc w) (h : 300 < n) (hm : n ≤ 9223372036854775807) (S : Hid (∀ W, Plc W → Calls Tryd.prog 4 #[] W fun e w' => e = .returned (.bool true) ∧ Below W.heap.size W w')) : Calls Tryd.prog 3 #[.slice a n cap, ptv p] w fun e w' => e = .returned (.bool true) ∧ Below w.heap.size w w' := by
  have PL := Lib.hid pl
  have gz : 0 < w.heap.size := pl.2
  clear pl
  have h' : (300 : Int) < (n : Int) := by omega
  go_enter Tryd.func3, Tryd.ntmps3
  go_wp2_with fail
  refine (S.out _ (plc_alloc PL.out _)).mono ?_
  rintro e w1 ⟨rfl, hb1⟩
  have B1 := bstep (balloc (Below.refl w.heap.size w) (ptc p 24)) hb1
  go_wp2
  go_ret
  exact ⟨rfl, B1⟩
set_option maxRecDepth 100000 in
set_option maxHeartbeats 4000000 in
theorem mof_walk0 (a : Option Addr) (n cap : Nat) (p : P3) (R : Mo) (E r2 e2 : Int) (w : World) (pl : Plc w) (h : n ≤ 300) (O0 : Hid (∀ W, Below w.heap.size w W → Calls Tryd.prog 5 #[.slice a n cap, ptv p] W fun e w' => e = .returned (.tuple #[mov R, .int .i64 E]) ∧ Below W.heap.size W w')) (O1 : Hid (∀ W, Below w.heap.size w W → Calls Tryd.prog 6 #[.slice a n cap, ptv p] W fun e w' => e = .returned (.tuple #[mov R, .int .i64 E]) ∧ Below W.heap.size W w')) (O2 : Hid (∀ W, Below w.heap.size w W → Calls Tryd.prog 7 #[.slice a n cap, ptv p] W fun e w' => e = .returned (.tuple #[.int .i64 r2, .int .i64 e2]) ∧ Below W.heap.size W w')) (O3 : Hid (∀ W, Below w.heap.size w W → Calls Tryd.prog 8 #[.slice a n cap, ptv p] W fun e w' => e = .returned (.tuple #[.int .i64 r2, .int .i64 e2]) ∧ Below W.heap.size W w')) (S : Hid (∀ W, Plc W → Calls Tryd.prog 4 #[] W fun e w' => e = .returned (.bool true) ∧ Below W.heap.size W w')) : Calls Tryd.prog 3 #[.slice a n cap, ptv p] w fun e w' => e = .returned (.bool true) ∧ Below w.heap.size w w' := by
  have PL := Lib.hid pl
  have gz : 0 < w.heap.size := pl.2
  clear pl
  have h' : (n : Int) ≤ 300 := by omega
  have d1 : decide ((300 : Int) < (n : Int)) = false := decide_eq_false (by omega)
  clear h
  go_enter Tryd.func3, Tryd.ntmps3
  go_wp2_with fail
  refine (O0.out _ (by (repeat' (first | exact Below.refl _ _ | refine Below.setCell ?_ (by simp <;> omega) _ | refine balloc ?_ _ | refine Below.drew ?_ | refine bdrewN ?_ _)))).mono ?_
  rintro e w1 ⟨rfl, hb1⟩
  have PP := Lib.hid (own_alloc (own_below (own_new w p 24) hb1) (mob R 28))
  have PX := Lib.hid (ownMo_new w1 R 28)
  have B1 := Lib.hid (balloc (bstep (balloc (Below.refl _ w) (ptc p 24)) hb1) (mob R 28))
  clear hb1
  obtain ⟨a1, a2, a3, a4, a5, a6, a7⟩ := PP.out
  go_wp2_with fail
  refine (O1.out _ B1.out).mono ?_
  rintro e w2 ⟨rfl, hb2⟩
  clear a1 a2 a3 a4 a5 a6 a7
  have PP := Lib.hid (own_alloc (own_below PP.out hb2) (mob R 28))
  have PX := Lib.hid (ownMo_alloc (ownMo_below PX.out hb2) (mob R 28))
  have PY := Lib.hid (ownMo_new w2 R 28)
  have B2 := Lib.hid (balloc (bstep B1.out hb2) (mob R 28))
  clear hb2
  obtain ⟨a1, a2, a3, a4, a5, a6, a7⟩ := PP.out
  go_wp2_with fail
  refine (O2.out _ B2.out).mono ?_
  rintro e w3 ⟨rfl, hb3⟩
  clear a1 a2 a3 a4 a5 a6 a7
  have PP := Lib.hid (own_below PP.out hb3)
  have PX := Lib.hid (ownMo_below PX.out hb3)
  have PY := Lib.hid (ownMo_below PY.out hb3)
  have B3 := Lib.hid (bstep B2.out hb3)
  clear hb3
  obtain ⟨a1, a2, a3, a4, a5, a6, a7⟩ := PP.out
  go_wp2_with fail
  refine (O3.out _ B3.out).mono ?_
  rintro e w4 ⟨rfl, hb4⟩
  clear a1 a2 a3 a4 a5 a6 a7
  have PX := Lib.hid (ownMo_below PX.out hb4)
  have PY := Lib.hid (ownMo_below PY.out hb4)
  have B4 := Lib.hid (bstep B3.out hb4)
  clear hb4 PP
  have PX' := PX.out
  obtain ⟨⟨x0, x1, x2, x3, x4, x5, x6, x7, x8, x9, x10⟩, _, lx⟩ := PX'
  have PY' := PY.out
  obtain ⟨⟨y0, y1, y2, y3, y4, y5, y6, y7, y8, y9, y10⟩, _, ly⟩ := PY'
  have e6 := same6 9998
  have e7 := same6 9997
  go_wp2_with fail
  refine (S.out _ (plc_in PL.out B4.out gz)).mono ?_
  rintro e w5 ⟨rfl, hb5⟩
  have B5 := bstep B4.out hb5
  clear x0 x1 x2 x3 x4 x5 x6 x7 x8 x9 x10 lx
  clear y0 y1 y2 y3 y4 y5 y6 y7 y8 y9 y10 ly
  go_wp2
  go_ret
  exact ⟨rfl, B5⟩
theorem mof_walk (a : Option Addr) (n cap : Nat) (p : P3) (Q : Nat → Ch) (w : World) (pl : Plc w) (hm : n ≤ maxLen) (r : LstC w a n Q) : Calls Tryd.prog 3 #[.slice a n cap, ptv p] w fun e w' => e = .returned (.bool true) ∧ Below w.heap.size w w' := by
  unfold maxLen at hm
  have gz : 0 < w.heap.size := pl.2
  have S : Hid (∀ W, Plc W → Calls Tryd.prog 4 #[] W fun e w' => e = .returned (.bool true) ∧ Below W.heap.size W w') := Lib.hid fun W p => sane_any W p
  by_cases h : 300 < n
  · exact mof_big a n cap p w pl h (by omega) S
  · exact mof_walk0 a n cap p _ _ _ _ w pl (by omega) (Lib.hid fun W B => of_any a n cap Q p W (plc_in pl B gz) (lstC_below r B) (by omega)) (Lib.hid fun W B => rof_any a n cap Q p W (lstC_below r B) (by omega))
      (Lib.hid fun W B => pr2_any a n cap Q p W (lstC_below r B) (by omega)) (Lib.hid fun W B => rr2_any a n cap Q p W (lstC_below r B) (by omega)) S

end Go.Proofs.YtofjnbebipkgkaaDoor
