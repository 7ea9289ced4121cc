/-
  The contracts of the document's Scale for moments, and what both Scales answer.
-/
import Derived.Test.YtfpenkgkcjpknaaDoorMoSc
namespace Go.Proofs.YtfpenkgkcjpknaaDoor
open Go.ChangeShapes Go.WideShapes Go.RowKit
open Sh
set_option maxHeartbeats 1000000 in
theorem rmsc_bad (m : Mo) (k : Int) (w : World) (h : mokB m = false) :
    Calls Tryd.prog 23 #[mov m, .int .i64 k] w fun e w' => e = .returned (.tuple #[mov0, .int .i64 1]) ∧ Below w.heap.size w w' := by
  have V := Lib.hid (fun W => rmval_bad m W h)
  clear h
  go_enter Tryd.func23, Tryd.ntmps23
  go_wp2_with fail
  refine (V.out _).mono ?_
  rintro e w1 ⟨rfl, hb1⟩
  have OM := Lib.hid (ownMo_below (ownMo_alloc (ownMo_new w m 28) (mob0 28)) hb1)
  have OR := Lib.hid (by have z := ownMo_below (ownMo_new0 (w.alloc (mob m 28)) 28) hb1; simp only [World.size_alloc] at z; exact z : OwnMo w1 (w.heap.size + 1) mzero)
  have B1 := Lib.hid (bstep (balloc (balloc (Below.refl _ w) _) _) hb1)
  clear hb1
  have OR' := OR.out
  simp only [OwnMo, mzero] at OR'
  obtain ⟨⟨y0, y1, y2, y3, y4, y5, y6, y7, y8, y9, y10⟩, ⟨g0, g1, g2, g3, g4, g5, g6, g7, g8, g9, g10⟩, lr⟩ := OR'
  go_wp2
  refine bodyPost_ret (v := .tuple #[mov0, .int .i64 1]) (by rw [results_cell_tmp rfl]; go_simp) rfl ⟨rfl, ?_⟩
  exact below_put11 B1.out (by omega)
set_option maxHeartbeats 1000000 in
theorem rmsc_far0 (m : Mo) (k : Int) (w : World) (h : mokB m = true) (q0 : decide (k < 1) = true) :
    Calls Tryd.prog 23 #[mov m, .int .i64 k] w fun e w' => e = .returned (.tuple #[mov0, .int .i64 1]) ∧ Below w.heap.size w w' := by
  have V := Lib.hid (fun W => rmval_ok m W h)
  clear h
  go_enter Tryd.func23, Tryd.ntmps23
  go_wp2_with fail
  refine (V.out _).mono ?_
  rintro e w1 ⟨rfl, hb1⟩
  have OM := Lib.hid (ownMo_below (ownMo_alloc (ownMo_new w m 28) (mob0 28)) hb1)
  have OR := Lib.hid (by have z := ownMo_below (ownMo_new0 (w.alloc (mob m 28)) 28) hb1; simp only [World.size_alloc] at z; exact z : OwnMo w1 (w.heap.size + 1) mzero)
  have B1 := Lib.hid (bstep (balloc (balloc (Below.refl _ w) _) _) hb1)
  clear hb1
  have OR' := OR.out
  simp only [OwnMo, mzero] at OR'
  obtain ⟨⟨y0, y1, y2, y3, y4, y5, y6, y7, y8, y9, y10⟩, ⟨g0, g1, g2, g3, g4, g5, g6, g7, g8, g9, g10⟩, lr⟩ := OR'
  go_wp2
  refine bodyPost_ret (v := .tuple #[mov0, .int .i64 1]) (by rw [results_cell_tmp rfl]; go_simp) rfl ⟨rfl, ?_⟩
  exact below_put11 B1.out (by omega)
set_option maxHeartbeats 1000000 in
theorem rmsc_far1 (m : Mo) (k : Int) (w : World) (h : mokB m = true) (q0 : decide (k < 1) = false) (q1 : decide (128 < k) = true) :
    Calls Tryd.prog 23 #[mov m, .int .i64 k] w fun e w' => e = .returned (.tuple #[mov0, .int .i64 1]) ∧ Below w.heap.size w w' := by
  have V := Lib.hid (fun W => rmval_ok m W h)
  clear h
  go_enter Tryd.func23, Tryd.ntmps23
  go_wp2_with fail
  refine (V.out _).mono ?_
  rintro e w1 ⟨rfl, hb1⟩
  have OM := Lib.hid (ownMo_below (ownMo_alloc (ownMo_new w m 28) (mob0 28)) hb1)
  have OR := Lib.hid (by have z := ownMo_below (ownMo_new0 (w.alloc (mob m 28)) 28) hb1; simp only [World.size_alloc] at z; exact z : OwnMo w1 (w.heap.size + 1) mzero)
  have B1 := Lib.hid (bstep (balloc (balloc (Below.refl _ w) _) _) hb1)
  clear hb1
  have OR' := OR.out
  simp only [OwnMo, mzero] at OR'
  obtain ⟨⟨y0, y1, y2, y3, y4, y5, y6, y7, y8, y9, y10⟩, ⟨g0, g1, g2, g3, g4, g5, g6, g7, g8, g9, g10⟩, lr⟩ := OR'
  go_wp2
  refine bodyPost_ret (v := .tuple #[mov0, .int .i64 1]) (by rw [results_cell_tmp rfl]; go_simp) rfl ⟨rfl, ?_⟩
  exact below_put11 B1.out (by omega)
set_option maxRecDepth 100000 in
set_option maxHeartbeats 4000000 in
theorem rmsc_row (m : Mo) (k : Int) (w : World) (h : mokB m = true) (q0 : decide (k < 1) = false) (q1 : decide (128 < k) = false) :
    Calls Tryd.prog 23 #[mov m, .int .i64 k] w fun e w' => e = .returned (.tuple #[mov (mtold (mscale k m)), .int .i64 (mlarge (mscale k m))]) ∧ Below w.heap.size w w' := by
  have V := Lib.hid (fun W => rmval_ok m W h)
  have k1 : 1 ≤ k := by have := of_decide_eq_false q0; omega
  have k2 : k ≤ 128 := by have := of_decide_eq_false q1; omega
  have K0 := Lib.hid (k2_bd k1 k2)
  obtain ⟨_, _, hd, z0, z1, z2, z3, z4, z5⟩ := mokB_iff.1 h
  have S0 := Lib.hid z0
  have S1 := Lib.hid z1
  have S2 := Lib.hid z2
  have S3 := Lib.hid z3
  have S4 := Lib.hid z4
  have S5 := Lib.hid z5
  have D := Lib.hid (dk_bd k1 k2 hd)
  have NL := Lib.hid (fun W => rtd_any (mscale k m) W)
  obtain ⟨R, hR⟩ : ∃ R, mtold (mscale k m) = R := ⟨_, rfl⟩
  obtain ⟨E, hE⟩ : ∃ E, mlarge (mscale k m) = E := ⟨_, rfl⟩
  rw [hR, hE] at NL ⊢
  clear h hd z0 z1 z2 z3 z4 z5 hR hE k1 k2
  go_enter Tryd.func23, Tryd.ntmps23
  go_wp2_with fail
  refine (V.out _).mono ?_
  rintro e w1 ⟨rfl, hb1⟩
  have OM := Lib.hid (ownMo_below (ownMo_alloc (ownMo_new w m 28) (mob0 28)) hb1)
  have OR := Lib.hid (by have z := ownMo_below (ownMo_new0 (w.alloc (mob m 28)) 28) hb1; simp only [World.size_alloc] at z; exact z : OwnMo w1 (w.heap.size + 1) mzero)
  have B4 := Lib.hid (bstep (balloc (balloc (Below.refl _ w) _) _) hb1)
  clear hb1
  obtain ⟨⟨x0, x1, x2, x3, x4, x5, x6, x7, x8, x9, x10⟩, ⟨f0, f1, f2, f3, f4, f5, f6, f7, f8, f9, f10⟩, ll⟩ := OM.out
  obtain ⟨kk1, kk2⟩ := K0.out
  have D' := D.out
  simp only [BdP, tim] at D'
  obtain ⟨d1, d2, d3, d4, d5, d6⟩ := D'
  have q0 := sk_bd S0.out K0.out.1 K0.out.2
  have p0a := q0.1
  have p0b := q0.2
  clear q0
  have q1 := sk_bd S1.out K0.out.1 K0.out.2
  have p1a := q1.1
  have p1b := q1.2
  clear q1
  have q2 := sk_bd S2.out K0.out.1 K0.out.2
  have p2a := q2.1
  have p2b := q2.2
  clear q2
  have q3 := sk_bd S3.out K0.out.1 K0.out.2
  have p3a := q3.1
  have p3b := q3.2
  clear q3
  have q4 := sk_bd S4.out K0.out.1 K0.out.2
  have p4a := q4.1
  have p4b := q4.2
  clear q4
  have q5 := sk_bd S5.out K0.out.1 K0.out.2
  have p5a := q5.1
  have p5b := q5.2
  clear q5
  go_wp2
  refine wp_loop_rounds 7 ?_
  rw [rounds_succ]
  go_wp2
  rw [rounds_succ]
  go_wp2
  rw [rounds_succ]
  go_wp2
  rw [rounds_succ]
  go_wp2
  rw [rounds_succ]
  go_wp2
  rw [rounds_succ]
  go_wp2
  rw [rounds_succ]
  go_wp2_with fail
  refine (NL.out _).mono ?_
  rintro e w5 ⟨rfl, hb5⟩
  have OR5 : Hid (OwnMo w5 (w.heap.size + 1) mzero) := Lib.hid (ownMo_below (by (repeat refine ownMo_set ?_ (by omega)); exact OR.out) hb5)
  have B5 : Hid (Below w.heap.size w w5) := Lib.hid (bstep (by (repeat refine below_set1 ?_ (Nat.le_refl _)); exact B4.out) hb5)
  clear hb5 x0 x1 x2 x3 x4 x5 x6 x7 x8 x9 x10 f0 f1 f2 f3 f4 f5 f6 f7 f8 f9 f10 ll
  have OR' := OR5.out
  simp only [OwnMo, mzero] at OR'
  obtain ⟨⟨y0, y1, y2, y3, y4, y5, y6, y7, y8, y9, y10⟩, ⟨g0, g1, g2, g3, g4, g5, g6, g7, g8, g9, g10⟩, lr⟩ := OR'
  go_wp2
  refine bodyPost_ret (v := .tuple #[mov R, .int .i64 E]) (by rw [results_cell_tmp rfl]; go_simp) rfl ⟨rfl, ?_⟩
  exact below_put11 B5.out (by omega)
theorem scR_bad {k : Int} {m : Mo} (h : mokB m = false) : scR k m = (mzero, 1) := by unfold scR; rw [h]; rfl
theorem scR_far {k : Int} {m : Mo} (h : rngB k 1 128 = false) : scR k m = (mzero, 1) := by unfold scR; rw [h, Bool.and_false]; rfl
theorem scR_ok {k : Int} {m : Mo} (h : mokB m = true) (l : rngB k 1 128 = true) : scR k m = (mtold (mscale k m), mlarge (mscale k m)) := by unfold scR; rw [h, l]; rfl
theorem msc_any (m : Mo) (k : Int) (w : World) : Calls Tryd.prog 22 #[mov m, .int .i64 k] w fun e w' => e = .returned (mor (scR k m)) ∧ Below w.heap.size w w' := by
  cases h : mokB m with
  | false => rw [scR_bad h]; exact msc_bad m k w h
  | true =>
    cases l : rngB k 1 128 with
    | false => rw [scR_far l]; exact msc_far m k w h l
    | true => rw [scR_ok h l]; exact msc_row m k w h l
theorem rmsc_any (m : Mo) (k : Int) (w : World) : Calls Tryd.prog 23 #[mov m, .int .i64 k] w fun e w' => e = .returned (mor (scR k m)) ∧ Below w.heap.size w w' := by
  cases h : mokB m with
  | false => rw [scR_bad h]; exact rmsc_bad m k w h
  | true =>
    cases q0 : decide (k < 1) with
    | true =>
      rw [scR_far (rngB_not.2 (by have := of_decide_eq_true q0; omega))]
      exact rmsc_far0 m k w h q0
    | false =>
      cases q1 : decide (128 < k) with
      | true =>
        rw [scR_far (rngB_not.2 (by have := of_decide_eq_true q1; omega))]
        exact rmsc_far1 m k w h q0 q1
      | false =>
        rw [scR_ok h (rngB_iff.2 ⟨by have := of_decide_eq_false q0; omega, by have := of_decide_eq_false q1; omega⟩)]
        exact rmsc_row m k w h q0 q1

end Go.Proofs.YtfpenkgkcjpknaaDoor
