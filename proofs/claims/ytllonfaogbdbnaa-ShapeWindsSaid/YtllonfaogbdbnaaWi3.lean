/-
  What hasOrigin and crossing answer.
-/
import Derived.Test.YtllonfaogbdbnaaWi1
import Derived.Test.YtllonfaogbdbnaaWi2
namespace Go.Proofs.Ytllonfaogbdbnaa
open Go.ChangeShapes Go.WideShapes Go.RowKit
open Sh
def hasB (d0 d1 d2 d3 : Int) : Bool := decide (d0 = 0) && decide (0 ≤ d1) && decide (0 ≤ d2) && decide (0 ≤ d3)
theorem hasB_0 {d0 d1 d2 d3 : Int} (h : d0 ≠ 0) : hasB d0 d1 d2 d3 = false := by unfold hasB; rw [decide_eq_false h]; rfl
theorem hasB_1 {d0 d1 d2 d3 : Int} (h : d1 < 0) : hasB d0 d1 d2 d3 = false := by unfold hasB; rw [decide_eq_false (show ¬ 0 ≤ d1 by omega), Bool.and_false]; rfl
theorem hasB_2 {d0 d1 d2 d3 : Int} (h : d2 < 0) : hasB d0 d1 d2 d3 = false := by unfold hasB; rw [decide_eq_false (show ¬ 0 ≤ d2 by omega), Bool.and_false]; rfl
theorem hasB_3 {d0 d1 d2 d3 : Int} (h : d3 < 0) : hasB d0 d1 d2 d3 = false := by unfold hasB; rw [decide_eq_false (show ¬ 0 ≤ d3 by omega), Bool.and_false]
theorem hasB_4 {d0 d1 d2 d3 : Int} (h0 : d0 = 0) (h1 : 0 ≤ d1) (h2 : 0 ≤ d2) (h3 : 0 ≤ d3) : hasB d0 d1 d2 d3 = true := by unfold hasB; rw [decide_eq_true h0, decide_eq_true h1, decide_eq_true h2, decide_eq_true h3]; rfl
def hasT (a b c : P3) : Bool := hasB (dot (nrm a b c) a) (dot (nrm a b c) (vec a b)) (dot (nrm a b c) (vec b c)) (dot (nrm a b c) (vec c a))
theorem nrm_bd2 {a b c : P3} (h : BdP 320 a) (k : BdP 320 b) (l : BdP 320 c) : BdP 1048576 (nrm a b c) := (vec_bd (sub_bd k h) (sub_bd l h)).mono (by decide)
theorem pw_bd2 {A B : Int} {a b : P3} (h : BdP A a) (k : BdP B b) : BdP (A * B) (pw a b) := by
  obtain ⟨h1, h2, h3, h4, h5, h6⟩ := h
  obtain ⟨k1, k2, k3, k4, k5, k6⟩ := k
  have x := mul_bd h1 h2 k1 k2
  have y := mul_bd h3 h4 k3 k4
  have z := mul_bd h5 h6 k5 k6
  exact ⟨x.1, x.2, y.1, y.2, z.1, z.2⟩
theorem has_any (a b c : P3) (w : World) (ha : BdP 320 a) (hb : BdP 320 b) (hc : BdP 320 c) : Calls Try.prog 34 #[pnv a b c] w fun e w' => e = .returned (.bool (hasT a b c)) ∧ Below w.heap.size w w' := by
  have n := nrm_bd2 ha hb hc
  have vb (x y : P3) (hx : BdP 320 x) (hy : BdP 320 y) : BdP 1048576 (vec x y) := (vec_bd hx hy).mono (by decide)
  have CN := Lib.hid fun W => normal_any a b c W (ha.mono (by decide)) (hb.mono (by decide)) (hc.mono (by decide))
  have C0 := Lib.hid fun W => scalar_any (nrm a b c) a W ((pw_bd2 n ha).mono (by decide))
  have CF := Lib.hid fun W => fro_any a b c W (ha.mono (by decide)) (hb.mono (by decide)) (hc.mono (by decide))
  have C1 := Lib.hid fun W => scalar_any (nrm a b c) (vec a b) W ((pw_bd2 n (vb _ _ ha hb)).mono (by decide))
  have C2 := Lib.hid fun W => scalar_any (nrm a b c) (vec b c) W ((pw_bd2 n (vb _ _ hb hc)).mono (by decide))
  have C3 := Lib.hid fun W => scalar_any (nrm a b c) (vec c a) W ((pw_bd2 n (vb _ _ hc ha)).mono (by decide))
  unfold hasT
  by_cases h0 : dot (nrm a b c) a = 0
  · have e0 : (dot (nrm a b c) a != 0) = false := by rw [h0]; rfl
    cases h1 : decide (dot (nrm a b c) (vec a b) < 0) with
    | true => rw [hasB_1 (of_decide_eq_true h1)]; exact has_1 _ _ _ _ _ _ _ _ _ w CN C0 CF C1 e0 h1
    | false =>
      cases h2 : decide (dot (nrm a b c) (vec b c) < 0) with
      | true => rw [hasB_2 (of_decide_eq_true h2)]; exact has_2 _ _ _ _ _ _ _ _ _ _ w CN C0 CF C1 C2 e0 h1 h2
      | false =>
        cases h3 : decide (dot (nrm a b c) (vec c a) < 0) with
        | true => rw [hasB_3 (of_decide_eq_true h3)]; exact has_3 _ _ _ _ _ _ _ _ _ _ _ w CN C0 CF C1 C2 C3 e0 h1 h2 h3
        | false =>
          have l1 := of_decide_eq_false h1
          have l2 := of_decide_eq_false h2
          have l3 := of_decide_eq_false h3
          rw [hasB_4 h0 (by omega) (by omega) (by omega)]
          exact has_4 _ _ _ _ _ _ _ _ _ _ _ w CN C0 CF C1 C2 C3 e0 h1 h2 h3
  · rw [hasB_0 h0]
    exact has_0 _ _ _ _ _ w CN C0 (bne_iff_ne.2 h0)
def sg (x : Int) : Int := Lib.compareInt x 0
def crB (s s1 s2 s3 : Int) : Int := if s1 = s ∧ s2 = s ∧ s3 = s then s else 0
def ray : P3 := (1, 1048576, 1099511627776)
def croT (a b c : P3) : Int := crB (sg (det a b c)) (sg (dot ray (vec a b))) (sg (dot ray (vec b c))) (sg (dot ray (vec c a)))
set_option maxRecDepth 100000 in
set_option maxHeartbeats 2000000 in
theorem cr_1 (a b c v1 v2 v3 : P3) (d s r1 s1 : Int) (w : World) (CP : Hid (∀ W, Calls Try.prog 70 #[pnv a b c] W fun e w' => e = .returned (.int .i64 d) ∧ Below W.heap.size W w')) (CD : Hid (∀ W, Calls Try.prog 84 #[.int .i64 d, .int .i64 0] W fun e w' => e = .returned (.int .i64 s) ∧ w' = W)) (CF : Hid (∀ W, Calls Try.prog 79 #[pnv a b c] W fun e w' => e = .returned (pnv v1 v2 v3) ∧ Below W.heap.size W w')) (C1 : Hid (∀ W, Calls Try.prog 78 #[.agg #[.int .i64 1, .int .i64 1048576, .int .i64 1099511627776], ptv v1] W fun e w' => e = .returned (.int .i64 r1) ∧ Below W.heap.size W w')) (D1 : Hid (∀ W, Calls Try.prog 84 #[.int .i64 r1, .int .i64 0] W fun e w' => e = .returned (.int .i64 s1) ∧ w' = W)) (h1 : (s1 != s) = true) : Calls Try.prog 38 #[pnv a b c] w fun e w' => e = .returned (.int .i64 0) ∧ Below w.heap.size w w' := by
  go_enter Try.func38, Try.ntmps38
  go_wp2_with fail
  refine (CP.out _).mono ?_
  rintro e w1 ⟨rfl, hb1⟩
  have XP := Lib.hid (pan_below (pan_alloc (pan_new w a b c 77) (.cells #[.int .i64 1, .int .i64 1048576, .int .i64 1099511627776] 27)) hb1)
  have XN := Lib.hid (by have z := own_below (own_new (w.alloc (pnc a b c 77)) (1, 1048576, 1099511627776) 27) hb1; simp only [World.size_alloc] at z; exact z : Own w1 (w.heap.size + 1) (1, 1048576, 1099511627776))
  have B1 := Lib.hid (bstep (balloc (balloc (Below.refl _ w) _) _) hb1)
  clear hb1
  go_wp2_with fail
  refine (CD.out _).mono ?_
  rintro e w2 ⟨rfl, rfl⟩
  have XP' := XP.out
  obtain ⟨p1, p2, p3, p4, p5, p6, p7, p8, p9, p0⟩ := XP'
  go_wp2_with fail
  refine (CF.out _).mono ?_
  rintro e w3 ⟨rfl, hb3⟩
  clear p1 p2 p3 p4 p5 p6 p7 p8 p9 p0
  have XN := Lib.hid (own_below XN.out hb3)
  have B3 := Lib.hid (bstep B1.out hb3)
  clear hb3 XP
  have j0 : ∀ w, (Instr.index 119 (.agg #[.int .i64 v1.1, .int .i64 v1.2.1, .int .i64 v1.2.2, .int .i64 v2.1, .int .i64 v2.2.1, .int .i64 v2.2.2, .int .i64 v3.1, .int .i64 v3.2.1, .int .i64 v3.2.2]) (.int .i64 0)).run Try.prog w = .ok (ptv v1) w := fun _ => by kernel_rfl
  have j1 : ∀ w, (Instr.index 119 (.agg #[.int .i64 v1.1, .int .i64 v1.2.1, .int .i64 v1.2.2, .int .i64 v2.1, .int .i64 v2.2.1, .int .i64 v2.2.2, .int .i64 v3.1, .int .i64 v3.2.1, .int .i64 v3.2.2]) (.int .i64 1)).run Try.prog w = .ok (ptv v2) w := fun _ => by kernel_rfl
  have j2 : ∀ w, (Instr.index 119 (.agg #[.int .i64 v1.1, .int .i64 v1.2.1, .int .i64 v1.2.2, .int .i64 v2.1, .int .i64 v2.2.1, .int .i64 v2.2.2, .int .i64 v3.1, .int .i64 v3.2.1, .int .i64 v3.2.2]) (.int .i64 2)).run Try.prog w = .ok (ptv v3) w := fun _ => by kernel_rfl
  go_wp2
  refine wp_loop_rounds 4 ?_
  rw [rounds_succ]
  have XN' := Lib.hid (own_alloc XN.out (ptc v1 27))
  have XN2 := XN'.out
  obtain ⟨n1, n2, n3, n4, n5, n6, n7⟩ := XN2
  dsimp only at n1 n2 n3
  go_wp2_with fail
  refine (C1.out _).mono ?_
  rintro e w4 ⟨rfl, hb⟩
  clear n1 n2 n3 n4 n5 n6 n7
  have XN := Lib.hid (own_below XN'.out hb)
  have B4 := Lib.hid (bstep (balloc B3.out (ptc v1 27)) hb)
  clear hb XN'
  go_wp2_with fail
  refine (D1.out _).mono ?_
  rintro e ww ⟨rfl, rfl⟩
  go_wp2
  go_ret
  exact ⟨rfl, B4.out⟩
set_option maxRecDepth 100000 in
set_option maxHeartbeats 2000000 in
theorem cr_2 (a b c v1 v2 v3 : P3) (d s r1 s1 r2 s2 : Int) (w : World) (CP : Hid (∀ W, Calls Try.prog 70 #[pnv a b c] W fun e w' => e = .returned (.int .i64 d) ∧ Below W.heap.size W w')) (CD : Hid (∀ W, Calls Try.prog 84 #[.int .i64 d, .int .i64 0] W fun e w' => e = .returned (.int .i64 s) ∧ w' = W)) (CF : Hid (∀ W, Calls Try.prog 79 #[pnv a b c] W fun e w' => e = .returned (pnv v1 v2 v3) ∧ Below W.heap.size W w')) (C1 : Hid (∀ W, Calls Try.prog 78 #[.agg #[.int .i64 1, .int .i64 1048576, .int .i64 1099511627776], ptv v1] W fun e w' => e = .returned (.int .i64 r1) ∧ Below W.heap.size W w')) (D1 : Hid (∀ W, Calls Try.prog 84 #[.int .i64 r1, .int .i64 0] W fun e w' => e = .returned (.int .i64 s1) ∧ w' = W)) (C2 : Hid (∀ W, Calls Try.prog 78 #[.agg #[.int .i64 1, .int .i64 1048576, .int .i64 1099511627776], ptv v2] W fun e w' => e = .returned (.int .i64 r2) ∧ Below W.heap.size W w')) (D2 : Hid (∀ W, Calls Try.prog 84 #[.int .i64 r2, .int .i64 0] W fun e w' => e = .returned (.int .i64 s2) ∧ w' = W)) (h1 : (s1 != s) = false) (h2 : (s2 != s) = true) : Calls Try.prog 38 #[pnv a b c] w fun e w' => e = .returned (.int .i64 0) ∧ Below w.heap.size w w' := by
  go_enter Try.func38, Try.ntmps38
  go_wp2_with fail
  refine (CP.out _).mono ?_
  rintro e w1 ⟨rfl, hb1⟩
  have XP := Lib.hid (pan_below (pan_alloc (pan_new w a b c 77) (.cells #[.int .i64 1, .int .i64 1048576, .int .i64 1099511627776] 27)) hb1)
  have XN := Lib.hid (by have z := own_below (own_new (w.alloc (pnc a b c 77)) (1, 1048576, 1099511627776) 27) hb1; simp only [World.size_alloc] at z; exact z : Own w1 (w.heap.size + 1) (1, 1048576, 1099511627776))
  have B1 := Lib.hid (bstep (balloc (balloc (Below.refl _ w) _) _) hb1)
  clear hb1
  go_wp2_with fail
  refine (CD.out _).mono ?_
  rintro e w2 ⟨rfl, rfl⟩
  have XP' := XP.out
  obtain ⟨p1, p2, p3, p4, p5, p6, p7, p8, p9, p0⟩ := XP'
  go_wp2_with fail
  refine (CF.out _).mono ?_
  rintro e w3 ⟨rfl, hb3⟩
  clear p1 p2 p3 p4 p5 p6 p7 p8 p9 p0
  have XN := Lib.hid (own_below XN.out hb3)
  have B3 := Lib.hid (bstep B1.out hb3)
  clear hb3 XP
  have j0 : ∀ w, (Instr.index 119 (.agg #[.int .i64 v1.1, .int .i64 v1.2.1, .int .i64 v1.2.2, .int .i64 v2.1, .int .i64 v2.2.1, .int .i64 v2.2.2, .int .i64 v3.1, .int .i64 v3.2.1, .int .i64 v3.2.2]) (.int .i64 0)).run Try.prog w = .ok (ptv v1) w := fun _ => by kernel_rfl
  have j1 : ∀ w, (Instr.index 119 (.agg #[.int .i64 v1.1, .int .i64 v1.2.1, .int .i64 v1.2.2, .int .i64 v2.1, .int .i64 v2.2.1, .int .i64 v2.2.2, .int .i64 v3.1, .int .i64 v3.2.1, .int .i64 v3.2.2]) (.int .i64 1)).run Try.prog w = .ok (ptv v2) w := fun _ => by kernel_rfl
  have j2 : ∀ w, (Instr.index 119 (.agg #[.int .i64 v1.1, .int .i64 v1.2.1, .int .i64 v1.2.2, .int .i64 v2.1, .int .i64 v2.2.1, .int .i64 v2.2.2, .int .i64 v3.1, .int .i64 v3.2.1, .int .i64 v3.2.2]) (.int .i64 2)).run Try.prog w = .ok (ptv v3) w := fun _ => by kernel_rfl
  go_wp2
  refine wp_loop_rounds 4 ?_
  rw [rounds_succ]
  have XN' := Lib.hid (own_alloc XN.out (ptc v1 27))
  have XN2 := XN'.out
  obtain ⟨n1, n2, n3, n4, n5, n6, n7⟩ := XN2
  dsimp only at n1 n2 n3
  go_wp2_with fail
  refine (C1.out _).mono ?_
  rintro e w4 ⟨rfl, hb⟩
  clear n1 n2 n3 n4 n5 n6 n7
  have XN := Lib.hid (own_below XN'.out hb)
  have B4 := Lib.hid (bstep (balloc B3.out (ptc v1 27)) hb)
  clear hb XN'
  go_wp2_with fail
  refine (D1.out _).mono ?_
  rintro e ww ⟨rfl, rfl⟩
  go_wp2
  rw [rounds_succ]
  have XN' := Lib.hid (own_alloc XN.out (ptc v2 27))
  have XN2 := XN'.out
  obtain ⟨n1, n2, n3, n4, n5, n6, n7⟩ := XN2
  dsimp only at n1 n2 n3
  go_wp2_with fail
  refine (C2.out _).mono ?_
  rintro e w5 ⟨rfl, hb⟩
  clear n1 n2 n3 n4 n5 n6 n7
  have XN := Lib.hid (own_below XN'.out hb)
  have B5 := Lib.hid (bstep (balloc B4.out (ptc v2 27)) hb)
  clear hb XN'
  go_wp2_with fail
  refine (D2.out _).mono ?_
  rintro e ww ⟨rfl, rfl⟩
  go_wp2
  go_ret
  exact ⟨rfl, B5.out⟩
set_option maxRecDepth 100000 in
set_option maxHeartbeats 2000000 in
theorem cr_3 (a b c v1 v2 v3 : P3) (d s r1 s1 r2 s2 r3 s3 : Int) (w : World) (CP : Hid (∀ W, Calls Try.prog 70 #[pnv a b c] W fun e w' => e = .returned (.int .i64 d) ∧ Below W.heap.size W w')) (CD : Hid (∀ W, Calls Try.prog 84 #[.int .i64 d, .int .i64 0] W fun e w' => e = .returned (.int .i64 s) ∧ w' = W)) (CF : Hid (∀ W, Calls Try.prog 79 #[pnv a b c] W fun e w' => e = .returned (pnv v1 v2 v3) ∧ Below W.heap.size W w')) (C1 : Hid (∀ W, Calls Try.prog 78 #[.agg #[.int .i64 1, .int .i64 1048576, .int .i64 1099511627776], ptv v1] W fun e w' => e = .returned (.int .i64 r1) ∧ Below W.heap.size W w')) (D1 : Hid (∀ W, Calls Try.prog 84 #[.int .i64 r1, .int .i64 0] W fun e w' => e = .returned (.int .i64 s1) ∧ w' = W)) (C2 : Hid (∀ W, Calls Try.prog 78 #[.agg #[.int .i64 1, .int .i64 1048576, .int .i64 1099511627776], ptv v2] W fun e w' => e = .returned (.int .i64 r2) ∧ Below W.heap.size W w')) (D2 : Hid (∀ W, Calls Try.prog 84 #[.int .i64 r2, .int .i64 0] W fun e w' => e = .returned (.int .i64 s2) ∧ w' = W)) (C3 : Hid (∀ W, Calls Try.prog 78 #[.agg #[.int .i64 1, .int .i64 1048576, .int .i64 1099511627776], ptv v3] W fun e w' => e = .returned (.int .i64 r3) ∧ Below W.heap.size W w')) (D3 : Hid (∀ W, Calls Try.prog 84 #[.int .i64 r3, .int .i64 0] W fun e w' => e = .returned (.int .i64 s3) ∧ w' = W)) (h1 : (s1 != s) = false) (h2 : (s2 != s) = false) (h3 : (s3 != s) = true) : Calls Try.prog 38 #[pnv a b c] w fun e w' => e = .returned (.int .i64 0) ∧ Below w.heap.size w w' := by
  go_enter Try.func38, Try.ntmps38
  go_wp2_with fail
  refine (CP.out _).mono ?_
  rintro e w1 ⟨rfl, hb1⟩
  have XP := Lib.hid (pan_below (pan_alloc (pan_new w a b c 77) (.cells #[.int .i64 1, .int .i64 1048576, .int .i64 1099511627776] 27)) hb1)
  have XN := Lib.hid (by have z := own_below (own_new (w.alloc (pnc a b c 77)) (1, 1048576, 1099511627776) 27) hb1; simp only [World.size_alloc] at z; exact z : Own w1 (w.heap.size + 1) (1, 1048576, 1099511627776))
  have B1 := Lib.hid (bstep (balloc (balloc (Below.refl _ w) _) _) hb1)
  clear hb1
  go_wp2_with fail
  refine (CD.out _).mono ?_
  rintro e w2 ⟨rfl, rfl⟩
  have XP' := XP.out
  obtain ⟨p1, p2, p3, p4, p5, p6, p7, p8, p9, p0⟩ := XP'
  go_wp2_with fail
  refine (CF.out _).mono ?_
  rintro e w3 ⟨rfl, hb3⟩
  clear p1 p2 p3 p4 p5 p6 p7 p8 p9 p0
  have XN := Lib.hid (own_below XN.out hb3)
  have B3 := Lib.hid (bstep B1.out hb3)
  clear hb3 XP
  have j0 : ∀ w, (Instr.index 119 (.agg #[.int .i64 v1.1, .int .i64 v1.2.1, .int .i64 v1.2.2, .int .i64 v2.1, .int .i64 v2.2.1, .int .i64 v2.2.2, .int .i64 v3.1, .int .i64 v3.2.1, .int .i64 v3.2.2]) (.int .i64 0)).run Try.prog w = .ok (ptv v1) w := fun _ => by kernel_rfl
  have j1 : ∀ w, (Instr.index 119 (.agg #[.int .i64 v1.1, .int .i64 v1.2.1, .int .i64 v1.2.2, .int .i64 v2.1, .int .i64 v2.2.1, .int .i64 v2.2.2, .int .i64 v3.1, .int .i64 v3.2.1, .int .i64 v3.2.2]) (.int .i64 1)).run Try.prog w = .ok (ptv v2) w := fun _ => by kernel_rfl
  have j2 : ∀ w, (Instr.index 119 (.agg #[.int .i64 v1.1, .int .i64 v1.2.1, .int .i64 v1.2.2, .int .i64 v2.1, .int .i64 v2.2.1, .int .i64 v2.2.2, .int .i64 v3.1, .int .i64 v3.2.1, .int .i64 v3.2.2]) (.int .i64 2)).run Try.prog w = .ok (ptv v3) w := fun _ => by kernel_rfl
  go_wp2
  refine wp_loop_rounds 4 ?_
  rw [rounds_succ]
  have XN' := Lib.hid (own_alloc XN.out (ptc v1 27))
  have XN2 := XN'.out
  obtain ⟨n1, n2, n3, n4, n5, n6, n7⟩ := XN2
  dsimp only at n1 n2 n3
  go_wp2_with fail
  refine (C1.out _).mono ?_
  rintro e w4 ⟨rfl, hb⟩
  clear n1 n2 n3 n4 n5 n6 n7
  have XN := Lib.hid (own_below XN'.out hb)
  have B4 := Lib.hid (bstep (balloc B3.out (ptc v1 27)) hb)
  clear hb XN'
  go_wp2_with fail
  refine (D1.out _).mono ?_
  rintro e ww ⟨rfl, rfl⟩
  go_wp2
  rw [rounds_succ]
  have XN' := Lib.hid (own_alloc XN.out (ptc v2 27))
  have XN2 := XN'.out
  obtain ⟨n1, n2, n3, n4, n5, n6, n7⟩ := XN2
  dsimp only at n1 n2 n3
  go_wp2_with fail
  refine (C2.out _).mono ?_
  rintro e w5 ⟨rfl, hb⟩
  clear n1 n2 n3 n4 n5 n6 n7
  have XN := Lib.hid (own_below XN'.out hb)
  have B5 := Lib.hid (bstep (balloc B4.out (ptc v2 27)) hb)
  clear hb XN'
  go_wp2_with fail
  refine (D2.out _).mono ?_
  rintro e ww ⟨rfl, rfl⟩
  go_wp2
  rw [rounds_succ]
  have XN' := Lib.hid (own_alloc XN.out (ptc v3 27))
  have XN2 := XN'.out
  obtain ⟨n1, n2, n3, n4, n5, n6, n7⟩ := XN2
  dsimp only at n1 n2 n3
  go_wp2_with fail
  refine (C3.out _).mono ?_
  rintro e w6 ⟨rfl, hb⟩
  clear n1 n2 n3 n4 n5 n6 n7
  have XN := Lib.hid (own_below XN'.out hb)
  have B6 := Lib.hid (bstep (balloc B5.out (ptc v3 27)) hb)
  clear hb XN'
  go_wp2_with fail
  refine (D3.out _).mono ?_
  rintro e ww ⟨rfl, rfl⟩
  go_wp2
  go_ret
  exact ⟨rfl, B6.out⟩
set_option maxRecDepth 100000 in
set_option maxHeartbeats 2000000 in
theorem cr_4 (a b c v1 v2 v3 : P3) (d s r1 s1 r2 s2 r3 s3 : Int) (w : World) (CP : Hid (∀ W, Calls Try.prog 70 #[pnv a b c] W fun e w' => e = .returned (.int .i64 d) ∧ Below W.heap.size W w')) (CD : Hid (∀ W, Calls Try.prog 84 #[.int .i64 d, .int .i64 0] W fun e w' => e = .returned (.int .i64 s) ∧ w' = W)) (CF : Hid (∀ W, Calls Try.prog 79 #[pnv a b c] W fun e w' => e = .returned (pnv v1 v2 v3) ∧ Below W.heap.size W w')) (C1 : Hid (∀ W, Calls Try.prog 78 #[.agg #[.int .i64 1, .int .i64 1048576, .int .i64 1099511627776], ptv v1] W fun e w' => e = .returned (.int .i64 r1) ∧ Below W.heap.size W w')) (D1 : Hid (∀ W, Calls Try.prog 84 #[.int .i64 r1, .int .i64 0] W fun e w' => e = .returned (.int .i64 s1) ∧ w' = W)) (C2 : Hid (∀ W, Calls Try.prog 78 #[.agg #[.int .i64 1, .int .i64 1048576, .int .i64 1099511627776], ptv v2] W fun e w' => e = .returned (.int .i64 r2) ∧ Below W.heap.size W w')) (D2 : Hid (∀ W, Calls Try.prog 84 #[.int .i64 r2, .int .i64 0] W fun e w' => e = .returned (.int .i64 s2) ∧ w' = W)) (C3 : Hid (∀ W, Calls Try.prog 78 #[.agg #[.int .i64 1, .int .i64 1048576, .int .i64 1099511627776], ptv v3] W fun e w' => e = .returned (.int .i64 r3) ∧ Below W.heap.size W w')) (D3 : Hid (∀ W, Calls Try.prog 84 #[.int .i64 r3, .int .i64 0] W fun e w' => e = .returned (.int .i64 s3) ∧ w' = W)) (h1 : (s1 != s) = false) (h2 : (s2 != s) = false) (h3 : (s3 != s) = false) : Calls Try.prog 38 #[pnv a b c] w fun e w' => e = .returned (.int .i64 s) ∧ Below w.heap.size w w' := by
  go_enter Try.func38, Try.ntmps38
  go_wp2_with fail
  refine (CP.out _).mono ?_
  rintro e w1 ⟨rfl, hb1⟩
  have XP := Lib.hid (pan_below (pan_alloc (pan_new w a b c 77) (.cells #[.int .i64 1, .int .i64 1048576, .int .i64 1099511627776] 27)) hb1)
  have XN := Lib.hid (by have z := own_below (own_new (w.alloc (pnc a b c 77)) (1, 1048576, 1099511627776) 27) hb1; simp only [World.size_alloc] at z; exact z : Own w1 (w.heap.size + 1) (1, 1048576, 1099511627776))
  have B1 := Lib.hid (bstep (balloc (balloc (Below.refl _ w) _) _) hb1)
  clear hb1
  go_wp2_with fail
  refine (CD.out _).mono ?_
  rintro e w2 ⟨rfl, rfl⟩
  have XP' := XP.out
  obtain ⟨p1, p2, p3, p4, p5, p6, p7, p8, p9, p0⟩ := XP'
  go_wp2_with fail
  refine (CF.out _).mono ?_
  rintro e w3 ⟨rfl, hb3⟩
  clear p1 p2 p3 p4 p5 p6 p7 p8 p9 p0
  have XN := Lib.hid (own_below XN.out hb3)
  have B3 := Lib.hid (bstep B1.out hb3)
  clear hb3 XP
  have j0 : ∀ w, (Instr.index 119 (.agg #[.int .i64 v1.1, .int .i64 v1.2.1, .int .i64 v1.2.2, .int .i64 v2.1, .int .i64 v2.2.1, .int .i64 v2.2.2, .int .i64 v3.1, .int .i64 v3.2.1, .int .i64 v3.2.2]) (.int .i64 0)).run Try.prog w = .ok (ptv v1) w := fun _ => by kernel_rfl
  have j1 : ∀ w, (Instr.index 119 (.agg #[.int .i64 v1.1, .int .i64 v1.2.1, .int .i64 v1.2.2, .int .i64 v2.1, .int .i64 v2.2.1, .int .i64 v2.2.2, .int .i64 v3.1, .int .i64 v3.2.1, .int .i64 v3.2.2]) (.int .i64 1)).run Try.prog w = .ok (ptv v2) w := fun _ => by kernel_rfl
  have j2 : ∀ w, (Instr.index 119 (.agg #[.int .i64 v1.1, .int .i64 v1.2.1, .int .i64 v1.2.2, .int .i64 v2.1, .int .i64 v2.2.1, .int .i64 v2.2.2, .int .i64 v3.1, .int .i64 v3.2.1, .int .i64 v3.2.2]) (.int .i64 2)).run Try.prog w = .ok (ptv v3) w := fun _ => by kernel_rfl
  go_wp2
  refine wp_loop_rounds 4 ?_
  rw [rounds_succ]
  have XN' := Lib.hid (own_alloc XN.out (ptc v1 27))
  have XN2 := XN'.out
  obtain ⟨n1, n2, n3, n4, n5, n6, n7⟩ := XN2
  dsimp only at n1 n2 n3
  go_wp2_with fail
  refine (C1.out _).mono ?_
  rintro e w4 ⟨rfl, hb⟩
  clear n1 n2 n3 n4 n5 n6 n7
  have XN := Lib.hid (own_below XN'.out hb)
  have B4 := Lib.hid (bstep (balloc B3.out (ptc v1 27)) hb)
  clear hb XN'
  go_wp2_with fail
  refine (D1.out _).mono ?_
  rintro e ww ⟨rfl, rfl⟩
  go_wp2
  rw [rounds_succ]
  have XN' := Lib.hid (own_alloc XN.out (ptc v2 27))
  have XN2 := XN'.out
  obtain ⟨n1, n2, n3, n4, n5, n6, n7⟩ := XN2
  dsimp only at n1 n2 n3
  go_wp2_with fail
  refine (C2.out _).mono ?_
  rintro e w5 ⟨rfl, hb⟩
  clear n1 n2 n3 n4 n5 n6 n7
  have XN := Lib.hid (own_below XN'.out hb)
  have B5 := Lib.hid (bstep (balloc B4.out (ptc v2 27)) hb)
  clear hb XN'
  go_wp2_with fail
  refine (D2.out _).mono ?_
  rintro e ww ⟨rfl, rfl⟩
  go_wp2
  rw [rounds_succ]
  have XN' := Lib.hid (own_alloc XN.out (ptc v3 27))
  have XN2 := XN'.out
  obtain ⟨n1, n2, n3, n4, n5, n6, n7⟩ := XN2
  dsimp only at n1 n2 n3
  go_wp2_with fail
  refine (C3.out _).mono ?_
  rintro e w6 ⟨rfl, hb⟩
  clear n1 n2 n3 n4 n5 n6 n7
  have XN := Lib.hid (own_below XN'.out hb)
  have B6 := Lib.hid (bstep (balloc B5.out (ptc v3 27)) hb)
  clear hb XN'
  go_wp2_with fail
  refine (D3.out _).mono ?_
  rintro e ww ⟨rfl, rfl⟩
  go_wp2
  rw [rounds_succ]
  go_wp2
  go_ret
  exact ⟨rfl, B6.out⟩
theorem ray_bd {v : P3} (h : BdP 262144 v) : BdP 1152921504606846976 (pw ray v) := by
  obtain ⟨h1, h2, h3, h4, h5, h6⟩ := h
  unfold pw ray BdP
  dsimp only
  omega
theorem cro_any (a b c : P3) (w : World) (ha : BdP 320 a) (hb : BdP 320 b) (hc : BdP 320 c) : Calls Try.prog 38 #[pnv a b c] w fun e w' => e = .returned (.int .i64 (croT a b c)) ∧ Below w.heap.size w w' := by
  have vb (x y : P3) (hx : BdP 320 x) (hy : BdP 320 y) : BdP 262144 (vec x y) := (vec_bd hx hy).mono (by decide)
  have cm (x : Int) := Lib.hid fun W => Try.cmp_Compare_int x 0 W
  have CP := Lib.hid fun W => product_any a b c W (ha.mono (by decide)) (hb.mono (by decide)) (hc.mono (by decide))
  have CF := Lib.hid fun W => fro_any a b c W (ha.mono (by decide)) (hb.mono (by decide)) (hc.mono (by decide))
  have C1 := Lib.hid fun W => scalar_any ray (vec a b) W (ray_bd (vb _ _ ha hb))
  have C2 := Lib.hid fun W => scalar_any ray (vec b c) W (ray_bd (vb _ _ hb hc))
  have C3 := Lib.hid fun W => scalar_any ray (vec c a) W (ray_bd (vb _ _ hc ha))
  unfold croT crB
  by_cases h1 : sg (dot ray (vec a b)) = sg (det a b c)
  · have e1 : (sg (dot ray (vec a b)) != sg (det a b c)) = false := by rw [h1]; simp
    by_cases h2 : sg (dot ray (vec b c)) = sg (det a b c)
    · have e2 : (sg (dot ray (vec b c)) != sg (det a b c)) = false := by rw [h2]; simp
      by_cases h3 : sg (dot ray (vec c a)) = sg (det a b c)
      · have e3 : (sg (dot ray (vec c a)) != sg (det a b c)) = false := by rw [h3]; simp
        rw [if_pos ⟨h1, h2, h3⟩]
        exact cr_4 _ _ _ _ _ _ _ _ _ _ _ _ _ _ w CP (cm _) CF C1 (cm _) C2 (cm _) C3 (cm _) e1 e2 e3
      · rw [if_neg (fun h => h3 h.2.2)]
        exact cr_3 _ _ _ _ _ _ _ _ _ _ _ _ _ _ w CP (cm _) CF C1 (cm _) C2 (cm _) C3 (cm _) e1 e2 (bne_iff_ne.2 h3)
    · rw [if_neg (fun h => h2 h.2.1)]
      exact cr_2 _ _ _ _ _ _ _ _ _ _ _ _ w CP (cm _) CF C1 (cm _) C2 (cm _) e1 (bne_iff_ne.2 h2)
  · rw [if_neg (fun h => h1 h.1)]
    exact cr_1 _ _ _ _ _ _ _ _ _ _ w CP (cm _) CF C1 (cm _) (bne_iff_ne.2 h1)

end Go.Proofs.Ytllonfaogbdbnaa
