/-
  The contract of the document's Validate for moments.
-/
import Derived.Test.YtjflgiegnibgmaaDoorMoV
namespace Go.Proofs.YtjflgiegnibgmaaDoor
open Go.ChangeShapes Go.WideShapes Go.RowKit
open Sh
set_option maxRecDepth 100000 in
set_option maxHeartbeats 2000000 in
theorem rmval_any (m : Mo) (w : World) : Calls Tryd.prog 47 #[mov m] w (MVal m w) := by
  cases h0 : decide (m.t < 0) with
  | true =>
    have h := h0
    have N := Lib.hid (show ¬ mok m from fun x => absurd x.1.1 (by have := of_decide_eq_true h; omega))
    clear h
    go_enter Tryd.func47, Tryd.ntmps47
    go_wp2
    go_ret
    exact mval_no N.out (by (repeat' (first | exact Below.refl _ _ | refine Below.setCell ?_ (by simp <;> omega) _ | refine balloc ?_ _ | refine Below.drew ?_ | refine bdrewN ?_ _)))
  | false =>
    cases h1 : decide (1048576 < m.t) with
    | true =>
      have h := h1
      have N := Lib.hid (show ¬ mok m from fun x => absurd x.1.2 (by have := of_decide_eq_true h; omega))
      clear h
      go_enter Tryd.func47, Tryd.ntmps47
      go_wp2
      go_ret
      exact mval_no N.out (by (repeat' (first | exact Below.refl _ _ | refine Below.setCell ?_ (by simp <;> omega) _ | refine balloc ?_ _ | refine Below.drew ?_ | refine bdrewN ?_ _)))
    | false =>
      cases h2 : decide (m.t < m.c) with
      | true =>
        have h := h2
        have N := Lib.hid (show ¬ mok m from fun x => absurd x.2.1.2 (by have := of_decide_eq_true h; omega))
        clear h
        have q0 := of_decide_eq_false h0
        have q1 := of_decide_eq_false h1
        have y0 : 0 ≤ m.t := by omega
        have y1 : m.t ≤ 1048576 := by omega
        clear q0 q1
        go_enter Tryd.func47, Tryd.ntmps47
        go_wp2
        go_ret
        exact mval_no N.out (by (repeat' (first | exact Below.refl _ _ | refine Below.setCell ?_ (by simp <;> omega) _ | refine balloc ?_ _ | refine Below.drew ?_ | refine bdrewN ?_ _)))
      | false =>
        cases h3 : decide (m.c < -m.t) with
        | true =>
          have h := h3
          have N := Lib.hid (show ¬ mok m from fun x => absurd x.2.1.1 (by have := of_decide_eq_true h; omega))
          clear h
          have q0 := of_decide_eq_false h0
          have q1 := of_decide_eq_false h1
          have y0 : 0 ≤ m.t := by omega
          have y1 : m.t ≤ 1048576 := by omega
          clear q0 q1
          go_enter Tryd.func47, Tryd.ntmps47
          go_wp2
          go_ret
          exact mval_no N.out (by (repeat' (first | exact Below.refl _ _ | refine Below.setCell ?_ (by simp <;> omega) _ | refine balloc ?_ _ | refine Below.drew ?_ | refine bdrewN ?_ _)))
        | false =>
          have q0 := of_decide_eq_false h0
          have q1 := of_decide_eq_false h1
          have q2 := of_decide_eq_false h2
          have q3 := of_decide_eq_false h3
          have y0 : 0 ≤ m.t := by omega
          have y1 : m.t ≤ 1048576 := by omega
          have TC := Lib.hid (show (0 ≤ m.t ∧ m.t ≤ 1048576) ∧ (-m.t ≤ m.c ∧ m.c ≤ m.t) from ⟨⟨y0, y1⟩, by omega, by omega⟩)
          clear q0 q1 q2 q3
          cases h4 : inP 1073741824 m.d with
          | false =>
            have N := Lib.hid (show ¬ mok m from fun x => inP_not.1 h4 x.2.2.1)
            have C : Hid (∀ W, Calls Tryd.prog 15 #[ptv m.d, .int .i64 1073741824] W fun e w' => e = .returned (.bool false) ∧ Below W.heap.size W w') := Lib.hid (fun W => (h4 ▸ small_any m.d 1073741824 W (by decide) (by decide) : Calls Tryd.prog 15 #[ptv m.d, .int .i64 1073741824] W fun e w' => e = .returned (.bool false) ∧ Below W.heap.size W w'))
            clear h4 TC
            go_enter Tryd.func47, Tryd.ntmps47
            go_wp2_with fail
            refine (C.out _).mono ?_
            rintro e w1 ⟨rfl, hb1⟩
            have B := Lib.hid (bstep (balloc (Below.refl w.heap.size w) _) hb1)
            have OM := Lib.hid (ownMo_below (ownMo_new w m _) hb1)
            clear hb1 C
            go_wp2
            go_ret
            exact mval_no N.out (by have hB := B.out; (repeat' (first | exact Below.refl _ _ | refine bstep ?_ hB | refine Below.setCell ?_ (by simp <;> omega) _ | refine balloc ?_ _ | refine Below.drew ?_ | refine bdrewN ?_ _)))
          | true =>
            have D := Lib.hid (inP_iff.1 h4)
            have C : Hid (∀ W, Calls Tryd.prog 15 #[ptv m.d, .int .i64 1073741824] W fun e w' => e = .returned (.bool true) ∧ Below W.heap.size W w') := Lib.hid (fun W => (h4 ▸ small_any m.d 1073741824 W (by decide) (by decide) : Calls Tryd.prog 15 #[ptv m.d, .int .i64 1073741824] W fun e w' => e = .returned (.bool true) ∧ Below W.heap.size W w'))
            clear h4
            go_enter Tryd.func47, Tryd.ntmps47
            go_wp2_with fail
            refine (C.out _).mono ?_
            rintro e w1 ⟨rfl, hb1⟩
            have B := Lib.hid (bstep (balloc (Below.refl w.heap.size w) _) hb1)
            have OM := Lib.hid (ownMo_below (ownMo_new w m _) hb1)
            clear hb1 C
            obtain ⟨⟨x0, x1, x2, x3, x4, x5, x6, x7, x8, x9, x10⟩, _, ll⟩ := OM.out
            go_wp2
            refine wp_loop_rounds 7 ?_
            rw [rounds_succ]
            cases g0 : decide (17179869184 < m.s0) with
            | true =>
              have h := g0
              have N := Lib.hid (show ¬ mok m from fun x => absurd x.2.2.2.1.2 (by have := of_decide_eq_true h; omega))
              clear h
              go_wp2
              go_ret
              exact mval_no N.out (by have hB := B.out; (repeat' (first | exact Below.refl _ _ | refine bstep ?_ hB | refine Below.setCell ?_ (by simp <;> omega) _ | refine balloc ?_ _ | refine Below.drew ?_ | refine bdrewN ?_ _)))
            | false =>
              cases k0 : decide (m.s0 < -17179869184) with
              | true =>
                have h := k0
                have N := Lib.hid (show ¬ mok m from fun x => absurd x.2.2.2.1.1 (by have := of_decide_eq_true h; omega))
                clear h
                go_wp2
                go_ret
                exact mval_no N.out (by have hB := B.out; (repeat' (first | exact Below.refl _ _ | refine bstep ?_ hB | refine Below.setCell ?_ (by simp <;> omega) _ | refine balloc ?_ _ | refine Below.drew ?_ | refine bdrewN ?_ _)))
              | false =>
                have S0 := Lib.hid (show -17179869184 ≤ m.s0 ∧ m.s0 ≤ 17179869184 from ⟨by have := of_decide_eq_false k0; omega, by have := of_decide_eq_false g0; omega⟩)
                go_wp2
                clear g0 k0
                rw [rounds_succ]
                cases g1 : decide (17179869184 < m.s1) with
                | true =>
                  have h := g1
                  have N := Lib.hid (show ¬ mok m from fun x => absurd x.2.2.2.2.1.2 (by have := of_decide_eq_true h; omega))
                  clear h
                  go_wp2
                  go_ret
                  exact mval_no N.out (by have hB := B.out; (repeat' (first | exact Below.refl _ _ | refine bstep ?_ hB | refine Below.setCell ?_ (by simp <;> omega) _ | refine balloc ?_ _ | refine Below.drew ?_ | refine bdrewN ?_ _)))
                | false =>
                  cases k1 : decide (m.s1 < -17179869184) with
                  | true =>
                    have h := k1
                    have N := Lib.hid (show ¬ mok m from fun x => absurd x.2.2.2.2.1.1 (by have := of_decide_eq_true h; omega))
                    clear h
                    go_wp2
                    go_ret
                    exact mval_no N.out (by have hB := B.out; (repeat' (first | exact Below.refl _ _ | refine bstep ?_ hB | refine Below.setCell ?_ (by simp <;> omega) _ | refine balloc ?_ _ | refine Below.drew ?_ | refine bdrewN ?_ _)))
                  | false =>
                    have S1 := Lib.hid (show -17179869184 ≤ m.s1 ∧ m.s1 ≤ 17179869184 from ⟨by have := of_decide_eq_false k1; omega, by have := of_decide_eq_false g1; omega⟩)
                    go_wp2
                    clear g1 k1
                    rw [rounds_succ]
                    cases g2 : decide (17179869184 < m.s2) with
                    | true =>
                      have h := g2
                      have N := Lib.hid (show ¬ mok m from fun x => absurd x.2.2.2.2.2.1.2 (by have := of_decide_eq_true h; omega))
                      clear h
                      go_wp2
                      go_ret
                      exact mval_no N.out (by have hB := B.out; (repeat' (first | exact Below.refl _ _ | refine bstep ?_ hB | refine Below.setCell ?_ (by simp <;> omega) _ | refine balloc ?_ _ | refine Below.drew ?_ | refine bdrewN ?_ _)))
                    | false =>
                      cases k2 : decide (m.s2 < -17179869184) with
                      | true =>
                        have h := k2
                        have N := Lib.hid (show ¬ mok m from fun x => absurd x.2.2.2.2.2.1.1 (by have := of_decide_eq_true h; omega))
                        clear h
                        go_wp2
                        go_ret
                        exact mval_no N.out (by have hB := B.out; (repeat' (first | exact Below.refl _ _ | refine bstep ?_ hB | refine Below.setCell ?_ (by simp <;> omega) _ | refine balloc ?_ _ | refine Below.drew ?_ | refine bdrewN ?_ _)))
                      | false =>
                        have S2 := Lib.hid (show -17179869184 ≤ m.s2 ∧ m.s2 ≤ 17179869184 from ⟨by have := of_decide_eq_false k2; omega, by have := of_decide_eq_false g2; omega⟩)
                        go_wp2
                        clear g2 k2
                        rw [rounds_succ]
                        cases g3 : decide (17179869184 < m.s3) with
                        | true =>
                          have h := g3
                          have N := Lib.hid (show ¬ mok m from fun x => absurd x.2.2.2.2.2.2.1.2 (by have := of_decide_eq_true h; omega))
                          clear h
                          go_wp2
                          go_ret
                          exact mval_no N.out (by have hB := B.out; (repeat' (first | exact Below.refl _ _ | refine bstep ?_ hB | refine Below.setCell ?_ (by simp <;> omega) _ | refine balloc ?_ _ | refine Below.drew ?_ | refine bdrewN ?_ _)))
                        | false =>
                          cases k3 : decide (m.s3 < -17179869184) with
                          | true =>
                            have h := k3
                            have N := Lib.hid (show ¬ mok m from fun x => absurd x.2.2.2.2.2.2.1.1 (by have := of_decide_eq_true h; omega))
                            clear h
                            go_wp2
                            go_ret
                            exact mval_no N.out (by have hB := B.out; (repeat' (first | exact Below.refl _ _ | refine bstep ?_ hB | refine Below.setCell ?_ (by simp <;> omega) _ | refine balloc ?_ _ | refine Below.drew ?_ | refine bdrewN ?_ _)))
                          | false =>
                            have S3 := Lib.hid (show -17179869184 ≤ m.s3 ∧ m.s3 ≤ 17179869184 from ⟨by have := of_decide_eq_false k3; omega, by have := of_decide_eq_false g3; omega⟩)
                            go_wp2
                            clear g3 k3
                            rw [rounds_succ]
                            cases g4 : decide (17179869184 < m.s4) with
                            | true =>
                              have h := g4
                              have N := Lib.hid (show ¬ mok m from fun x => absurd x.2.2.2.2.2.2.2.1.2 (by have := of_decide_eq_true h; omega))
                              clear h
                              go_wp2
                              go_ret
                              exact mval_no N.out (by have hB := B.out; (repeat' (first | exact Below.refl _ _ | refine bstep ?_ hB | refine Below.setCell ?_ (by simp <;> omega) _ | refine balloc ?_ _ | refine Below.drew ?_ | refine bdrewN ?_ _)))
                            | false =>
                              cases k4 : decide (m.s4 < -17179869184) with
                              | true =>
                                have h := k4
                                have N := Lib.hid (show ¬ mok m from fun x => absurd x.2.2.2.2.2.2.2.1.1 (by have := of_decide_eq_true h; omega))
                                clear h
                                go_wp2
                                go_ret
                                exact mval_no N.out (by have hB := B.out; (repeat' (first | exact Below.refl _ _ | refine bstep ?_ hB | refine Below.setCell ?_ (by simp <;> omega) _ | refine balloc ?_ _ | refine Below.drew ?_ | refine bdrewN ?_ _)))
                              | false =>
                                have S4 := Lib.hid (show -17179869184 ≤ m.s4 ∧ m.s4 ≤ 17179869184 from ⟨by have := of_decide_eq_false k4; omega, by have := of_decide_eq_false g4; omega⟩)
                                go_wp2
                                clear g4 k4
                                rw [rounds_succ]
                                cases g5 : decide (17179869184 < m.s5) with
                                | true =>
                                  have h := g5
                                  have N := Lib.hid (show ¬ mok m from fun x => absurd x.2.2.2.2.2.2.2.2.2 (by have := of_decide_eq_true h; omega))
                                  clear h
                                  go_wp2
                                  go_ret
                                  exact mval_no N.out (by have hB := B.out; (repeat' (first | exact Below.refl _ _ | refine bstep ?_ hB | refine Below.setCell ?_ (by simp <;> omega) _ | refine balloc ?_ _ | refine Below.drew ?_ | refine bdrewN ?_ _)))
                                | false =>
                                  cases k5 : decide (m.s5 < -17179869184) with
                                  | true =>
                                    have h := k5
                                    have N := Lib.hid (show ¬ mok m from fun x => absurd x.2.2.2.2.2.2.2.2.1 (by have := of_decide_eq_true h; omega))
                                    clear h
                                    go_wp2
                                    go_ret
                                    exact mval_no N.out (by have hB := B.out; (repeat' (first | exact Below.refl _ _ | refine bstep ?_ hB | refine Below.setCell ?_ (by simp <;> omega) _ | refine balloc ?_ _ | refine Below.drew ?_ | refine bdrewN ?_ _)))
                                  | false =>
                                    have S5 := Lib.hid (show -17179869184 ≤ m.s5 ∧ m.s5 ≤ 17179869184 from ⟨by have := of_decide_eq_false k5; omega, by have := of_decide_eq_false g5; omega⟩)
                                    go_wp2
                                    clear g5 k5
                                    rw [rounds_succ]
                                    go_wp2
                                    go_ret
                                    exact mval_yes ⟨TC.out.1, TC.out.2, D.out, S0.out, S1.out, S2.out, S3.out, S4.out, S5.out⟩ (by have hB := B.out; (repeat' (first | exact Below.refl _ _ | refine bstep ?_ hB | refine Below.setCell ?_ (by simp <;> omega) _ | refine balloc ?_ _ | refine Below.drew ?_ | refine bdrewN ?_ _)))

end Go.Proofs.YtjflgiegnibgmaaDoor
