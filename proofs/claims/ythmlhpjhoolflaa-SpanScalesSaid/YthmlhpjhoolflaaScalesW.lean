/-
  The law SpanScales: for every input it answers true.
-/
import Derived.Test.YthmlhpjhoolflaaKnown
import Derived.Test.YthmlhpjhoolflaaScale2
namespace Go.Proofs.Ythmlhpjhoolflaa
open Go.ChangeShapes Go.WideShapes Go.RowKit
theorem mul_fl (a n : Int) (h : 0 < n) : Sp.fl (a * n) n = a := by rw [Sp.fl_pos h, Int.mul_ediv_cancel _ (by omega)]
theorem mul_ce (a n : Int) (h : 0 < n) : Sp.ce (a * n) n = a := by unfold Sp.ce; rw [← Int.neg_mul, mul_fl _ _ h]; omega
theorem scales_back {lo hi n : Int} (h : (scaleR lo hi n).2 = 0) (k : 1 ≤ n) : (partR (scaleR lo hi n).1.1 (scaleR lo hi n).1.2 n) = ((lo, hi), 0) := by
  revert h
  unfold scaleR
  split
  · rename_i q
    have b := Sp.vld_iff.1 q.1
    rw [(scale_pos (n := n) b.2.1 (by omega)).1, (scale_pos (n := n) b.2.1 (by omega)).2]
    unfold Sp.told
    split
    · rename_i v
      intro _
      unfold partR
      rw [if_pos ⟨v, k, q.2.2⟩, mul_fl _ _ (by omega), mul_ce _ _ (by omega), Sp.told_yes q.1]
    · intro h; exact absurd h (by decide)
  · intro h; exact absurd h (by decide)
theorem scales_e (lo hi n : Int) (w : World) (n0 : (scaleR lo hi n).2 ≠ 0) :
    Calls Try.prog 7 #[spv lo hi, .int .i64 n] w fun e w' => e = .returned (.bool true) ∧ Below w.heap.size w w' := by
  have n1 : ((scaleR lo hi n).2 != 0) = true := bne_iff_ne.2 n0
  clear n0
  go_enter Try.func7, Try.ntmps7
  go_wp2_with fail
  refine (scale_any _ _ _ _).mono ?_
  rintro e w1 ⟨rfl, hb1⟩
  have p1_0 := pair_below (pair_new _ lo hi _) hb1
  have c1_0 := p1_0.1
  have d1_0 := p1_0.2.1
  have s1_0 := p1_0.2.2.2.2
  go_wp2_with fail
  refine (rscale_any _ _ _ _).mono ?_
  rintro e w2 ⟨rfl, hb2⟩
  have p2_0 := pair_below (pair_alloc p1_0 _) hb2
  have p2_1 := pair_below (pair_new _ (scaleR lo hi n).1.1 (scaleR lo hi n).1.2 _) hb2
  clear c1_0 d1_0 s1_0 p1_0
  have c2_0 := p2_0.1
  have d2_0 := p2_0.2.1
  have s2_0 := p2_0.2.2.2.2
  have c2_1 := p2_1.1
  have d2_1 := p2_1.2.1
  have s2_1 := p2_1.2.2.2.2
  go_wp2_with fail
  refine (part_any _ _ _ _).mono ?_
  rintro e w3 ⟨rfl, hb3⟩
  have p3_0 := pair_below (pair_alloc p2_0 _) hb3
  have p3_1 := pair_below (pair_alloc p2_1 _) hb3
  have p3_2 := pair_below (pair_new _ (scaleR lo hi n).1.1 (scaleR lo hi n).1.2 _) hb3
  clear c2_0 d2_0 s2_0 c2_1 d2_1 s2_1 p2_0 p2_1
  have c3_0 := p3_0.1
  have d3_0 := p3_0.2.1
  have s3_0 := p3_0.2.2.2.2
  have c3_1 := p3_1.1
  have d3_1 := p3_1.2.1
  have s3_1 := p3_1.2.2.2.2
  have c3_2 := p3_2.1
  have d3_2 := p3_2.2.1
  have s3_2 := p3_2.2.2.2.2
  go_wp2_with fail
  refine (rpart_any _ _ _ _).mono ?_
  rintro e w4 ⟨rfl, hb4⟩
  have p4_0 := pair_below (pair_alloc p3_0 _) hb4
  have p4_1 := pair_below (pair_alloc p3_1 _) hb4
  have p4_2 := pair_below (pair_alloc p3_2 _) hb4
  have p4_3 := pair_below (pair_new _ (partR lo hi n).1.1 (partR lo hi n).1.2 _) hb4
  clear c3_0 d3_0 s3_0 c3_1 d3_1 s3_1 c3_2 d3_2 s3_2 p3_0 p3_1 p3_2
  have c4_0 := p4_0.1
  have d4_0 := p4_0.2.1
  have s4_0 := p4_0.2.2.2.2
  have c4_1 := p4_1.1
  have d4_1 := p4_1.2.1
  have s4_1 := p4_1.2.2.2.2
  have c4_2 := p4_2.1
  have d4_2 := p4_2.2.1
  have s4_2 := p4_2.2.2.2.2
  have c4_3 := p4_3.1
  have d4_3 := p4_3.2.1
  have s4_3 := p4_3.2.2.2.2
  go_wp2_with fail
  refine (part_any _ _ _ _).mono ?_
  rintro e w5 ⟨rfl, hb5⟩
  have p5_0 := pair_below (pair_alloc p4_0 _) hb5
  have p5_1 := pair_below (pair_alloc p4_1 _) hb5
  have p5_2 := pair_below (pair_alloc p4_2 _) hb5
  have p5_3 := pair_below (pair_alloc p4_3 _) hb5
  have p5_4 := pair_below (pair_new _ (partR lo hi n).1.1 (partR lo hi n).1.2 _) hb5
  clear c4_0 d4_0 s4_0 c4_1 d4_1 s4_1 c4_2 d4_2 s4_2 c4_3 d4_3 s4_3 p4_0 p4_1 p4_2 p4_3
  have c5_0 := p5_0.1
  have d5_0 := p5_0.2.1
  have s5_0 := p5_0.2.2.2.2
  have c5_1 := p5_1.1
  have d5_1 := p5_1.2.1
  have s5_1 := p5_1.2.2.2.2
  have c5_2 := p5_2.1
  have d5_2 := p5_2.2.1
  have s5_2 := p5_2.2.2.2.2
  have c5_3 := p5_3.1
  have d5_3 := p5_3.2.1
  have s5_3 := p5_3.2.2.2.2
  have c5_4 := p5_4.1
  have d5_4 := p5_4.2.1
  have s5_4 := p5_4.2.2.2.2
  go_wp2_with fail
  refine (known_any _).mono ?_
  rintro e w6 ⟨rfl, hb6⟩
  have p6_0 := pair_below (pair_alloc p5_0 _) hb6
  have p6_1 := pair_below (pair_alloc p5_1 _) hb6
  have p6_2 := pair_below (pair_alloc p5_2 _) hb6
  have p6_3 := pair_below (pair_alloc p5_3 _) hb6
  have p6_4 := pair_below (pair_alloc p5_4 _) hb6
  have p6_5 := pair_below (pair_new _ (partR (scaleR lo hi n).1.1 (scaleR lo hi n).1.2 n).1.1 (partR (scaleR lo hi n).1.1 (scaleR lo hi n).1.2 n).1.2 _) hb6
  clear c5_0 d5_0 s5_0 c5_1 d5_1 s5_1 c5_2 d5_2 s5_2 c5_3 d5_3 s5_3 c5_4 d5_4 s5_4 p5_0 p5_1 p5_2 p5_3 p5_4
  have c6_0 := p6_0.1
  have d6_0 := p6_0.2.1
  have s6_0 := p6_0.2.2.2.2
  have c6_1 := p6_1.1
  have d6_1 := p6_1.2.1
  have s6_1 := p6_1.2.2.2.2
  have c6_2 := p6_2.1
  have d6_2 := p6_2.2.1
  have s6_2 := p6_2.2.2.2.2
  have c6_3 := p6_3.1
  have d6_3 := p6_3.2.1
  have s6_3 := p6_3.2.2.2.2
  have c6_4 := p6_4.1
  have d6_4 := p6_4.2.1
  have s6_4 := p6_4.2.2.2.2
  have c6_5 := p6_5.1
  have d6_5 := p6_5.2.1
  have s6_5 := p6_5.2.2.2.2
  go_wp2
  go_ret
  exact ⟨rfl, by (repeat' (first | exact Below.refl _ _ | refine bstep ?_ hb1 | refine bstep ?_ hb2 | refine bstep ?_ hb3 | refine bstep ?_ hb4 | refine bstep ?_ hb5 | refine bstep ?_ hb6 | refine Below.setCell ?_ (by simp <;> omega) _ | refine balloc ?_ _ | refine Below.drew ?_ | refine bdrewN ?_ _))⟩
theorem scales_n (lo hi n : Int) (w : World) (z : (scaleR lo hi n).2 = 0) (k : n < 1) :
    Calls Try.prog 7 #[spv lo hi, .int .i64 n] w fun e w' => e = .returned (.bool true) ∧ Below w.heap.size w w' := by
  have z1 : ((scaleR lo hi n).2 != 0) = false := by rw [z]; rfl
  clear z
  go_enter Try.func7, Try.ntmps7
  go_wp2_with fail
  refine (scale_any _ _ _ _).mono ?_
  rintro e w1 ⟨rfl, hb1⟩
  have p1_0 := pair_below (pair_new _ lo hi _) hb1
  have c1_0 := p1_0.1
  have d1_0 := p1_0.2.1
  have s1_0 := p1_0.2.2.2.2
  go_wp2_with fail
  refine (rscale_any _ _ _ _).mono ?_
  rintro e w2 ⟨rfl, hb2⟩
  have p2_0 := pair_below (pair_alloc p1_0 _) hb2
  have p2_1 := pair_below (pair_new _ (scaleR lo hi n).1.1 (scaleR lo hi n).1.2 _) hb2
  clear c1_0 d1_0 s1_0 p1_0
  have c2_0 := p2_0.1
  have d2_0 := p2_0.2.1
  have s2_0 := p2_0.2.2.2.2
  have c2_1 := p2_1.1
  have d2_1 := p2_1.2.1
  have s2_1 := p2_1.2.2.2.2
  go_wp2_with fail
  refine (part_any _ _ _ _).mono ?_
  rintro e w3 ⟨rfl, hb3⟩
  have p3_0 := pair_below (pair_alloc p2_0 _) hb3
  have p3_1 := pair_below (pair_alloc p2_1 _) hb3
  have p3_2 := pair_below (pair_new _ (scaleR lo hi n).1.1 (scaleR lo hi n).1.2 _) hb3
  clear c2_0 d2_0 s2_0 c2_1 d2_1 s2_1 p2_0 p2_1
  have c3_0 := p3_0.1
  have d3_0 := p3_0.2.1
  have s3_0 := p3_0.2.2.2.2
  have c3_1 := p3_1.1
  have d3_1 := p3_1.2.1
  have s3_1 := p3_1.2.2.2.2
  have c3_2 := p3_2.1
  have d3_2 := p3_2.2.1
  have s3_2 := p3_2.2.2.2.2
  go_wp2_with fail
  refine (rpart_any _ _ _ _).mono ?_
  rintro e w4 ⟨rfl, hb4⟩
  have p4_0 := pair_below (pair_alloc p3_0 _) hb4
  have p4_1 := pair_below (pair_alloc p3_1 _) hb4
  have p4_2 := pair_below (pair_alloc p3_2 _) hb4
  have p4_3 := pair_below (pair_new _ (partR lo hi n).1.1 (partR lo hi n).1.2 _) hb4
  clear c3_0 d3_0 s3_0 c3_1 d3_1 s3_1 c3_2 d3_2 s3_2 p3_0 p3_1 p3_2
  have c4_0 := p4_0.1
  have d4_0 := p4_0.2.1
  have s4_0 := p4_0.2.2.2.2
  have c4_1 := p4_1.1
  have d4_1 := p4_1.2.1
  have s4_1 := p4_1.2.2.2.2
  have c4_2 := p4_2.1
  have d4_2 := p4_2.2.1
  have s4_2 := p4_2.2.2.2.2
  have c4_3 := p4_3.1
  have d4_3 := p4_3.2.1
  have s4_3 := p4_3.2.2.2.2
  go_wp2_with fail
  refine (part_any _ _ _ _).mono ?_
  rintro e w5 ⟨rfl, hb5⟩
  have p5_0 := pair_below (pair_alloc p4_0 _) hb5
  have p5_1 := pair_below (pair_alloc p4_1 _) hb5
  have p5_2 := pair_below (pair_alloc p4_2 _) hb5
  have p5_3 := pair_below (pair_alloc p4_3 _) hb5
  have p5_4 := pair_below (pair_new _ (partR lo hi n).1.1 (partR lo hi n).1.2 _) hb5
  clear c4_0 d4_0 s4_0 c4_1 d4_1 s4_1 c4_2 d4_2 s4_2 c4_3 d4_3 s4_3 p4_0 p4_1 p4_2 p4_3
  have c5_0 := p5_0.1
  have d5_0 := p5_0.2.1
  have s5_0 := p5_0.2.2.2.2
  have c5_1 := p5_1.1
  have d5_1 := p5_1.2.1
  have s5_1 := p5_1.2.2.2.2
  have c5_2 := p5_2.1
  have d5_2 := p5_2.2.1
  have s5_2 := p5_2.2.2.2.2
  have c5_3 := p5_3.1
  have d5_3 := p5_3.2.1
  have s5_3 := p5_3.2.2.2.2
  have c5_4 := p5_4.1
  have d5_4 := p5_4.2.1
  have s5_4 := p5_4.2.2.2.2
  go_wp2_with fail
  refine (known_any _).mono ?_
  rintro e w6 ⟨rfl, hb6⟩
  have p6_0 := pair_below (pair_alloc p5_0 _) hb6
  have p6_1 := pair_below (pair_alloc p5_1 _) hb6
  have p6_2 := pair_below (pair_alloc p5_2 _) hb6
  have p6_3 := pair_below (pair_alloc p5_3 _) hb6
  have p6_4 := pair_below (pair_alloc p5_4 _) hb6
  have p6_5 := pair_below (pair_new _ (partR (scaleR lo hi n).1.1 (scaleR lo hi n).1.2 n).1.1 (partR (scaleR lo hi n).1.1 (scaleR lo hi n).1.2 n).1.2 _) hb6
  clear c5_0 d5_0 s5_0 c5_1 d5_1 s5_1 c5_2 d5_2 s5_2 c5_3 d5_3 s5_3 c5_4 d5_4 s5_4 p5_0 p5_1 p5_2 p5_3 p5_4
  have c6_0 := p6_0.1
  have d6_0 := p6_0.2.1
  have s6_0 := p6_0.2.2.2.2
  have c6_1 := p6_1.1
  have d6_1 := p6_1.2.1
  have s6_1 := p6_1.2.2.2.2
  have c6_2 := p6_2.1
  have d6_2 := p6_2.2.1
  have s6_2 := p6_2.2.2.2.2
  have c6_3 := p6_3.1
  have d6_3 := p6_3.2.1
  have s6_3 := p6_3.2.2.2.2
  have c6_4 := p6_4.1
  have d6_4 := p6_4.2.1
  have s6_4 := p6_4.2.2.2.2
  have c6_5 := p6_5.1
  have d6_5 := p6_5.2.1
  have s6_5 := p6_5.2.2.2.2
  go_wp2
  go_ret
  exact ⟨rfl, by (repeat' (first | exact Below.refl _ _ | refine bstep ?_ hb1 | refine bstep ?_ hb2 | refine bstep ?_ hb3 | refine bstep ?_ hb4 | refine bstep ?_ hb5 | refine bstep ?_ hb6 | refine Below.setCell ?_ (by simp <;> omega) _ | refine balloc ?_ _ | refine Below.drew ?_ | refine bdrewN ?_ _))⟩
theorem scales_y (lo hi n : Int) (w : World) (z : (scaleR lo hi n).2 = 0) (k : 1 ≤ n) :
    Calls Try.prog 7 #[spv lo hi, .int .i64 n] w fun e w' => e = .returned (.bool true) ∧ Below w.heap.size w w' := by
  have z1 : ((scaleR lo hi n).2 != 0) = false := by rw [z]; rfl
  have C := fun w => part_any (scaleR lo hi n).1.1 (scaleR lo hi n).1.2 n w
  rw [scales_back z k] at C
  have C := Lib.hid C
  clear z
  go_enter Try.func7, Try.ntmps7
  go_wp2_with fail
  refine (scale_any _ _ _ _).mono ?_
  rintro e w1 ⟨rfl, hb1⟩
  have p1_0 := pair_below (pair_new _ lo hi _) hb1
  have c1_0 := p1_0.1
  have d1_0 := p1_0.2.1
  have s1_0 := p1_0.2.2.2.2
  go_wp2_with fail
  refine (rscale_any _ _ _ _).mono ?_
  rintro e w2 ⟨rfl, hb2⟩
  have p2_0 := pair_below (pair_alloc p1_0 _) hb2
  have p2_1 := pair_below (pair_new _ (scaleR lo hi n).1.1 (scaleR lo hi n).1.2 _) hb2
  clear c1_0 d1_0 s1_0 p1_0
  have c2_0 := p2_0.1
  have d2_0 := p2_0.2.1
  have s2_0 := p2_0.2.2.2.2
  have c2_1 := p2_1.1
  have d2_1 := p2_1.2.1
  have s2_1 := p2_1.2.2.2.2
  go_wp2_with fail
  refine (part_any _ _ _ _).mono ?_
  rintro e w3 ⟨rfl, hb3⟩
  have p3_0 := pair_below (pair_alloc p2_0 _) hb3
  have p3_1 := pair_below (pair_alloc p2_1 _) hb3
  have p3_2 := pair_below (pair_new _ (scaleR lo hi n).1.1 (scaleR lo hi n).1.2 _) hb3
  clear c2_0 d2_0 s2_0 c2_1 d2_1 s2_1 p2_0 p2_1
  have c3_0 := p3_0.1
  have d3_0 := p3_0.2.1
  have s3_0 := p3_0.2.2.2.2
  have c3_1 := p3_1.1
  have d3_1 := p3_1.2.1
  have s3_1 := p3_1.2.2.2.2
  have c3_2 := p3_2.1
  have d3_2 := p3_2.2.1
  have s3_2 := p3_2.2.2.2.2
  go_wp2_with fail
  refine (rpart_any _ _ _ _).mono ?_
  rintro e w4 ⟨rfl, hb4⟩
  have p4_0 := pair_below (pair_alloc p3_0 _) hb4
  have p4_1 := pair_below (pair_alloc p3_1 _) hb4
  have p4_2 := pair_below (pair_alloc p3_2 _) hb4
  have p4_3 := pair_below (pair_new _ (partR lo hi n).1.1 (partR lo hi n).1.2 _) hb4
  clear c3_0 d3_0 s3_0 c3_1 d3_1 s3_1 c3_2 d3_2 s3_2 p3_0 p3_1 p3_2
  have c4_0 := p4_0.1
  have d4_0 := p4_0.2.1
  have s4_0 := p4_0.2.2.2.2
  have c4_1 := p4_1.1
  have d4_1 := p4_1.2.1
  have s4_1 := p4_1.2.2.2.2
  have c4_2 := p4_2.1
  have d4_2 := p4_2.2.1
  have s4_2 := p4_2.2.2.2.2
  have c4_3 := p4_3.1
  have d4_3 := p4_3.2.1
  have s4_3 := p4_3.2.2.2.2
  go_wp2_with fail
  refine (C.out _).mono ?_
  rintro e w5 ⟨rfl, hb5⟩
  have p5_0 := pair_below (pair_alloc p4_0 _) hb5
  have p5_1 := pair_below (pair_alloc p4_1 _) hb5
  have p5_2 := pair_below (pair_alloc p4_2 _) hb5
  have p5_3 := pair_below (pair_alloc p4_3 _) hb5
  have p5_4 := pair_below (pair_new _ (partR lo hi n).1.1 (partR lo hi n).1.2 _) hb5
  clear c4_0 d4_0 s4_0 c4_1 d4_1 s4_1 c4_2 d4_2 s4_2 c4_3 d4_3 s4_3 p4_0 p4_1 p4_2 p4_3
  have c5_0 := p5_0.1
  have d5_0 := p5_0.2.1
  have s5_0 := p5_0.2.2.2.2
  have c5_1 := p5_1.1
  have d5_1 := p5_1.2.1
  have s5_1 := p5_1.2.2.2.2
  have c5_2 := p5_2.1
  have d5_2 := p5_2.2.1
  have s5_2 := p5_2.2.2.2.2
  have c5_3 := p5_3.1
  have d5_3 := p5_3.2.1
  have s5_3 := p5_3.2.2.2.2
  have c5_4 := p5_4.1
  have d5_4 := p5_4.2.1
  have s5_4 := p5_4.2.2.2.2
  go_wp2_with fail
  refine (known_any _).mono ?_
  rintro e w6 ⟨rfl, hb6⟩
  have p6_0 := pair_below (pair_alloc p5_0 _) hb6
  have p6_1 := pair_below (pair_alloc p5_1 _) hb6
  have p6_2 := pair_below (pair_alloc p5_2 _) hb6
  have p6_3 := pair_below (pair_alloc p5_3 _) hb6
  have p6_4 := pair_below (pair_alloc p5_4 _) hb6
  have p6_5 := pair_below (pair_new _ lo hi _) hb6
  clear c5_0 d5_0 s5_0 c5_1 d5_1 s5_1 c5_2 d5_2 s5_2 c5_3 d5_3 s5_3 c5_4 d5_4 s5_4 p5_0 p5_1 p5_2 p5_3 p5_4
  have c6_0 := p6_0.1
  have d6_0 := p6_0.2.1
  have s6_0 := p6_0.2.2.2.2
  have c6_1 := p6_1.1
  have d6_1 := p6_1.2.1
  have s6_1 := p6_1.2.2.2.2
  have c6_2 := p6_2.1
  have d6_2 := p6_2.2.1
  have s6_2 := p6_2.2.2.2.2
  have c6_3 := p6_3.1
  have d6_3 := p6_3.2.1
  have s6_3 := p6_3.2.2.2.2
  have c6_4 := p6_4.1
  have d6_4 := p6_4.2.1
  have s6_4 := p6_4.2.2.2.2
  have c6_5 := p6_5.1
  have d6_5 := p6_5.2.1
  have s6_5 := p6_5.2.2.2.2
  go_wp2
  go_ret
  exact ⟨rfl, by (repeat' (first | exact Below.refl _ _ | refine bstep ?_ hb1 | refine bstep ?_ hb2 | refine bstep ?_ hb3 | refine bstep ?_ hb4 | refine bstep ?_ hb5 | refine bstep ?_ hb6 | refine Below.setCell ?_ (by simp <;> omega) _ | refine balloc ?_ _ | refine Below.drew ?_ | refine bdrewN ?_ _))⟩
theorem scales_walk (lo hi n : Int) (w : World) :
    Calls Try.prog 7 #[spv lo hi, .int .i64 n] w fun e w' => e = .returned (.bool true) ∧ Below w.heap.size w w' := by
  by_cases z : (scaleR lo hi n).2 = 0
  · rcases Int.lt_or_le n 1 with k | k
    · exact scales_n _ _ _ _ z k
    · exact scales_y _ _ _ _ z k
  · exact scales_e _ _ _ _ z

end Go.Proofs.Ythmlhpjhoolflaa
