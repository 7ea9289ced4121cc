/-
  The law SpanRoots: for every input it answers true.
-/
import Derived.Test.YthmlhpjhoolflaaKnown
import Derived.Test.YthmlhpjhoolflaaSquare
import Derived.Test.YthmlhpjhoolflaaRootRef
namespace Go.Proofs.Ythmlhpjhoolflaa
open Go.ChangeShapes Go.WideShapes Go.RowKit
theorem csq_ge (n : Nat) : n ≤ Rt.csq n * Rt.csq n := by
  have a := (Rt.isq_spec n)
  unfold Rt.csq
  split <;> omega
/-- the square of the roots encloses what was there -/
theorem roots_back {lo hi : Int} (h : (rootR lo hi).2 = 0) (k : (Sp.sqR (rootR lo hi).1.1 (rootR lo hi).1.2).2 = 0) : (Sp.sqR (rootR lo hi).1.1 (rootR lo hi).1.2).1.1 ≤ lo ∧ hi ≤ (Sp.sqR (rootR lo hi).1.1 (rootR lo hi).1.2).1.2 := by
  revert k
  revert h
  unfold rootR
  split
  · rename_i v
    have b := Sp.vld_iff.1 v.1
    unfold Sp.told
    split
    · rename_i u
      intro _
      have b2 := Sp.vld_iff.1 u
      dsimp only
      unfold Sp.sqR Sp.told
      rw [if_pos u]
      split
      · intro _
        have h1 := (Rt.isq_spec (lo.toNat * 1048576)).1
        have h2 := csq_ge (hi.toNat * 1048576)
        generalize Rt.isq (lo.toNat * 1048576) = p at *
        generalize Rt.csq (hi.toNat * 1048576) = q at *
        dsimp only
        have e1 : Sp.mx (Sp.mx 0 (p : Int)) (-(q : Int)) = (p : Int) := by rw [Sp.mx_eq, Sp.mx_eq]; omega
        have e2 : Sp.mx (-(p : Int)) (q : Int) = (q : Int) := by rw [Sp.mx_eq]; omega
        rw [e1, e2]
        have m1 := Sp.mulD_le p p
        have m2 := Sp.mulU_ge q q
        rw [← Int.natCast_mul] at m1 m2
        omega
      · intro k; exact absurd k (by decide)
    · intro h; exact absurd h (by decide)
  · intro h; exact absurd h (by decide)
theorem roots_e (lo hi : Int) (w : World) (n : (rootR lo hi).2 ≠ 0) :
    Calls Try.prog 8 #[spv lo hi] w fun e w' => e = .returned (.bool true) ∧ Below w.heap.size w w' := by
  have n1 : ((rootR lo hi).2 != 0) = true := bne_iff_ne.2 n
  clear n
  go_enter Try.func8, Try.ntmps8
  go_wp2_with fail
  refine (rt_any _ _ _).mono ?_
  rintro e w1 ⟨rfl, hb1⟩
  have p1_0 := pair_below (pair_new _ lo hi _) hb1
  have c1_0 := p1_0.1
  have d1_0 := p1_0.2.1
  have s1_0 := p1_0.2.2.2.2
  go_wp2_with fail
  refine (rrt_any _ _ _).mono ?_
  rintro e w2 ⟨rfl, hb2⟩
  have p2_0 := pair_below (pair_alloc p1_0 _) hb2
  have p2_1 := pair_below (pair_new _ (rootR lo hi).1.1 (rootR lo hi).1.2 _) hb2
  clear c1_0 d1_0 s1_0 p1_0
  have c2_0 := p2_0.1
  have d2_0 := p2_0.2.1
  have s2_0 := p2_0.2.2.2.2
  have c2_1 := p2_1.1
  have d2_1 := p2_1.2.1
  have s2_1 := p2_1.2.2.2.2
  go_wp2_with fail
  refine (sq_any _ _ _).mono ?_
  rintro e w3 ⟨rfl, hb3⟩
  have p3_0 := pair_below (pair_alloc p2_0 _) hb3
  have p3_1 := pair_below (pair_alloc p2_1 _) hb3
  have p3_2 := pair_below (pair_new _ (rootR lo hi).1.1 (rootR lo hi).1.2 _) hb3
  clear c2_0 d2_0 s2_0 c2_1 d2_1 s2_1 p2_0 p2_1
  have c3_0 := p3_0.1
  have d3_0 := p3_0.2.1
  have s3_0 := p3_0.2.2.2.2
  have c3_1 := p3_1.1
  have d3_1 := p3_1.2.1
  have s3_1 := p3_1.2.2.2.2
  have c3_2 := p3_2.1
  have d3_2 := p3_2.2.1
  have s3_2 := p3_2.2.2.2.2
  go_wp2_with fail
  refine (known_any _).mono ?_
  rintro e w4 ⟨rfl, hb4⟩
  have p4_0 := pair_below (pair_alloc p3_0 _) hb4
  have p4_1 := pair_below (pair_alloc p3_1 _) hb4
  have p4_2 := pair_below (pair_alloc p3_2 _) hb4
  have p4_3 := pair_below (pair_new _ (Sp.sqR (rootR lo hi).1.1 (rootR lo hi).1.2).1.1 (Sp.sqR (rootR lo hi).1.1 (rootR lo hi).1.2).1.2 _) hb4
  clear c3_0 d3_0 s3_0 c3_1 d3_1 s3_1 c3_2 d3_2 s3_2 p3_0 p3_1 p3_2
  have c4_0 := p4_0.1
  have d4_0 := p4_0.2.1
  have s4_0 := p4_0.2.2.2.2
  have c4_1 := p4_1.1
  have d4_1 := p4_1.2.1
  have s4_1 := p4_1.2.2.2.2
  have c4_2 := p4_2.1
  have d4_2 := p4_2.2.1
  have s4_2 := p4_2.2.2.2.2
  have c4_3 := p4_3.1
  have d4_3 := p4_3.2.1
  have s4_3 := p4_3.2.2.2.2
  go_wp2
  go_ret
  exact ⟨rfl, by (repeat' (first | exact Below.refl _ _ | refine bstep ?_ hb1 | refine bstep ?_ hb2 | refine bstep ?_ hb3 | refine bstep ?_ hb4 | refine Below.setCell ?_ (by simp <;> omega) _ | refine balloc ?_ _ | refine Below.drew ?_ | refine bdrewN ?_ _))⟩
theorem roots_b (lo hi : Int) (w : World) (z : (rootR lo hi).2 = 0) (n : (Sp.sqR (rootR lo hi).1.1 (rootR lo hi).1.2).2 ≠ 0) :
    Calls Try.prog 8 #[spv lo hi] w fun e w' => e = .returned (.bool true) ∧ Below w.heap.size w w' := by
  have z1 : ((rootR lo hi).2 != 0) = false := by rw [z]; rfl
  clear z
  have n := Lib.hid n
  go_enter Try.func8, Try.ntmps8
  go_wp2_with fail
  refine (rt_any _ _ _).mono ?_
  rintro e w1 ⟨rfl, hb1⟩
  have p1_0 := pair_below (pair_new _ lo hi _) hb1
  have c1_0 := p1_0.1
  have d1_0 := p1_0.2.1
  have s1_0 := p1_0.2.2.2.2
  go_wp2_with fail
  refine (rrt_any _ _ _).mono ?_
  rintro e w2 ⟨rfl, hb2⟩
  have p2_0 := pair_below (pair_alloc p1_0 _) hb2
  have p2_1 := pair_below (pair_new _ (rootR lo hi).1.1 (rootR lo hi).1.2 _) hb2
  clear c1_0 d1_0 s1_0 p1_0
  have c2_0 := p2_0.1
  have d2_0 := p2_0.2.1
  have s2_0 := p2_0.2.2.2.2
  have c2_1 := p2_1.1
  have d2_1 := p2_1.2.1
  have s2_1 := p2_1.2.2.2.2
  go_wp2_with fail
  refine (sq_any _ _ _).mono ?_
  rintro e w3 ⟨rfl, hb3⟩
  have p3_0 := pair_below (pair_alloc p2_0 _) hb3
  have p3_1 := pair_below (pair_alloc p2_1 _) hb3
  have p3_2 := pair_below (pair_new _ (rootR lo hi).1.1 (rootR lo hi).1.2 _) hb3
  clear c2_0 d2_0 s2_0 c2_1 d2_1 s2_1 p2_0 p2_1
  have c3_0 := p3_0.1
  have d3_0 := p3_0.2.1
  have s3_0 := p3_0.2.2.2.2
  have c3_1 := p3_1.1
  have d3_1 := p3_1.2.1
  have s3_1 := p3_1.2.2.2.2
  have c3_2 := p3_2.1
  have d3_2 := p3_2.2.1
  have s3_2 := p3_2.2.2.2.2
  go_wp2_with fail
  refine (encl_err _ _ _ _ _ _ n.out).mono ?_
  rintro e w4 ⟨rfl, hb4⟩
  have p4_0 := pair_below (pair_alloc p3_0 _) hb4
  have p4_1 := pair_below (pair_alloc p3_1 _) hb4
  have p4_2 := pair_below (pair_alloc p3_2 _) hb4
  have p4_3 := pair_below (pair_new _ (Sp.sqR (rootR lo hi).1.1 (rootR lo hi).1.2).1.1 (Sp.sqR (rootR lo hi).1.1 (rootR lo hi).1.2).1.2 _) hb4
  clear c3_0 d3_0 s3_0 c3_1 d3_1 s3_1 c3_2 d3_2 s3_2 p3_0 p3_1 p3_2
  have c4_0 := p4_0.1
  have d4_0 := p4_0.2.1
  have s4_0 := p4_0.2.2.2.2
  have c4_1 := p4_1.1
  have d4_1 := p4_1.2.1
  have s4_1 := p4_1.2.2.2.2
  have c4_2 := p4_2.1
  have d4_2 := p4_2.2.1
  have s4_2 := p4_2.2.2.2.2
  have c4_3 := p4_3.1
  have d4_3 := p4_3.2.1
  have s4_3 := p4_3.2.2.2.2
  go_wp2_with fail
  refine (known_any _).mono ?_
  rintro e w5 ⟨rfl, hb5⟩
  have p5_0 := pair_below p4_0 hb5
  have p5_1 := pair_below p4_1 hb5
  have p5_2 := pair_below p4_2 hb5
  have p5_3 := pair_below p4_3 hb5
  clear c4_0 d4_0 s4_0 c4_1 d4_1 s4_1 c4_2 d4_2 s4_2 c4_3 d4_3 s4_3 p4_0 p4_1 p4_2 p4_3
  have c5_0 := p5_0.1
  have d5_0 := p5_0.2.1
  have s5_0 := p5_0.2.2.2.2
  have c5_1 := p5_1.1
  have d5_1 := p5_1.2.1
  have s5_1 := p5_1.2.2.2.2
  have c5_2 := p5_2.1
  have d5_2 := p5_2.2.1
  have s5_2 := p5_2.2.2.2.2
  have c5_3 := p5_3.1
  have d5_3 := p5_3.2.1
  have s5_3 := p5_3.2.2.2.2
  go_wp2
  go_ret
  exact ⟨rfl, by (repeat' (first | exact Below.refl _ _ | refine bstep ?_ hb1 | refine bstep ?_ hb2 | refine bstep ?_ hb3 | refine bstep ?_ hb4 | refine bstep ?_ hb5 | refine Below.setCell ?_ (by simp <;> omega) _ | refine balloc ?_ _ | refine Below.drew ?_ | refine bdrewN ?_ _))⟩
theorem roots_c (lo hi : Int) (w : World) (z : (rootR lo hi).2 = 0) (m : (Sp.sqR (rootR lo hi).1.1 (rootR lo hi).1.2).2 = 0) :
    Calls Try.prog 8 #[spv lo hi] w fun e w' => e = .returned (.bool true) ∧ Below w.heap.size w w' := by
  have z1 : ((rootR lo hi).2 != 0) = false := by rw [z]; rfl
  have cc := roots_back z m
  clear z
  have C := fun w => encl_yes _ _ _ _ w cc.1 cc.2
  rw [← m] at C
  have C := Lib.hid C
  clear m cc
  go_enter Try.func8, Try.ntmps8
  go_wp2_with fail
  refine (rt_any _ _ _).mono ?_
  rintro e w1 ⟨rfl, hb1⟩
  have p1_0 := pair_below (pair_new _ lo hi _) hb1
  have c1_0 := p1_0.1
  have d1_0 := p1_0.2.1
  have s1_0 := p1_0.2.2.2.2
  go_wp2_with fail
  refine (rrt_any _ _ _).mono ?_
  rintro e w2 ⟨rfl, hb2⟩
  have p2_0 := pair_below (pair_alloc p1_0 _) hb2
  have p2_1 := pair_below (pair_new _ (rootR lo hi).1.1 (rootR lo hi).1.2 _) hb2
  clear c1_0 d1_0 s1_0 p1_0
  have c2_0 := p2_0.1
  have d2_0 := p2_0.2.1
  have s2_0 := p2_0.2.2.2.2
  have c2_1 := p2_1.1
  have d2_1 := p2_1.2.1
  have s2_1 := p2_1.2.2.2.2
  go_wp2_with fail
  refine (sq_any _ _ _).mono ?_
  rintro e w3 ⟨rfl, hb3⟩
  have p3_0 := pair_below (pair_alloc p2_0 _) hb3
  have p3_1 := pair_below (pair_alloc p2_1 _) hb3
  have p3_2 := pair_below (pair_new _ (rootR lo hi).1.1 (rootR lo hi).1.2 _) hb3
  clear c2_0 d2_0 s2_0 c2_1 d2_1 s2_1 p2_0 p2_1
  have c3_0 := p3_0.1
  have d3_0 := p3_0.2.1
  have s3_0 := p3_0.2.2.2.2
  have c3_1 := p3_1.1
  have d3_1 := p3_1.2.1
  have s3_1 := p3_1.2.2.2.2
  have c3_2 := p3_2.1
  have d3_2 := p3_2.2.1
  have s3_2 := p3_2.2.2.2.2
  go_wp2_with fail
  refine (C.out _).mono ?_
  rintro e w4 ⟨rfl, hb4⟩
  have p4_0 := pair_below (pair_alloc p3_0 _) hb4
  have p4_1 := pair_below (pair_alloc p3_1 _) hb4
  have p4_2 := pair_below (pair_alloc p3_2 _) hb4
  have p4_3 := pair_below (pair_new _ (Sp.sqR (rootR lo hi).1.1 (rootR lo hi).1.2).1.1 (Sp.sqR (rootR lo hi).1.1 (rootR lo hi).1.2).1.2 _) hb4
  clear c3_0 d3_0 s3_0 c3_1 d3_1 s3_1 c3_2 d3_2 s3_2 p3_0 p3_1 p3_2
  have c4_0 := p4_0.1
  have d4_0 := p4_0.2.1
  have s4_0 := p4_0.2.2.2.2
  have c4_1 := p4_1.1
  have d4_1 := p4_1.2.1
  have s4_1 := p4_1.2.2.2.2
  have c4_2 := p4_2.1
  have d4_2 := p4_2.2.1
  have s4_2 := p4_2.2.2.2.2
  have c4_3 := p4_3.1
  have d4_3 := p4_3.2.1
  have s4_3 := p4_3.2.2.2.2
  go_wp2_with fail
  refine (known_any _).mono ?_
  rintro e w5 ⟨rfl, hb5⟩
  have p5_0 := pair_below p4_0 hb5
  have p5_1 := pair_below p4_1 hb5
  have p5_2 := pair_below p4_2 hb5
  have p5_3 := pair_below p4_3 hb5
  clear c4_0 d4_0 s4_0 c4_1 d4_1 s4_1 c4_2 d4_2 s4_2 c4_3 d4_3 s4_3 p4_0 p4_1 p4_2 p4_3
  have c5_0 := p5_0.1
  have d5_0 := p5_0.2.1
  have s5_0 := p5_0.2.2.2.2
  have c5_1 := p5_1.1
  have d5_1 := p5_1.2.1
  have s5_1 := p5_1.2.2.2.2
  have c5_2 := p5_2.1
  have d5_2 := p5_2.2.1
  have s5_2 := p5_2.2.2.2.2
  have c5_3 := p5_3.1
  have d5_3 := p5_3.2.1
  have s5_3 := p5_3.2.2.2.2
  go_wp2
  go_ret
  exact ⟨rfl, by (repeat' (first | exact Below.refl _ _ | refine bstep ?_ hb1 | refine bstep ?_ hb2 | refine bstep ?_ hb3 | refine bstep ?_ hb4 | refine bstep ?_ hb5 | refine Below.setCell ?_ (by simp <;> omega) _ | refine balloc ?_ _ | refine Below.drew ?_ | refine bdrewN ?_ _))⟩
theorem roots_walk (lo hi : Int) (w : World) :
    Calls Try.prog 8 #[spv lo hi] w fun e w' => e = .returned (.bool true) ∧ Below w.heap.size w w' := by
  by_cases z : (rootR lo hi).2 = 0
  · by_cases m : (Sp.sqR (rootR lo hi).1.1 (rootR lo hi).1.2).2 = 0
    · exact roots_c _ _ _ z m
    · exact roots_b _ _ _ z m
  · exact roots_e _ _ _ z

end Go.Proofs.Ythmlhpjhoolflaa
