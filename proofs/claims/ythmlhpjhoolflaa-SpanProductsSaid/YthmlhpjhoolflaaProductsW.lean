/-
  The law SpanProducts: for every input it answers true.
-/
import Derived.Test.YthmlhpjhoolflaaKnown
import Derived.Test.YthmlhpjhoolflaaArith
import Derived.Test.YthmlhpjhoolflaaRmul
namespace Go.Proofs.Ythmlhpjhoolflaa
open Go.ChangeShapes Go.WideShapes Go.RowKit
/-- a square lies within the product with itself -/
theorem sq_in {al ah : Int} (h : (Sp.sqR al ah).2 = 0) (k : (Sp.mulR al ah al ah).2 = 0) : (Sp.mulR al ah al ah).1.1 ≤ (Sp.sqR al ah).1.1 ∧ (Sp.sqR al ah).1.2 ≤ (Sp.mulR al ah al ah).1.2 := by
  revert h k
  unfold Sp.sqR Sp.mulR
  split
  · rename_i v
    have b := (Sp.vld_iff.1 v).2.1
    rw [Sp.ite_yes v v]
    unfold Sp.told
    split <;> split
    · intro _ _
      have l4 := Sp.mn4_le (Sp.mulD al al) (Sp.mulD al ah) (Sp.mulD ah al) (Sp.mulD ah ah)
      have g4 := Sp.mx4_ge (Sp.mulU al al) (Sp.mulU al ah) (Sp.mulU ah al) (Sp.mulU ah ah)
      have e := Sp.sq_hi b
      rw [← e]
      refine ⟨?_, by have e2 := Sp.mx_eq (Sp.mulU al al) (Sp.mulU ah ah); dsimp only; omega⟩
      dsimp only
      rcases Int.lt_or_le 0 al with c | c
      · rw [← Sp.sq_lo1 b c, Sp.mn_eq]; omega
      rcases Int.lt_or_le ah 0 with c2 | c2
      · rw [← Sp.sq_lo2 b c2, Sp.mn_eq]; omega
      · rw [← Sp.sq_lo3 c c2]
        have z : Sp.mulD al ah ≤ 0 := by
          have := Sp.mulD_le al ah
          have : al * ah ≤ 0 := Int.mul_nonpos_of_nonpos_of_nonneg c c2
          omega
        omega
    · intro _ k; exact absurd k (by decide)
    · intro h; exact absurd h (by decide)
    · intro h; exact absurd h (by decide)
  · intro h; exact absurd h (by decide)
theorem products_e (al ah bl bh : Int) (w : World) (n : (Sp.sqR al ah).2 ≠ 0) :
    Calls Try.prog 5 #[spv al ah, spv bl bh] w fun e w' => e = .returned (.bool true) ∧ Below w.heap.size w w' := by
  have n1 : ((Sp.sqR al ah).2 != 0) = true := bne_iff_ne.2 n
  clear n
  go_enter Try.func5, Try.ntmps5
  go_wp2_with fail
  refine (mul_any _ _ _ _ _).mono ?_
  rintro e w1 ⟨rfl, hb1⟩
  have p1_0 := pair_below (pair_alloc (pair_new _ al ah _) _) hb1
  have p1_1 := pair_below (pair_new _ bl bh _) hb1
  simp only [World.size_alloc] at p1_1
  have c1_0 := p1_0.1
  have d1_0 := p1_0.2.1
  have s1_0 := p1_0.2.2.2.2
  have c1_1 := p1_1.1
  have d1_1 := p1_1.2.1
  have s1_1 := p1_1.2.2.2.2
  go_wp2_with fail
  refine (rmul_any _ _ _ _ _).mono ?_
  rintro e w2 ⟨rfl, hb2⟩
  have p2_0 := pair_below (pair_alloc p1_0 _) hb2
  have p2_1 := pair_below (pair_alloc p1_1 _) hb2
  have p2_2 := pair_below (pair_new _ (Sp.mulR al ah bl bh).1.1 (Sp.mulR al ah bl bh).1.2 _) hb2
  clear c1_0 d1_0 s1_0 c1_1 d1_1 s1_1 p1_0 p1_1
  have c2_0 := p2_0.1
  have d2_0 := p2_0.2.1
  have s2_0 := p2_0.2.2.2.2
  have c2_1 := p2_1.1
  have d2_1 := p2_1.2.1
  have s2_1 := p2_1.2.2.2.2
  have c2_2 := p2_2.1
  have d2_2 := p2_2.2.1
  have s2_2 := p2_2.2.2.2.2
  go_wp2_with fail
  refine (sq_any _ _ _).mono ?_
  rintro e w3 ⟨rfl, hb3⟩
  have p3_0 := pair_below (pair_alloc p2_0 _) hb3
  have p3_1 := pair_below (pair_alloc p2_1 _) hb3
  have p3_2 := pair_below (pair_alloc p2_2 _) hb3
  have p3_3 := pair_below (pair_new _ (Sp.mulR al ah bl bh).1.1 (Sp.mulR al ah bl bh).1.2 _) hb3
  clear c2_0 d2_0 s2_0 c2_1 d2_1 s2_1 c2_2 d2_2 s2_2 p2_0 p2_1 p2_2
  have c3_0 := p3_0.1
  have d3_0 := p3_0.2.1
  have s3_0 := p3_0.2.2.2.2
  have c3_1 := p3_1.1
  have d3_1 := p3_1.2.1
  have s3_1 := p3_1.2.2.2.2
  have c3_2 := p3_2.1
  have d3_2 := p3_2.2.1
  have s3_2 := p3_2.2.2.2.2
  have c3_3 := p3_3.1
  have d3_3 := p3_3.2.1
  have s3_3 := p3_3.2.2.2.2
  go_wp2_with fail
  refine (rsq_any _ _ _).mono ?_
  rintro e w4 ⟨rfl, hb4⟩
  have p4_0 := pair_below (pair_alloc p3_0 _) hb4
  have p4_1 := pair_below (pair_alloc p3_1 _) hb4
  have p4_2 := pair_below (pair_alloc p3_2 _) hb4
  have p4_3 := pair_below (pair_alloc p3_3 _) hb4
  have p4_4 := pair_below (pair_new _ (Sp.sqR al ah).1.1 (Sp.sqR al ah).1.2 _) hb4
  clear c3_0 d3_0 s3_0 c3_1 d3_1 s3_1 c3_2 d3_2 s3_2 c3_3 d3_3 s3_3 p3_0 p3_1 p3_2 p3_3
  have c4_0 := p4_0.1
  have d4_0 := p4_0.2.1
  have s4_0 := p4_0.2.2.2.2
  have c4_1 := p4_1.1
  have d4_1 := p4_1.2.1
  have s4_1 := p4_1.2.2.2.2
  have c4_2 := p4_2.1
  have d4_2 := p4_2.2.1
  have s4_2 := p4_2.2.2.2.2
  have c4_3 := p4_3.1
  have d4_3 := p4_3.2.1
  have s4_3 := p4_3.2.2.2.2
  have c4_4 := p4_4.1
  have d4_4 := p4_4.2.1
  have s4_4 := p4_4.2.2.2.2
  go_wp2_with fail
  refine (mul_any _ _ _ _ _).mono ?_
  rintro e w5 ⟨rfl, hb5⟩
  have p5_0 := pair_below (pair_alloc p4_0 _) hb5
  have p5_1 := pair_below (pair_alloc p4_1 _) hb5
  have p5_2 := pair_below (pair_alloc p4_2 _) hb5
  have p5_3 := pair_below (pair_alloc p4_3 _) hb5
  have p5_4 := pair_below (pair_alloc p4_4 _) hb5
  have p5_5 := pair_below (pair_new _ (Sp.sqR al ah).1.1 (Sp.sqR al ah).1.2 _) hb5
  clear c4_0 d4_0 s4_0 c4_1 d4_1 s4_1 c4_2 d4_2 s4_2 c4_3 d4_3 s4_3 c4_4 d4_4 s4_4 p4_0 p4_1 p4_2 p4_3 p4_4
  have c5_0 := p5_0.1
  have d5_0 := p5_0.2.1
  have s5_0 := p5_0.2.2.2.2
  have c5_1 := p5_1.1
  have d5_1 := p5_1.2.1
  have s5_1 := p5_1.2.2.2.2
  have c5_2 := p5_2.1
  have d5_2 := p5_2.2.1
  have s5_2 := p5_2.2.2.2.2
  have c5_3 := p5_3.1
  have d5_3 := p5_3.2.1
  have s5_3 := p5_3.2.2.2.2
  have c5_4 := p5_4.1
  have d5_4 := p5_4.2.1
  have s5_4 := p5_4.2.2.2.2
  have c5_5 := p5_5.1
  have d5_5 := p5_5.2.1
  have s5_5 := p5_5.2.2.2.2
  go_wp2_with fail
  refine (known_any _).mono ?_
  rintro e w6 ⟨rfl, hb6⟩
  have p6_0 := pair_below (pair_alloc p5_0 _) hb6
  have p6_1 := pair_below (pair_alloc p5_1 _) hb6
  have p6_2 := pair_below (pair_alloc p5_2 _) hb6
  have p6_3 := pair_below (pair_alloc p5_3 _) hb6
  have p6_4 := pair_below (pair_alloc p5_4 _) hb6
  have p6_5 := pair_below (pair_alloc p5_5 _) hb6
  have p6_6 := pair_below (pair_new _ (Sp.mulR al ah al ah).1.1 (Sp.mulR al ah al ah).1.2 _) hb6
  clear c5_0 d5_0 s5_0 c5_1 d5_1 s5_1 c5_2 d5_2 s5_2 c5_3 d5_3 s5_3 c5_4 d5_4 s5_4 c5_5 d5_5 s5_5 p5_0 p5_1 p5_2 p5_3 p5_4 p5_5
  have c6_0 := p6_0.1
  have d6_0 := p6_0.2.1
  have s6_0 := p6_0.2.2.2.2
  have c6_1 := p6_1.1
  have d6_1 := p6_1.2.1
  have s6_1 := p6_1.2.2.2.2
  have c6_2 := p6_2.1
  have d6_2 := p6_2.2.1
  have s6_2 := p6_2.2.2.2.2
  have c6_3 := p6_3.1
  have d6_3 := p6_3.2.1
  have s6_3 := p6_3.2.2.2.2
  have c6_4 := p6_4.1
  have d6_4 := p6_4.2.1
  have s6_4 := p6_4.2.2.2.2
  have c6_5 := p6_5.1
  have d6_5 := p6_5.2.1
  have s6_5 := p6_5.2.2.2.2
  have c6_6 := p6_6.1
  have d6_6 := p6_6.2.1
  have s6_6 := p6_6.2.2.2.2
  go_wp2
  go_ret
  exact ⟨rfl, by (repeat' (first | exact Below.refl _ _ | refine bstep ?_ hb1 | refine bstep ?_ hb2 | refine bstep ?_ hb3 | refine bstep ?_ hb4 | refine bstep ?_ hb5 | refine bstep ?_ hb6 | refine Below.setCell ?_ (by simp <;> omega) _ | refine balloc ?_ _ | refine Below.drew ?_ | refine bdrewN ?_ _))⟩
theorem products_b (al ah bl bh : Int) (w : World) (z : (Sp.sqR al ah).2 = 0) (n : (Sp.mulR al ah al ah).2 ≠ 0) :
    Calls Try.prog 5 #[spv al ah, spv bl bh] w fun e w' => e = .returned (.bool true) ∧ Below w.heap.size w w' := by
  have z1 : ((Sp.sqR al ah).2 != 0) = false := by rw [z]; rfl
  clear z
  have n := Lib.hid n
  go_enter Try.func5, Try.ntmps5
  go_wp2_with fail
  refine (mul_any _ _ _ _ _).mono ?_
  rintro e w1 ⟨rfl, hb1⟩
  have p1_0 := pair_below (pair_alloc (pair_new _ al ah _) _) hb1
  have p1_1 := pair_below (pair_new _ bl bh _) hb1
  simp only [World.size_alloc] at p1_1
  have c1_0 := p1_0.1
  have d1_0 := p1_0.2.1
  have s1_0 := p1_0.2.2.2.2
  have c1_1 := p1_1.1
  have d1_1 := p1_1.2.1
  have s1_1 := p1_1.2.2.2.2
  go_wp2_with fail
  refine (rmul_any _ _ _ _ _).mono ?_
  rintro e w2 ⟨rfl, hb2⟩
  have p2_0 := pair_below (pair_alloc p1_0 _) hb2
  have p2_1 := pair_below (pair_alloc p1_1 _) hb2
  have p2_2 := pair_below (pair_new _ (Sp.mulR al ah bl bh).1.1 (Sp.mulR al ah bl bh).1.2 _) hb2
  clear c1_0 d1_0 s1_0 c1_1 d1_1 s1_1 p1_0 p1_1
  have c2_0 := p2_0.1
  have d2_0 := p2_0.2.1
  have s2_0 := p2_0.2.2.2.2
  have c2_1 := p2_1.1
  have d2_1 := p2_1.2.1
  have s2_1 := p2_1.2.2.2.2
  have c2_2 := p2_2.1
  have d2_2 := p2_2.2.1
  have s2_2 := p2_2.2.2.2.2
  go_wp2_with fail
  refine (sq_any _ _ _).mono ?_
  rintro e w3 ⟨rfl, hb3⟩
  have p3_0 := pair_below (pair_alloc p2_0 _) hb3
  have p3_1 := pair_below (pair_alloc p2_1 _) hb3
  have p3_2 := pair_below (pair_alloc p2_2 _) hb3
  have p3_3 := pair_below (pair_new _ (Sp.mulR al ah bl bh).1.1 (Sp.mulR al ah bl bh).1.2 _) hb3
  clear c2_0 d2_0 s2_0 c2_1 d2_1 s2_1 c2_2 d2_2 s2_2 p2_0 p2_1 p2_2
  have c3_0 := p3_0.1
  have d3_0 := p3_0.2.1
  have s3_0 := p3_0.2.2.2.2
  have c3_1 := p3_1.1
  have d3_1 := p3_1.2.1
  have s3_1 := p3_1.2.2.2.2
  have c3_2 := p3_2.1
  have d3_2 := p3_2.2.1
  have s3_2 := p3_2.2.2.2.2
  have c3_3 := p3_3.1
  have d3_3 := p3_3.2.1
  have s3_3 := p3_3.2.2.2.2
  go_wp2_with fail
  refine (rsq_any _ _ _).mono ?_
  rintro e w4 ⟨rfl, hb4⟩
  have p4_0 := pair_below (pair_alloc p3_0 _) hb4
  have p4_1 := pair_below (pair_alloc p3_1 _) hb4
  have p4_2 := pair_below (pair_alloc p3_2 _) hb4
  have p4_3 := pair_below (pair_alloc p3_3 _) hb4
  have p4_4 := pair_below (pair_new _ (Sp.sqR al ah).1.1 (Sp.sqR al ah).1.2 _) hb4
  clear c3_0 d3_0 s3_0 c3_1 d3_1 s3_1 c3_2 d3_2 s3_2 c3_3 d3_3 s3_3 p3_0 p3_1 p3_2 p3_3
  have c4_0 := p4_0.1
  have d4_0 := p4_0.2.1
  have s4_0 := p4_0.2.2.2.2
  have c4_1 := p4_1.1
  have d4_1 := p4_1.2.1
  have s4_1 := p4_1.2.2.2.2
  have c4_2 := p4_2.1
  have d4_2 := p4_2.2.1
  have s4_2 := p4_2.2.2.2.2
  have c4_3 := p4_3.1
  have d4_3 := p4_3.2.1
  have s4_3 := p4_3.2.2.2.2
  have c4_4 := p4_4.1
  have d4_4 := p4_4.2.1
  have s4_4 := p4_4.2.2.2.2
  go_wp2_with fail
  refine (mul_any _ _ _ _ _).mono ?_
  rintro e w5 ⟨rfl, hb5⟩
  have p5_0 := pair_below (pair_alloc p4_0 _) hb5
  have p5_1 := pair_below (pair_alloc p4_1 _) hb5
  have p5_2 := pair_below (pair_alloc p4_2 _) hb5
  have p5_3 := pair_below (pair_alloc p4_3 _) hb5
  have p5_4 := pair_below (pair_alloc p4_4 _) hb5
  have p5_5 := pair_below (pair_new _ (Sp.sqR al ah).1.1 (Sp.sqR al ah).1.2 _) hb5
  clear c4_0 d4_0 s4_0 c4_1 d4_1 s4_1 c4_2 d4_2 s4_2 c4_3 d4_3 s4_3 c4_4 d4_4 s4_4 p4_0 p4_1 p4_2 p4_3 p4_4
  have c5_0 := p5_0.1
  have d5_0 := p5_0.2.1
  have s5_0 := p5_0.2.2.2.2
  have c5_1 := p5_1.1
  have d5_1 := p5_1.2.1
  have s5_1 := p5_1.2.2.2.2
  have c5_2 := p5_2.1
  have d5_2 := p5_2.2.1
  have s5_2 := p5_2.2.2.2.2
  have c5_3 := p5_3.1
  have d5_3 := p5_3.2.1
  have s5_3 := p5_3.2.2.2.2
  have c5_4 := p5_4.1
  have d5_4 := p5_4.2.1
  have s5_4 := p5_4.2.2.2.2
  have c5_5 := p5_5.1
  have d5_5 := p5_5.2.1
  have s5_5 := p5_5.2.2.2.2
  go_wp2_with fail
  refine (encl_err _ _ _ _ _ _ n.out).mono ?_
  rintro e w6 ⟨rfl, hb6⟩
  have p6_0 := pair_below (pair_alloc p5_0 _) hb6
  have p6_1 := pair_below (pair_alloc p5_1 _) hb6
  have p6_2 := pair_below (pair_alloc p5_2 _) hb6
  have p6_3 := pair_below (pair_alloc p5_3 _) hb6
  have p6_4 := pair_below (pair_alloc p5_4 _) hb6
  have p6_5 := pair_below (pair_alloc p5_5 _) hb6
  have p6_6 := pair_below (pair_new _ (Sp.mulR al ah al ah).1.1 (Sp.mulR al ah al ah).1.2 _) hb6
  clear c5_0 d5_0 s5_0 c5_1 d5_1 s5_1 c5_2 d5_2 s5_2 c5_3 d5_3 s5_3 c5_4 d5_4 s5_4 c5_5 d5_5 s5_5 p5_0 p5_1 p5_2 p5_3 p5_4 p5_5
  have c6_0 := p6_0.1
  have d6_0 := p6_0.2.1
  have s6_0 := p6_0.2.2.2.2
  have c6_1 := p6_1.1
  have d6_1 := p6_1.2.1
  have s6_1 := p6_1.2.2.2.2
  have c6_2 := p6_2.1
  have d6_2 := p6_2.2.1
  have s6_2 := p6_2.2.2.2.2
  have c6_3 := p6_3.1
  have d6_3 := p6_3.2.1
  have s6_3 := p6_3.2.2.2.2
  have c6_4 := p6_4.1
  have d6_4 := p6_4.2.1
  have s6_4 := p6_4.2.2.2.2
  have c6_5 := p6_5.1
  have d6_5 := p6_5.2.1
  have s6_5 := p6_5.2.2.2.2
  have c6_6 := p6_6.1
  have d6_6 := p6_6.2.1
  have s6_6 := p6_6.2.2.2.2
  go_wp2_with fail
  refine (known_any _).mono ?_
  rintro e w7 ⟨rfl, hb7⟩
  have p7_0 := pair_below p6_0 hb7
  have p7_1 := pair_below p6_1 hb7
  have p7_2 := pair_below p6_2 hb7
  have p7_3 := pair_below p6_3 hb7
  have p7_4 := pair_below p6_4 hb7
  have p7_5 := pair_below p6_5 hb7
  have p7_6 := pair_below p6_6 hb7
  clear c6_0 d6_0 s6_0 c6_1 d6_1 s6_1 c6_2 d6_2 s6_2 c6_3 d6_3 s6_3 c6_4 d6_4 s6_4 c6_5 d6_5 s6_5 c6_6 d6_6 s6_6 p6_0 p6_1 p6_2 p6_3 p6_4 p6_5 p6_6
  have c7_0 := p7_0.1
  have d7_0 := p7_0.2.1
  have s7_0 := p7_0.2.2.2.2
  have c7_1 := p7_1.1
  have d7_1 := p7_1.2.1
  have s7_1 := p7_1.2.2.2.2
  have c7_2 := p7_2.1
  have d7_2 := p7_2.2.1
  have s7_2 := p7_2.2.2.2.2
  have c7_3 := p7_3.1
  have d7_3 := p7_3.2.1
  have s7_3 := p7_3.2.2.2.2
  have c7_4 := p7_4.1
  have d7_4 := p7_4.2.1
  have s7_4 := p7_4.2.2.2.2
  have c7_5 := p7_5.1
  have d7_5 := p7_5.2.1
  have s7_5 := p7_5.2.2.2.2
  have c7_6 := p7_6.1
  have d7_6 := p7_6.2.1
  have s7_6 := p7_6.2.2.2.2
  go_wp2
  go_ret
  exact ⟨rfl, by (repeat' (first | exact Below.refl _ _ | refine bstep ?_ hb1 | refine bstep ?_ hb2 | refine bstep ?_ hb3 | refine bstep ?_ hb4 | refine bstep ?_ hb5 | refine bstep ?_ hb6 | refine bstep ?_ hb7 | refine Below.setCell ?_ (by simp <;> omega) _ | refine balloc ?_ _ | refine Below.drew ?_ | refine bdrewN ?_ _))⟩
theorem products_c (al ah bl bh : Int) (w : World) (z : (Sp.sqR al ah).2 = 0) (m : (Sp.mulR al ah al ah).2 = 0) :
    Calls Try.prog 5 #[spv al ah, spv bl bh] w fun e w' => e = .returned (.bool true) ∧ Below w.heap.size w w' := by
  have z1 : ((Sp.sqR al ah).2 != 0) = false := by rw [z]; rfl
  have cc := sq_in z m
  clear z
  have C := fun w => encl_yes _ _ _ _ w cc.1 cc.2
  rw [← m] at C
  have C := Lib.hid C
  clear m cc
  go_enter Try.func5, Try.ntmps5
  go_wp2_with fail
  refine (mul_any _ _ _ _ _).mono ?_
  rintro e w1 ⟨rfl, hb1⟩
  have p1_0 := pair_below (pair_alloc (pair_new _ al ah _) _) hb1
  have p1_1 := pair_below (pair_new _ bl bh _) hb1
  simp only [World.size_alloc] at p1_1
  have c1_0 := p1_0.1
  have d1_0 := p1_0.2.1
  have s1_0 := p1_0.2.2.2.2
  have c1_1 := p1_1.1
  have d1_1 := p1_1.2.1
  have s1_1 := p1_1.2.2.2.2
  go_wp2_with fail
  refine (rmul_any _ _ _ _ _).mono ?_
  rintro e w2 ⟨rfl, hb2⟩
  have p2_0 := pair_below (pair_alloc p1_0 _) hb2
  have p2_1 := pair_below (pair_alloc p1_1 _) hb2
  have p2_2 := pair_below (pair_new _ (Sp.mulR al ah bl bh).1.1 (Sp.mulR al ah bl bh).1.2 _) hb2
  clear c1_0 d1_0 s1_0 c1_1 d1_1 s1_1 p1_0 p1_1
  have c2_0 := p2_0.1
  have d2_0 := p2_0.2.1
  have s2_0 := p2_0.2.2.2.2
  have c2_1 := p2_1.1
  have d2_1 := p2_1.2.1
  have s2_1 := p2_1.2.2.2.2
  have c2_2 := p2_2.1
  have d2_2 := p2_2.2.1
  have s2_2 := p2_2.2.2.2.2
  go_wp2_with fail
  refine (sq_any _ _ _).mono ?_
  rintro e w3 ⟨rfl, hb3⟩
  have p3_0 := pair_below (pair_alloc p2_0 _) hb3
  have p3_1 := pair_below (pair_alloc p2_1 _) hb3
  have p3_2 := pair_below (pair_alloc p2_2 _) hb3
  have p3_3 := pair_below (pair_new _ (Sp.mulR al ah bl bh).1.1 (Sp.mulR al ah bl bh).1.2 _) hb3
  clear c2_0 d2_0 s2_0 c2_1 d2_1 s2_1 c2_2 d2_2 s2_2 p2_0 p2_1 p2_2
  have c3_0 := p3_0.1
  have d3_0 := p3_0.2.1
  have s3_0 := p3_0.2.2.2.2
  have c3_1 := p3_1.1
  have d3_1 := p3_1.2.1
  have s3_1 := p3_1.2.2.2.2
  have c3_2 := p3_2.1
  have d3_2 := p3_2.2.1
  have s3_2 := p3_2.2.2.2.2
  have c3_3 := p3_3.1
  have d3_3 := p3_3.2.1
  have s3_3 := p3_3.2.2.2.2
  go_wp2_with fail
  refine (rsq_any _ _ _).mono ?_
  rintro e w4 ⟨rfl, hb4⟩
  have p4_0 := pair_below (pair_alloc p3_0 _) hb4
  have p4_1 := pair_below (pair_alloc p3_1 _) hb4
  have p4_2 := pair_below (pair_alloc p3_2 _) hb4
  have p4_3 := pair_below (pair_alloc p3_3 _) hb4
  have p4_4 := pair_below (pair_new _ (Sp.sqR al ah).1.1 (Sp.sqR al ah).1.2 _) hb4
  clear c3_0 d3_0 s3_0 c3_1 d3_1 s3_1 c3_2 d3_2 s3_2 c3_3 d3_3 s3_3 p3_0 p3_1 p3_2 p3_3
  have c4_0 := p4_0.1
  have d4_0 := p4_0.2.1
  have s4_0 := p4_0.2.2.2.2
  have c4_1 := p4_1.1
  have d4_1 := p4_1.2.1
  have s4_1 := p4_1.2.2.2.2
  have c4_2 := p4_2.1
  have d4_2 := p4_2.2.1
  have s4_2 := p4_2.2.2.2.2
  have c4_3 := p4_3.1
  have d4_3 := p4_3.2.1
  have s4_3 := p4_3.2.2.2.2
  have c4_4 := p4_4.1
  have d4_4 := p4_4.2.1
  have s4_4 := p4_4.2.2.2.2
  go_wp2_with fail
  refine (mul_any _ _ _ _ _).mono ?_
  rintro e w5 ⟨rfl, hb5⟩
  have p5_0 := pair_below (pair_alloc p4_0 _) hb5
  have p5_1 := pair_below (pair_alloc p4_1 _) hb5
  have p5_2 := pair_below (pair_alloc p4_2 _) hb5
  have p5_3 := pair_below (pair_alloc p4_3 _) hb5
  have p5_4 := pair_below (pair_alloc p4_4 _) hb5
  have p5_5 := pair_below (pair_new _ (Sp.sqR al ah).1.1 (Sp.sqR al ah).1.2 _) hb5
  clear c4_0 d4_0 s4_0 c4_1 d4_1 s4_1 c4_2 d4_2 s4_2 c4_3 d4_3 s4_3 c4_4 d4_4 s4_4 p4_0 p4_1 p4_2 p4_3 p4_4
  have c5_0 := p5_0.1
  have d5_0 := p5_0.2.1
  have s5_0 := p5_0.2.2.2.2
  have c5_1 := p5_1.1
  have d5_1 := p5_1.2.1
  have s5_1 := p5_1.2.2.2.2
  have c5_2 := p5_2.1
  have d5_2 := p5_2.2.1
  have s5_2 := p5_2.2.2.2.2
  have c5_3 := p5_3.1
  have d5_3 := p5_3.2.1
  have s5_3 := p5_3.2.2.2.2
  have c5_4 := p5_4.1
  have d5_4 := p5_4.2.1
  have s5_4 := p5_4.2.2.2.2
  have c5_5 := p5_5.1
  have d5_5 := p5_5.2.1
  have s5_5 := p5_5.2.2.2.2
  go_wp2_with fail
  refine (C.out _).mono ?_
  rintro e w6 ⟨rfl, hb6⟩
  have p6_0 := pair_below (pair_alloc p5_0 _) hb6
  have p6_1 := pair_below (pair_alloc p5_1 _) hb6
  have p6_2 := pair_below (pair_alloc p5_2 _) hb6
  have p6_3 := pair_below (pair_alloc p5_3 _) hb6
  have p6_4 := pair_below (pair_alloc p5_4 _) hb6
  have p6_5 := pair_below (pair_alloc p5_5 _) hb6
  have p6_6 := pair_below (pair_new _ (Sp.mulR al ah al ah).1.1 (Sp.mulR al ah al ah).1.2 _) hb6
  clear c5_0 d5_0 s5_0 c5_1 d5_1 s5_1 c5_2 d5_2 s5_2 c5_3 d5_3 s5_3 c5_4 d5_4 s5_4 c5_5 d5_5 s5_5 p5_0 p5_1 p5_2 p5_3 p5_4 p5_5
  have c6_0 := p6_0.1
  have d6_0 := p6_0.2.1
  have s6_0 := p6_0.2.2.2.2
  have c6_1 := p6_1.1
  have d6_1 := p6_1.2.1
  have s6_1 := p6_1.2.2.2.2
  have c6_2 := p6_2.1
  have d6_2 := p6_2.2.1
  have s6_2 := p6_2.2.2.2.2
  have c6_3 := p6_3.1
  have d6_3 := p6_3.2.1
  have s6_3 := p6_3.2.2.2.2
  have c6_4 := p6_4.1
  have d6_4 := p6_4.2.1
  have s6_4 := p6_4.2.2.2.2
  have c6_5 := p6_5.1
  have d6_5 := p6_5.2.1
  have s6_5 := p6_5.2.2.2.2
  have c6_6 := p6_6.1
  have d6_6 := p6_6.2.1
  have s6_6 := p6_6.2.2.2.2
  go_wp2_with fail
  refine (known_any _).mono ?_
  rintro e w7 ⟨rfl, hb7⟩
  have p7_0 := pair_below p6_0 hb7
  have p7_1 := pair_below p6_1 hb7
  have p7_2 := pair_below p6_2 hb7
  have p7_3 := pair_below p6_3 hb7
  have p7_4 := pair_below p6_4 hb7
  have p7_5 := pair_below p6_5 hb7
  have p7_6 := pair_below p6_6 hb7
  clear c6_0 d6_0 s6_0 c6_1 d6_1 s6_1 c6_2 d6_2 s6_2 c6_3 d6_3 s6_3 c6_4 d6_4 s6_4 c6_5 d6_5 s6_5 c6_6 d6_6 s6_6 p6_0 p6_1 p6_2 p6_3 p6_4 p6_5 p6_6
  have c7_0 := p7_0.1
  have d7_0 := p7_0.2.1
  have s7_0 := p7_0.2.2.2.2
  have c7_1 := p7_1.1
  have d7_1 := p7_1.2.1
  have s7_1 := p7_1.2.2.2.2
  have c7_2 := p7_2.1
  have d7_2 := p7_2.2.1
  have s7_2 := p7_2.2.2.2.2
  have c7_3 := p7_3.1
  have d7_3 := p7_3.2.1
  have s7_3 := p7_3.2.2.2.2
  have c7_4 := p7_4.1
  have d7_4 := p7_4.2.1
  have s7_4 := p7_4.2.2.2.2
  have c7_5 := p7_5.1
  have d7_5 := p7_5.2.1
  have s7_5 := p7_5.2.2.2.2
  have c7_6 := p7_6.1
  have d7_6 := p7_6.2.1
  have s7_6 := p7_6.2.2.2.2
  go_wp2
  go_ret
  exact ⟨rfl, by (repeat' (first | exact Below.refl _ _ | refine bstep ?_ hb1 | refine bstep ?_ hb2 | refine bstep ?_ hb3 | refine bstep ?_ hb4 | refine bstep ?_ hb5 | refine bstep ?_ hb6 | refine bstep ?_ hb7 | refine Below.setCell ?_ (by simp <;> omega) _ | refine balloc ?_ _ | refine Below.drew ?_ | refine bdrewN ?_ _))⟩
theorem products_walk (al ah bl bh : Int) (w : World) :
    Calls Try.prog 5 #[spv al ah, spv bl bh] w fun e w' => e = .returned (.bool true) ∧ Below w.heap.size w w' := by
  by_cases z : (Sp.sqR al ah).2 = 0
  · by_cases m : (Sp.mulR al ah al ah).2 = 0
    · exact products_c _ _ _ _ _ z m
    · exact products_b _ _ _ _ _ z m
  · exact products_e _ _ _ _ _ z

end Go.Proofs.Ythmlhpjhoolflaa
