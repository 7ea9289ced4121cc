/-
  The law SpanDivides: for every input it answers true.
-/
import Derived.Test.YthmlhpjhoolflaaKnown
import Derived.Test.YthmlhpjhoolflaaArith
import Derived.Test.YthmlhpjhoolflaaRdivn
namespace Go.Proofs.Ythmlhpjhoolflaa
open Go.ChangeShapes Go.WideShapes Go.RowKit
theorem divides_e (al ah bl bh : Int) (w : World) (n : (Sp.mulR al ah bl bh).2 ≠ 0) :
    Calls Try.prog 6 #[spv al ah, spv bl bh] w fun e w' => e = .returned (.bool true) ∧ Below w.heap.size w w' := by
  have n1 : ((Sp.mulR al ah bl bh).2 != 0) = true := bne_iff_ne.2 n
  clear n
  go_enter Try.func6, Try.ntmps6
  go_wp2_with fail
  refine (div_any _ _ _ _ _).mono ?_
  rintro e w1 ⟨rfl, hb1⟩
  have p1_0 := pair_below (pair_alloc (pair_new _ al ah _) _) hb1
  have p1_1 := pair_below (pair_new _ bl bh _) hb1
  simp only [World.size_alloc] at p1_1
  have c1_0 := p1_0.1
  have d1_0 := p1_0.2.1
  have s1_0 := p1_0.2.2.2.2
  have c1_1 := p1_1.1
  have d1_1 := p1_1.2.1
  have s1_1 := p1_1.2.2.2.2
  go_wp2_with fail
  refine (rdiv_any _ _ _ _ _).mono ?_
  rintro e w2 ⟨rfl, hb2⟩
  have p2_0 := pair_below (pair_alloc p1_0 _) hb2
  have p2_1 := pair_below (pair_alloc p1_1 _) hb2
  have p2_2 := pair_below (pair_new _ (Sp.divR al ah bl bh).1.1 (Sp.divR al ah bl bh).1.2 _) hb2
  clear c1_0 d1_0 s1_0 c1_1 d1_1 s1_1 p1_0 p1_1
  have c2_0 := p2_0.1
  have d2_0 := p2_0.2.1
  have s2_0 := p2_0.2.2.2.2
  have c2_1 := p2_1.1
  have d2_1 := p2_1.2.1
  have s2_1 := p2_1.2.2.2.2
  have c2_2 := p2_2.1
  have d2_2 := p2_2.2.1
  have s2_2 := p2_2.2.2.2.2
  go_wp2_with fail
  refine (mul_any _ _ _ _ _).mono ?_
  rintro e w3 ⟨rfl, hb3⟩
  have p3_0 := pair_below (pair_alloc p2_0 _) hb3
  have p3_1 := pair_below (pair_alloc p2_1 _) hb3
  have p3_2 := pair_below (pair_alloc p2_2 _) hb3
  have p3_3 := pair_below (pair_new _ (Sp.divR al ah bl bh).1.1 (Sp.divR al ah bl bh).1.2 _) hb3
  clear c2_0 d2_0 s2_0 c2_1 d2_1 s2_1 c2_2 d2_2 s2_2 p2_0 p2_1 p2_2
  have c3_0 := p3_0.1
  have d3_0 := p3_0.2.1
  have s3_0 := p3_0.2.2.2.2
  have c3_1 := p3_1.1
  have d3_1 := p3_1.2.1
  have s3_1 := p3_1.2.2.2.2
  have c3_2 := p3_2.1
  have d3_2 := p3_2.2.1
  have s3_2 := p3_2.2.2.2.2
  have c3_3 := p3_3.1
  have d3_3 := p3_3.2.1
  have s3_3 := p3_3.2.2.2.2
  go_wp2_with fail
  refine (div_any _ _ _ _ _).mono ?_
  rintro e w4 ⟨rfl, hb4⟩
  have p4_0 := pair_below (pair_alloc p3_0 _) hb4
  have p4_1 := pair_below (pair_alloc p3_1 _) hb4
  have p4_2 := pair_below (pair_alloc p3_2 _) hb4
  have p4_3 := pair_below (pair_alloc p3_3 _) hb4
  have p4_4 := pair_below (pair_new _ (Sp.mulR al ah bl bh).1.1 (Sp.mulR al ah bl bh).1.2 _) hb4
  clear c3_0 d3_0 s3_0 c3_1 d3_1 s3_1 c3_2 d3_2 s3_2 c3_3 d3_3 s3_3 p3_0 p3_1 p3_2 p3_3
  have c4_0 := p4_0.1
  have d4_0 := p4_0.2.1
  have s4_0 := p4_0.2.2.2.2
  have c4_1 := p4_1.1
  have d4_1 := p4_1.2.1
  have s4_1 := p4_1.2.2.2.2
  have c4_2 := p4_2.1
  have d4_2 := p4_2.2.1
  have s4_2 := p4_2.2.2.2.2
  have c4_3 := p4_3.1
  have d4_3 := p4_3.2.1
  have s4_3 := p4_3.2.2.2.2
  have c4_4 := p4_4.1
  have d4_4 := p4_4.2.1
  have s4_4 := p4_4.2.2.2.2
  go_wp2_with fail
  refine (known_any _).mono ?_
  rintro e w5 ⟨rfl, hb5⟩
  have p5_0 := pair_below (pair_alloc p4_0 _) hb5
  have p5_1 := pair_below (pair_alloc p4_1 _) hb5
  have p5_2 := pair_below (pair_alloc p4_2 _) hb5
  have p5_3 := pair_below (pair_alloc p4_3 _) hb5
  have p5_4 := pair_below (pair_alloc p4_4 _) hb5
  have p5_5 := pair_below (pair_new _ (Sp.divR (Sp.mulR al ah bl bh).1.1 (Sp.mulR al ah bl bh).1.2 bl bh).1.1 (Sp.divR (Sp.mulR al ah bl bh).1.1 (Sp.mulR al ah bl bh).1.2 bl bh).1.2 _) hb5
  clear c4_0 d4_0 s4_0 c4_1 d4_1 s4_1 c4_2 d4_2 s4_2 c4_3 d4_3 s4_3 c4_4 d4_4 s4_4 p4_0 p4_1 p4_2 p4_3 p4_4
  have c5_0 := p5_0.1
  have d5_0 := p5_0.2.1
  have s5_0 := p5_0.2.2.2.2
  have c5_1 := p5_1.1
  have d5_1 := p5_1.2.1
  have s5_1 := p5_1.2.2.2.2
  have c5_2 := p5_2.1
  have d5_2 := p5_2.2.1
  have s5_2 := p5_2.2.2.2.2
  have c5_3 := p5_3.1
  have d5_3 := p5_3.2.1
  have s5_3 := p5_3.2.2.2.2
  have c5_4 := p5_4.1
  have d5_4 := p5_4.2.1
  have s5_4 := p5_4.2.2.2.2
  have c5_5 := p5_5.1
  have d5_5 := p5_5.2.1
  have s5_5 := p5_5.2.2.2.2
  go_wp2
  go_ret
  exact ⟨rfl, by (repeat' (first | exact Below.refl _ _ | refine bstep ?_ hb1 | refine bstep ?_ hb2 | refine bstep ?_ hb3 | refine bstep ?_ hb4 | refine bstep ?_ hb5 | refine Below.setCell ?_ (by simp <;> omega) _ | refine balloc ?_ _ | refine Below.drew ?_ | refine bdrewN ?_ _))⟩
theorem divides_b (al ah bl bh : Int) (w : World) (z : (Sp.mulR al ah bl bh).2 = 0) (n : (Sp.divR (Sp.mulR al ah bl bh).1.1 (Sp.mulR al ah bl bh).1.2 bl bh).2 ≠ 0) :
    Calls Try.prog 6 #[spv al ah, spv bl bh] w fun e w' => e = .returned (.bool true) ∧ Below w.heap.size w w' := by
  have z1 : ((Sp.mulR al ah bl bh).2 != 0) = false := by rw [z]; rfl
  clear z
  have n := Lib.hid n
  go_enter Try.func6, Try.ntmps6
  go_wp2_with fail
  refine (div_any _ _ _ _ _).mono ?_
  rintro e w1 ⟨rfl, hb1⟩
  have p1_0 := pair_below (pair_alloc (pair_new _ al ah _) _) hb1
  have p1_1 := pair_below (pair_new _ bl bh _) hb1
  simp only [World.size_alloc] at p1_1
  have c1_0 := p1_0.1
  have d1_0 := p1_0.2.1
  have s1_0 := p1_0.2.2.2.2
  have c1_1 := p1_1.1
  have d1_1 := p1_1.2.1
  have s1_1 := p1_1.2.2.2.2
  go_wp2_with fail
  refine (rdiv_any _ _ _ _ _).mono ?_
  rintro e w2 ⟨rfl, hb2⟩
  have p2_0 := pair_below (pair_alloc p1_0 _) hb2
  have p2_1 := pair_below (pair_alloc p1_1 _) hb2
  have p2_2 := pair_below (pair_new _ (Sp.divR al ah bl bh).1.1 (Sp.divR al ah bl bh).1.2 _) hb2
  clear c1_0 d1_0 s1_0 c1_1 d1_1 s1_1 p1_0 p1_1
  have c2_0 := p2_0.1
  have d2_0 := p2_0.2.1
  have s2_0 := p2_0.2.2.2.2
  have c2_1 := p2_1.1
  have d2_1 := p2_1.2.1
  have s2_1 := p2_1.2.2.2.2
  have c2_2 := p2_2.1
  have d2_2 := p2_2.2.1
  have s2_2 := p2_2.2.2.2.2
  go_wp2_with fail
  refine (mul_any _ _ _ _ _).mono ?_
  rintro e w3 ⟨rfl, hb3⟩
  have p3_0 := pair_below (pair_alloc p2_0 _) hb3
  have p3_1 := pair_below (pair_alloc p2_1 _) hb3
  have p3_2 := pair_below (pair_alloc p2_2 _) hb3
  have p3_3 := pair_below (pair_new _ (Sp.divR al ah bl bh).1.1 (Sp.divR al ah bl bh).1.2 _) hb3
  clear c2_0 d2_0 s2_0 c2_1 d2_1 s2_1 c2_2 d2_2 s2_2 p2_0 p2_1 p2_2
  have c3_0 := p3_0.1
  have d3_0 := p3_0.2.1
  have s3_0 := p3_0.2.2.2.2
  have c3_1 := p3_1.1
  have d3_1 := p3_1.2.1
  have s3_1 := p3_1.2.2.2.2
  have c3_2 := p3_2.1
  have d3_2 := p3_2.2.1
  have s3_2 := p3_2.2.2.2.2
  have c3_3 := p3_3.1
  have d3_3 := p3_3.2.1
  have s3_3 := p3_3.2.2.2.2
  go_wp2_with fail
  refine (div_any _ _ _ _ _).mono ?_
  rintro e w4 ⟨rfl, hb4⟩
  have p4_0 := pair_below (pair_alloc p3_0 _) hb4
  have p4_1 := pair_below (pair_alloc p3_1 _) hb4
  have p4_2 := pair_below (pair_alloc p3_2 _) hb4
  have p4_3 := pair_below (pair_alloc p3_3 _) hb4
  have p4_4 := pair_below (pair_new _ (Sp.mulR al ah bl bh).1.1 (Sp.mulR al ah bl bh).1.2 _) hb4
  clear c3_0 d3_0 s3_0 c3_1 d3_1 s3_1 c3_2 d3_2 s3_2 c3_3 d3_3 s3_3 p3_0 p3_1 p3_2 p3_3
  have c4_0 := p4_0.1
  have d4_0 := p4_0.2.1
  have s4_0 := p4_0.2.2.2.2
  have c4_1 := p4_1.1
  have d4_1 := p4_1.2.1
  have s4_1 := p4_1.2.2.2.2
  have c4_2 := p4_2.1
  have d4_2 := p4_2.2.1
  have s4_2 := p4_2.2.2.2.2
  have c4_3 := p4_3.1
  have d4_3 := p4_3.2.1
  have s4_3 := p4_3.2.2.2.2
  have c4_4 := p4_4.1
  have d4_4 := p4_4.2.1
  have s4_4 := p4_4.2.2.2.2
  go_wp2_with fail
  refine (encl_err _ _ _ _ _ _ n.out).mono ?_
  rintro e w5 ⟨rfl, hb5⟩
  have p5_0 := pair_below (pair_alloc p4_0 _) hb5
  have p5_1 := pair_below (pair_alloc p4_1 _) hb5
  have p5_2 := pair_below (pair_alloc p4_2 _) hb5
  have p5_3 := pair_below (pair_alloc p4_3 _) hb5
  have p5_4 := pair_below (pair_alloc p4_4 _) hb5
  have p5_5 := pair_below (pair_new _ (Sp.divR (Sp.mulR al ah bl bh).1.1 (Sp.mulR al ah bl bh).1.2 bl bh).1.1 (Sp.divR (Sp.mulR al ah bl bh).1.1 (Sp.mulR al ah bl bh).1.2 bl bh).1.2 _) hb5
  clear c4_0 d4_0 s4_0 c4_1 d4_1 s4_1 c4_2 d4_2 s4_2 c4_3 d4_3 s4_3 c4_4 d4_4 s4_4 p4_0 p4_1 p4_2 p4_3 p4_4
  have c5_0 := p5_0.1
  have d5_0 := p5_0.2.1
  have s5_0 := p5_0.2.2.2.2
  have c5_1 := p5_1.1
  have d5_1 := p5_1.2.1
  have s5_1 := p5_1.2.2.2.2
  have c5_2 := p5_2.1
  have d5_2 := p5_2.2.1
  have s5_2 := p5_2.2.2.2.2
  have c5_3 := p5_3.1
  have d5_3 := p5_3.2.1
  have s5_3 := p5_3.2.2.2.2
  have c5_4 := p5_4.1
  have d5_4 := p5_4.2.1
  have s5_4 := p5_4.2.2.2.2
  have c5_5 := p5_5.1
  have d5_5 := p5_5.2.1
  have s5_5 := p5_5.2.2.2.2
  go_wp2_with fail
  refine (known_any _).mono ?_
  rintro e w6 ⟨rfl, hb6⟩
  have p6_0 := pair_below p5_0 hb6
  have p6_1 := pair_below p5_1 hb6
  have p6_2 := pair_below p5_2 hb6
  have p6_3 := pair_below p5_3 hb6
  have p6_4 := pair_below p5_4 hb6
  have p6_5 := pair_below p5_5 hb6
  clear c5_0 d5_0 s5_0 c5_1 d5_1 s5_1 c5_2 d5_2 s5_2 c5_3 d5_3 s5_3 c5_4 d5_4 s5_4 c5_5 d5_5 s5_5 p5_0 p5_1 p5_2 p5_3 p5_4 p5_5
  have c6_0 := p6_0.1
  have d6_0 := p6_0.2.1
  have s6_0 := p6_0.2.2.2.2
  have c6_1 := p6_1.1
  have d6_1 := p6_1.2.1
  have s6_1 := p6_1.2.2.2.2
  have c6_2 := p6_2.1
  have d6_2 := p6_2.2.1
  have s6_2 := p6_2.2.2.2.2
  have c6_3 := p6_3.1
  have d6_3 := p6_3.2.1
  have s6_3 := p6_3.2.2.2.2
  have c6_4 := p6_4.1
  have d6_4 := p6_4.2.1
  have s6_4 := p6_4.2.2.2.2
  have c6_5 := p6_5.1
  have d6_5 := p6_5.2.1
  have s6_5 := p6_5.2.2.2.2
  go_wp2
  go_ret
  exact ⟨rfl, by (repeat' (first | exact Below.refl _ _ | refine bstep ?_ hb1 | refine bstep ?_ hb2 | refine bstep ?_ hb3 | refine bstep ?_ hb4 | refine bstep ?_ hb5 | refine bstep ?_ hb6 | refine Below.setCell ?_ (by simp <;> omega) _ | refine balloc ?_ _ | refine Below.drew ?_ | refine bdrewN ?_ _))⟩
theorem divides_c (al ah bl bh : Int) (w : World) (z : (Sp.mulR al ah bl bh).2 = 0) (m : (Sp.divR (Sp.mulR al ah bl bh).1.1 (Sp.mulR al ah bl bh).1.2 bl bh).2 = 0) (c1 : (Sp.divR (Sp.mulR al ah bl bh).1.1 (Sp.mulR al ah bl bh).1.2 bl bh).1.1 ≤ al) (c2 : ah ≤ (Sp.divR (Sp.mulR al ah bl bh).1.1 (Sp.mulR al ah bl bh).1.2 bl bh).1.2) :
    Calls Try.prog 6 #[spv al ah, spv bl bh] w fun e w' => e = .returned (.bool true) ∧ Below w.heap.size w w' := by
  have z1 : ((Sp.mulR al ah bl bh).2 != 0) = false := by rw [z]; rfl
  clear z
  have C := fun w => encl_yes _ _ _ _ w c1 c2
  rw [← m] at C
  have C := Lib.hid C
  clear m c1 c2
  go_enter Try.func6, Try.ntmps6
  go_wp2_with fail
  refine (div_any _ _ _ _ _).mono ?_
  rintro e w1 ⟨rfl, hb1⟩
  have p1_0 := pair_below (pair_alloc (pair_new _ al ah _) _) hb1
  have p1_1 := pair_below (pair_new _ bl bh _) hb1
  simp only [World.size_alloc] at p1_1
  have c1_0 := p1_0.1
  have d1_0 := p1_0.2.1
  have s1_0 := p1_0.2.2.2.2
  have c1_1 := p1_1.1
  have d1_1 := p1_1.2.1
  have s1_1 := p1_1.2.2.2.2
  go_wp2_with fail
  refine (rdiv_any _ _ _ _ _).mono ?_
  rintro e w2 ⟨rfl, hb2⟩
  have p2_0 := pair_below (pair_alloc p1_0 _) hb2
  have p2_1 := pair_below (pair_alloc p1_1 _) hb2
  have p2_2 := pair_below (pair_new _ (Sp.divR al ah bl bh).1.1 (Sp.divR al ah bl bh).1.2 _) hb2
  clear c1_0 d1_0 s1_0 c1_1 d1_1 s1_1 p1_0 p1_1
  have c2_0 := p2_0.1
  have d2_0 := p2_0.2.1
  have s2_0 := p2_0.2.2.2.2
  have c2_1 := p2_1.1
  have d2_1 := p2_1.2.1
  have s2_1 := p2_1.2.2.2.2
  have c2_2 := p2_2.1
  have d2_2 := p2_2.2.1
  have s2_2 := p2_2.2.2.2.2
  go_wp2_with fail
  refine (mul_any _ _ _ _ _).mono ?_
  rintro e w3 ⟨rfl, hb3⟩
  have p3_0 := pair_below (pair_alloc p2_0 _) hb3
  have p3_1 := pair_below (pair_alloc p2_1 _) hb3
  have p3_2 := pair_below (pair_alloc p2_2 _) hb3
  have p3_3 := pair_below (pair_new _ (Sp.divR al ah bl bh).1.1 (Sp.divR al ah bl bh).1.2 _) hb3
  clear c2_0 d2_0 s2_0 c2_1 d2_1 s2_1 c2_2 d2_2 s2_2 p2_0 p2_1 p2_2
  have c3_0 := p3_0.1
  have d3_0 := p3_0.2.1
  have s3_0 := p3_0.2.2.2.2
  have c3_1 := p3_1.1
  have d3_1 := p3_1.2.1
  have s3_1 := p3_1.2.2.2.2
  have c3_2 := p3_2.1
  have d3_2 := p3_2.2.1
  have s3_2 := p3_2.2.2.2.2
  have c3_3 := p3_3.1
  have d3_3 := p3_3.2.1
  have s3_3 := p3_3.2.2.2.2
  go_wp2_with fail
  refine (div_any _ _ _ _ _).mono ?_
  rintro e w4 ⟨rfl, hb4⟩
  have p4_0 := pair_below (pair_alloc p3_0 _) hb4
  have p4_1 := pair_below (pair_alloc p3_1 _) hb4
  have p4_2 := pair_below (pair_alloc p3_2 _) hb4
  have p4_3 := pair_below (pair_alloc p3_3 _) hb4
  have p4_4 := pair_below (pair_new _ (Sp.mulR al ah bl bh).1.1 (Sp.mulR al ah bl bh).1.2 _) hb4
  clear c3_0 d3_0 s3_0 c3_1 d3_1 s3_1 c3_2 d3_2 s3_2 c3_3 d3_3 s3_3 p3_0 p3_1 p3_2 p3_3
  have c4_0 := p4_0.1
  have d4_0 := p4_0.2.1
  have s4_0 := p4_0.2.2.2.2
  have c4_1 := p4_1.1
  have d4_1 := p4_1.2.1
  have s4_1 := p4_1.2.2.2.2
  have c4_2 := p4_2.1
  have d4_2 := p4_2.2.1
  have s4_2 := p4_2.2.2.2.2
  have c4_3 := p4_3.1
  have d4_3 := p4_3.2.1
  have s4_3 := p4_3.2.2.2.2
  have c4_4 := p4_4.1
  have d4_4 := p4_4.2.1
  have s4_4 := p4_4.2.2.2.2
  go_wp2_with fail
  refine (C.out _).mono ?_
  rintro e w5 ⟨rfl, hb5⟩
  have p5_0 := pair_below (pair_alloc p4_0 _) hb5
  have p5_1 := pair_below (pair_alloc p4_1 _) hb5
  have p5_2 := pair_below (pair_alloc p4_2 _) hb5
  have p5_3 := pair_below (pair_alloc p4_3 _) hb5
  have p5_4 := pair_below (pair_alloc p4_4 _) hb5
  have p5_5 := pair_below (pair_new _ (Sp.divR (Sp.mulR al ah bl bh).1.1 (Sp.mulR al ah bl bh).1.2 bl bh).1.1 (Sp.divR (Sp.mulR al ah bl bh).1.1 (Sp.mulR al ah bl bh).1.2 bl bh).1.2 _) hb5
  clear c4_0 d4_0 s4_0 c4_1 d4_1 s4_1 c4_2 d4_2 s4_2 c4_3 d4_3 s4_3 c4_4 d4_4 s4_4 p4_0 p4_1 p4_2 p4_3 p4_4
  have c5_0 := p5_0.1
  have d5_0 := p5_0.2.1
  have s5_0 := p5_0.2.2.2.2
  have c5_1 := p5_1.1
  have d5_1 := p5_1.2.1
  have s5_1 := p5_1.2.2.2.2
  have c5_2 := p5_2.1
  have d5_2 := p5_2.2.1
  have s5_2 := p5_2.2.2.2.2
  have c5_3 := p5_3.1
  have d5_3 := p5_3.2.1
  have s5_3 := p5_3.2.2.2.2
  have c5_4 := p5_4.1
  have d5_4 := p5_4.2.1
  have s5_4 := p5_4.2.2.2.2
  have c5_5 := p5_5.1
  have d5_5 := p5_5.2.1
  have s5_5 := p5_5.2.2.2.2
  go_wp2_with fail
  refine (known_any _).mono ?_
  rintro e w6 ⟨rfl, hb6⟩
  have p6_0 := pair_below p5_0 hb6
  have p6_1 := pair_below p5_1 hb6
  have p6_2 := pair_below p5_2 hb6
  have p6_3 := pair_below p5_3 hb6
  have p6_4 := pair_below p5_4 hb6
  have p6_5 := pair_below p5_5 hb6
  clear c5_0 d5_0 s5_0 c5_1 d5_1 s5_1 c5_2 d5_2 s5_2 c5_3 d5_3 s5_3 c5_4 d5_4 s5_4 c5_5 d5_5 s5_5 p5_0 p5_1 p5_2 p5_3 p5_4 p5_5
  have c6_0 := p6_0.1
  have d6_0 := p6_0.2.1
  have s6_0 := p6_0.2.2.2.2
  have c6_1 := p6_1.1
  have d6_1 := p6_1.2.1
  have s6_1 := p6_1.2.2.2.2
  have c6_2 := p6_2.1
  have d6_2 := p6_2.2.1
  have s6_2 := p6_2.2.2.2.2
  have c6_3 := p6_3.1
  have d6_3 := p6_3.2.1
  have s6_3 := p6_3.2.2.2.2
  have c6_4 := p6_4.1
  have d6_4 := p6_4.2.1
  have s6_4 := p6_4.2.2.2.2
  have c6_5 := p6_5.1
  have d6_5 := p6_5.2.1
  have s6_5 := p6_5.2.2.2.2
  go_wp2
  go_ret
  exact ⟨rfl, by (repeat' (first | exact Below.refl _ _ | refine bstep ?_ hb1 | refine bstep ?_ hb2 | refine bstep ?_ hb3 | refine bstep ?_ hb4 | refine bstep ?_ hb5 | refine bstep ?_ hb6 | refine Below.setCell ?_ (by simp <;> omega) _ | refine balloc ?_ _ | refine Below.drew ?_ | refine bdrewN ?_ _))⟩
theorem divides_walk (al ah bl bh : Int) (w : World) :
    Calls Try.prog 6 #[spv al ah, spv bl bh] w fun e w' => e = .returned (.bool true) ∧ Below w.heap.size w w' := by
  by_cases z : (Sp.mulR al ah bl bh).2 = 0
  · by_cases m : (Sp.divR (Sp.mulR al ah bl bh).1.1 (Sp.mulR al ah bl bh).1.2 bl bh).2 = 0
    · rcases Sp.divides_back z with q | ⟨q1, q2⟩
      · exact absurd m q
      · exact divides_c _ _ _ _ _ z m q1 q2
    · exact divides_b _ _ _ _ _ z m
  · exact divides_e _ _ _ _ _ z

end Go.Proofs.Ythmlhpjhoolflaa
