/-
  The law SpanMeets: for every input it answers true.
-/
import Derived.Test.YthmlhpjhoolflaaKnown
import Derived.Test.YthmlhpjhoolflaaMeet
namespace Go.Proofs.Ythmlhpjhoolflaa
open Go.ChangeShapes Go.WideShapes Go.RowKit
theorem meets_no1 (al ah bl bh : Int) (w : World) (h : Sp.vldB al ah = false) :
    Calls Try.prog 12 #[spv al ah, spv bl bh] w fun e w' => e = .returned (.bool true) ∧ Below w.heap.size w w' := by
  go_enter Try.func12, Try.ntmps12
  go_wp2_with fail
  refine (hull_no1 _ _ _ _ _ h).mono ?_
  rintro e w1 ⟨rfl, hb1⟩
  have p1_0 := pair_below (pair_alloc (pair_new _ al ah _) _) hb1
  have p1_1 := pair_below (pair_new _ bl bh _) hb1
  simp only [World.size_alloc] at p1_1
  have c1_0 := p1_0.1
  have d1_0 := p1_0.2.1
  have s1_0 := p1_0.2.2.2.2
  have c1_1 := p1_1.1
  have d1_1 := p1_1.2.1
  have s1_1 := p1_1.2.2.2.2
  go_wp2_with fail
  refine (rhull_no1 _ _ _ _ _ h).mono ?_
  rintro e w2 ⟨rfl, hb2⟩
  have p2_0 := pair_below (pair_alloc p1_0 _) hb2
  have p2_1 := pair_below (pair_alloc p1_1 _) hb2
  have p2_2 := pair_below (pair_new _ 0 0 _) hb2
  clear c1_0 d1_0 s1_0 c1_1 d1_1 s1_1 p1_0 p1_1
  have c2_0 := p2_0.1
  have d2_0 := p2_0.2.1
  have s2_0 := p2_0.2.2.2.2
  have c2_1 := p2_1.1
  have d2_1 := p2_1.2.1
  have s2_1 := p2_1.2.2.2.2
  have c2_2 := p2_2.1
  have d2_2 := p2_2.2.1
  have s2_2 := p2_2.2.2.2.2
  go_wp2_with fail
  refine (meet_no1 _ _ _ _ _ h).mono ?_
  rintro e w3 ⟨rfl, hb3⟩
  have p3_0 := pair_below (pair_alloc p2_0 _) hb3
  have p3_1 := pair_below (pair_alloc p2_1 _) hb3
  have p3_2 := pair_below (pair_alloc p2_2 _) hb3
  have p3_3 := pair_below (pair_new _ 0 0 _) hb3
  clear c2_0 d2_0 s2_0 c2_1 d2_1 s2_1 c2_2 d2_2 s2_2 p2_0 p2_1 p2_2
  have c3_0 := p3_0.1
  have d3_0 := p3_0.2.1
  have s3_0 := p3_0.2.2.2.2
  have c3_1 := p3_1.1
  have d3_1 := p3_1.2.1
  have s3_1 := p3_1.2.2.2.2
  have c3_2 := p3_2.1
  have d3_2 := p3_2.2.1
  have s3_2 := p3_2.2.2.2.2
  have c3_3 := p3_3.1
  have d3_3 := p3_3.2.1
  have s3_3 := p3_3.2.2.2.2
  go_wp2_with fail
  refine (rmeet_no1 _ _ _ _ _ h).mono ?_
  rintro e w4 ⟨rfl, hb4⟩
  have p4_0 := pair_below (pair_alloc p3_0 _) hb4
  have p4_1 := pair_below (pair_alloc p3_1 _) hb4
  have p4_2 := pair_below (pair_alloc p3_2 _) hb4
  have p4_3 := pair_below (pair_alloc p3_3 _) hb4
  have p4_4 := pair_below (pair_new _ 0 0 _) hb4
  clear c3_0 d3_0 s3_0 c3_1 d3_1 s3_1 c3_2 d3_2 s3_2 c3_3 d3_3 s3_3 p3_0 p3_1 p3_2 p3_3
  have c4_0 := p4_0.1
  have d4_0 := p4_0.2.1
  have s4_0 := p4_0.2.2.2.2
  have c4_1 := p4_1.1
  have d4_1 := p4_1.2.1
  have s4_1 := p4_1.2.2.2.2
  have c4_2 := p4_2.1
  have d4_2 := p4_2.2.1
  have s4_2 := p4_2.2.2.2.2
  have c4_3 := p4_3.1
  have d4_3 := p4_3.2.1
  have s4_3 := p4_3.2.2.2.2
  have c4_4 := p4_4.1
  have d4_4 := p4_4.2.1
  have s4_4 := p4_4.2.2.2.2
  go_wp2_with fail
  refine (within_no1 _ _ _ _ _ h).mono ?_
  rintro e w5 ⟨rfl, hb5⟩
  have p5_0 := pair_below (pair_alloc p4_0 _) hb5
  have p5_1 := pair_below (pair_alloc p4_1 _) hb5
  have p5_2 := pair_below (pair_alloc p4_2 _) hb5
  have p5_3 := pair_below (pair_alloc p4_3 _) hb5
  have p5_4 := pair_below (pair_alloc p4_4 _) hb5
  have p5_5 := pair_below (pair_new _ 0 0 _) hb5
  clear c4_0 d4_0 s4_0 c4_1 d4_1 s4_1 c4_2 d4_2 s4_2 c4_3 d4_3 s4_3 c4_4 d4_4 s4_4 p4_0 p4_1 p4_2 p4_3 p4_4
  have c5_0 := p5_0.1
  have d5_0 := p5_0.2.1
  have s5_0 := p5_0.2.2.2.2
  have c5_1 := p5_1.1
  have d5_1 := p5_1.2.1
  have s5_1 := p5_1.2.2.2.2
  have c5_2 := p5_2.1
  have d5_2 := p5_2.2.1
  have s5_2 := p5_2.2.2.2.2
  have c5_3 := p5_3.1
  have d5_3 := p5_3.2.1
  have s5_3 := p5_3.2.2.2.2
  have c5_4 := p5_4.1
  have d5_4 := p5_4.2.1
  have s5_4 := p5_4.2.2.2.2
  have c5_5 := p5_5.1
  have d5_5 := p5_5.2.1
  have s5_5 := p5_5.2.2.2.2
  go_wp2_with fail
  refine (rinside_no1 _ _ _ _ _ h).mono ?_
  rintro e w6 ⟨rfl, hb6⟩
  have p6_0 := pair_below p5_0 hb6
  have p6_1 := pair_below p5_1 hb6
  have p6_2 := pair_below p5_2 hb6
  have p6_3 := pair_below p5_3 hb6
  have p6_4 := pair_below p5_4 hb6
  have p6_5 := pair_below p5_5 hb6
  clear c5_0 d5_0 s5_0 c5_1 d5_1 s5_1 c5_2 d5_2 s5_2 c5_3 d5_3 s5_3 c5_4 d5_4 s5_4 c5_5 d5_5 s5_5 p5_0 p5_1 p5_2 p5_3 p5_4 p5_5
  have c6_0 := p6_0.1
  have d6_0 := p6_0.2.1
  have s6_0 := p6_0.2.2.2.2
  have c6_1 := p6_1.1
  have d6_1 := p6_1.2.1
  have s6_1 := p6_1.2.2.2.2
  have c6_2 := p6_2.1
  have d6_2 := p6_2.2.1
  have s6_2 := p6_2.2.2.2.2
  have c6_3 := p6_3.1
  have d6_3 := p6_3.2.1
  have s6_3 := p6_3.2.2.2.2
  have c6_4 := p6_4.1
  have d6_4 := p6_4.2.1
  have s6_4 := p6_4.2.2.2.2
  have c6_5 := p6_5.1
  have d6_5 := p6_5.2.1
  have s6_5 := p6_5.2.2.2.2
  go_wp2_with fail
  refine (compare_no1 _ _ _ _ _ h).mono ?_
  rintro e w7 ⟨rfl, hb7⟩
  have p7_0 := pair_below p6_0 hb7
  have p7_1 := pair_below p6_1 hb7
  have p7_2 := pair_below p6_2 hb7
  have p7_3 := pair_below p6_3 hb7
  have p7_4 := pair_below p6_4 hb7
  have p7_5 := pair_below p6_5 hb7
  clear c6_0 d6_0 s6_0 c6_1 d6_1 s6_1 c6_2 d6_2 s6_2 c6_3 d6_3 s6_3 c6_4 d6_4 s6_4 c6_5 d6_5 s6_5 p6_0 p6_1 p6_2 p6_3 p6_4 p6_5
  have c7_0 := p7_0.1
  have d7_0 := p7_0.2.1
  have s7_0 := p7_0.2.2.2.2
  have c7_1 := p7_1.1
  have d7_1 := p7_1.2.1
  have s7_1 := p7_1.2.2.2.2
  have c7_2 := p7_2.1
  have d7_2 := p7_2.2.1
  have s7_2 := p7_2.2.2.2.2
  have c7_3 := p7_3.1
  have d7_3 := p7_3.2.1
  have s7_3 := p7_3.2.2.2.2
  have c7_4 := p7_4.1
  have d7_4 := p7_4.2.1
  have s7_4 := p7_4.2.2.2.2
  have c7_5 := p7_5.1
  have d7_5 := p7_5.2.1
  have s7_5 := p7_5.2.2.2.2
  go_wp2_with fail
  refine (rcompare_no1 _ _ _ _ _ h).mono ?_
  rintro e w8 ⟨rfl, hb8⟩
  have p8_0 := pair_below p7_0 hb8
  have p8_1 := pair_below p7_1 hb8
  have p8_2 := pair_below p7_2 hb8
  have p8_3 := pair_below p7_3 hb8
  have p8_4 := pair_below p7_4 hb8
  have p8_5 := pair_below p7_5 hb8
  clear c7_0 d7_0 s7_0 c7_1 d7_1 s7_1 c7_2 d7_2 s7_2 c7_3 d7_3 s7_3 c7_4 d7_4 s7_4 c7_5 d7_5 s7_5 p7_0 p7_1 p7_2 p7_3 p7_4 p7_5
  have c8_0 := p8_0.1
  have d8_0 := p8_0.2.1
  have s8_0 := p8_0.2.2.2.2
  have c8_1 := p8_1.1
  have d8_1 := p8_1.2.1
  have s8_1 := p8_1.2.2.2.2
  have c8_2 := p8_2.1
  have d8_2 := p8_2.2.1
  have s8_2 := p8_2.2.2.2.2
  have c8_3 := p8_3.1
  have d8_3 := p8_3.2.1
  have s8_3 := p8_3.2.2.2.2
  have c8_4 := p8_4.1
  have d8_4 := p8_4.2.1
  have s8_4 := p8_4.2.2.2.2
  have c8_5 := p8_5.1
  have d8_5 := p8_5.2.1
  have s8_5 := p8_5.2.2.2.2
  go_wp2_with fail
  all_goals
    refine (known_any _).mono ?_
    rintro e w9 ⟨rfl, hb9⟩
    go_wp2
    go_ret
    exact ⟨rfl, by (repeat' (first | exact Below.refl _ _ | refine bstep ?_ hb1 | refine bstep ?_ hb2 | refine bstep ?_ hb3 | refine bstep ?_ hb4 | refine bstep ?_ hb5 | refine bstep ?_ hb6 | refine bstep ?_ hb7 | refine bstep ?_ hb8 | refine bstep ?_ hb9 | refine Below.setCell ?_ (by simp <;> omega) _ | refine balloc ?_ _ | refine Below.drew ?_))⟩
theorem meets_no2 (al ah bl bh : Int) (w : World) (h : Sp.vldB al ah = true) (k : Sp.vldB bl bh = false) :
    Calls Try.prog 12 #[spv al ah, spv bl bh] w fun e w' => e = .returned (.bool true) ∧ Below w.heap.size w w' := by
  go_enter Try.func12, Try.ntmps12
  go_wp2_with fail
  refine (hull_no2 _ _ _ _ _ h k).mono ?_
  rintro e w1 ⟨rfl, hb1⟩
  have p1_0 := pair_below (pair_alloc (pair_new _ al ah _) _) hb1
  have p1_1 := pair_below (pair_new _ bl bh _) hb1
  simp only [World.size_alloc] at p1_1
  have c1_0 := p1_0.1
  have d1_0 := p1_0.2.1
  have s1_0 := p1_0.2.2.2.2
  have c1_1 := p1_1.1
  have d1_1 := p1_1.2.1
  have s1_1 := p1_1.2.2.2.2
  go_wp2_with fail
  refine (rhull_no2 _ _ _ _ _ h k).mono ?_
  rintro e w2 ⟨rfl, hb2⟩
  have p2_0 := pair_below (pair_alloc p1_0 _) hb2
  have p2_1 := pair_below (pair_alloc p1_1 _) hb2
  have p2_2 := pair_below (pair_new _ 0 0 _) hb2
  clear c1_0 d1_0 s1_0 c1_1 d1_1 s1_1 p1_0 p1_1
  have c2_0 := p2_0.1
  have d2_0 := p2_0.2.1
  have s2_0 := p2_0.2.2.2.2
  have c2_1 := p2_1.1
  have d2_1 := p2_1.2.1
  have s2_1 := p2_1.2.2.2.2
  have c2_2 := p2_2.1
  have d2_2 := p2_2.2.1
  have s2_2 := p2_2.2.2.2.2
  go_wp2_with fail
  refine (meet_no2 _ _ _ _ _ h k).mono ?_
  rintro e w3 ⟨rfl, hb3⟩
  have p3_0 := pair_below (pair_alloc p2_0 _) hb3
  have p3_1 := pair_below (pair_alloc p2_1 _) hb3
  have p3_2 := pair_below (pair_alloc p2_2 _) hb3
  have p3_3 := pair_below (pair_new _ 0 0 _) hb3
  clear c2_0 d2_0 s2_0 c2_1 d2_1 s2_1 c2_2 d2_2 s2_2 p2_0 p2_1 p2_2
  have c3_0 := p3_0.1
  have d3_0 := p3_0.2.1
  have s3_0 := p3_0.2.2.2.2
  have c3_1 := p3_1.1
  have d3_1 := p3_1.2.1
  have s3_1 := p3_1.2.2.2.2
  have c3_2 := p3_2.1
  have d3_2 := p3_2.2.1
  have s3_2 := p3_2.2.2.2.2
  have c3_3 := p3_3.1
  have d3_3 := p3_3.2.1
  have s3_3 := p3_3.2.2.2.2
  go_wp2_with fail
  refine (rmeet_no2 _ _ _ _ _ h k).mono ?_
  rintro e w4 ⟨rfl, hb4⟩
  have p4_0 := pair_below (pair_alloc p3_0 _) hb4
  have p4_1 := pair_below (pair_alloc p3_1 _) hb4
  have p4_2 := pair_below (pair_alloc p3_2 _) hb4
  have p4_3 := pair_below (pair_alloc p3_3 _) hb4
  have p4_4 := pair_below (pair_new _ 0 0 _) hb4
  clear c3_0 d3_0 s3_0 c3_1 d3_1 s3_1 c3_2 d3_2 s3_2 c3_3 d3_3 s3_3 p3_0 p3_1 p3_2 p3_3
  have c4_0 := p4_0.1
  have d4_0 := p4_0.2.1
  have s4_0 := p4_0.2.2.2.2
  have c4_1 := p4_1.1
  have d4_1 := p4_1.2.1
  have s4_1 := p4_1.2.2.2.2
  have c4_2 := p4_2.1
  have d4_2 := p4_2.2.1
  have s4_2 := p4_2.2.2.2.2
  have c4_3 := p4_3.1
  have d4_3 := p4_3.2.1
  have s4_3 := p4_3.2.2.2.2
  have c4_4 := p4_4.1
  have d4_4 := p4_4.2.1
  have s4_4 := p4_4.2.2.2.2
  go_wp2_with fail
  refine (within_no2 _ _ _ _ _ h k).mono ?_
  rintro e w5 ⟨rfl, hb5⟩
  have p5_0 := pair_below (pair_alloc p4_0 _) hb5
  have p5_1 := pair_below (pair_alloc p4_1 _) hb5
  have p5_2 := pair_below (pair_alloc p4_2 _) hb5
  have p5_3 := pair_below (pair_alloc p4_3 _) hb5
  have p5_4 := pair_below (pair_alloc p4_4 _) hb5
  have p5_5 := pair_below (pair_new _ 0 0 _) hb5
  clear c4_0 d4_0 s4_0 c4_1 d4_1 s4_1 c4_2 d4_2 s4_2 c4_3 d4_3 s4_3 c4_4 d4_4 s4_4 p4_0 p4_1 p4_2 p4_3 p4_4
  have c5_0 := p5_0.1
  have d5_0 := p5_0.2.1
  have s5_0 := p5_0.2.2.2.2
  have c5_1 := p5_1.1
  have d5_1 := p5_1.2.1
  have s5_1 := p5_1.2.2.2.2
  have c5_2 := p5_2.1
  have d5_2 := p5_2.2.1
  have s5_2 := p5_2.2.2.2.2
  have c5_3 := p5_3.1
  have d5_3 := p5_3.2.1
  have s5_3 := p5_3.2.2.2.2
  have c5_4 := p5_4.1
  have d5_4 := p5_4.2.1
  have s5_4 := p5_4.2.2.2.2
  have c5_5 := p5_5.1
  have d5_5 := p5_5.2.1
  have s5_5 := p5_5.2.2.2.2
  go_wp2_with fail
  refine (rinside_no2 _ _ _ _ _ h k).mono ?_
  rintro e w6 ⟨rfl, hb6⟩
  have p6_0 := pair_below p5_0 hb6
  have p6_1 := pair_below p5_1 hb6
  have p6_2 := pair_below p5_2 hb6
  have p6_3 := pair_below p5_3 hb6
  have p6_4 := pair_below p5_4 hb6
  have p6_5 := pair_below p5_5 hb6
  clear c5_0 d5_0 s5_0 c5_1 d5_1 s5_1 c5_2 d5_2 s5_2 c5_3 d5_3 s5_3 c5_4 d5_4 s5_4 c5_5 d5_5 s5_5 p5_0 p5_1 p5_2 p5_3 p5_4 p5_5
  have c6_0 := p6_0.1
  have d6_0 := p6_0.2.1
  have s6_0 := p6_0.2.2.2.2
  have c6_1 := p6_1.1
  have d6_1 := p6_1.2.1
  have s6_1 := p6_1.2.2.2.2
  have c6_2 := p6_2.1
  have d6_2 := p6_2.2.1
  have s6_2 := p6_2.2.2.2.2
  have c6_3 := p6_3.1
  have d6_3 := p6_3.2.1
  have s6_3 := p6_3.2.2.2.2
  have c6_4 := p6_4.1
  have d6_4 := p6_4.2.1
  have s6_4 := p6_4.2.2.2.2
  have c6_5 := p6_5.1
  have d6_5 := p6_5.2.1
  have s6_5 := p6_5.2.2.2.2
  go_wp2_with fail
  refine (compare_no2 _ _ _ _ _ h k).mono ?_
  rintro e w7 ⟨rfl, hb7⟩
  have p7_0 := pair_below p6_0 hb7
  have p7_1 := pair_below p6_1 hb7
  have p7_2 := pair_below p6_2 hb7
  have p7_3 := pair_below p6_3 hb7
  have p7_4 := pair_below p6_4 hb7
  have p7_5 := pair_below p6_5 hb7
  clear c6_0 d6_0 s6_0 c6_1 d6_1 s6_1 c6_2 d6_2 s6_2 c6_3 d6_3 s6_3 c6_4 d6_4 s6_4 c6_5 d6_5 s6_5 p6_0 p6_1 p6_2 p6_3 p6_4 p6_5
  have c7_0 := p7_0.1
  have d7_0 := p7_0.2.1
  have s7_0 := p7_0.2.2.2.2
  have c7_1 := p7_1.1
  have d7_1 := p7_1.2.1
  have s7_1 := p7_1.2.2.2.2
  have c7_2 := p7_2.1
  have d7_2 := p7_2.2.1
  have s7_2 := p7_2.2.2.2.2
  have c7_3 := p7_3.1
  have d7_3 := p7_3.2.1
  have s7_3 := p7_3.2.2.2.2
  have c7_4 := p7_4.1
  have d7_4 := p7_4.2.1
  have s7_4 := p7_4.2.2.2.2
  have c7_5 := p7_5.1
  have d7_5 := p7_5.2.1
  have s7_5 := p7_5.2.2.2.2
  go_wp2_with fail
  refine (rcompare_no2 _ _ _ _ _ h k).mono ?_
  rintro e w8 ⟨rfl, hb8⟩
  have p8_0 := pair_below p7_0 hb8
  have p8_1 := pair_below p7_1 hb8
  have p8_2 := pair_below p7_2 hb8
  have p8_3 := pair_below p7_3 hb8
  have p8_4 := pair_below p7_4 hb8
  have p8_5 := pair_below p7_5 hb8
  clear c7_0 d7_0 s7_0 c7_1 d7_1 s7_1 c7_2 d7_2 s7_2 c7_3 d7_3 s7_3 c7_4 d7_4 s7_4 c7_5 d7_5 s7_5 p7_0 p7_1 p7_2 p7_3 p7_4 p7_5
  have c8_0 := p8_0.1
  have d8_0 := p8_0.2.1
  have s8_0 := p8_0.2.2.2.2
  have c8_1 := p8_1.1
  have d8_1 := p8_1.2.1
  have s8_1 := p8_1.2.2.2.2
  have c8_2 := p8_2.1
  have d8_2 := p8_2.2.1
  have s8_2 := p8_2.2.2.2.2
  have c8_3 := p8_3.1
  have d8_3 := p8_3.2.1
  have s8_3 := p8_3.2.2.2.2
  have c8_4 := p8_4.1
  have d8_4 := p8_4.2.1
  have s8_4 := p8_4.2.2.2.2
  have c8_5 := p8_5.1
  have d8_5 := p8_5.2.1
  have s8_5 := p8_5.2.2.2.2
  go_wp2_with fail
  all_goals
    refine (known_any _).mono ?_
    rintro e w9 ⟨rfl, hb9⟩
    go_wp2
    go_ret
    exact ⟨rfl, by (repeat' (first | exact Below.refl _ _ | refine bstep ?_ hb1 | refine bstep ?_ hb2 | refine bstep ?_ hb3 | refine bstep ?_ hb4 | refine bstep ?_ hb5 | refine bstep ?_ hb6 | refine bstep ?_ hb7 | refine bstep ?_ hb8 | refine bstep ?_ hb9 | refine Below.setCell ?_ (by simp <;> omega) _ | refine balloc ?_ _ | refine Below.drew ?_))⟩
theorem meets_lt (al ah bl bh : Int) (w : World) (h : Sp.vldB al ah = true) (k : Sp.vldB bl bh = true) (c : ah < bl) :
    Calls Try.prog 12 #[spv al ah, spv bl bh] w fun e w' => e = .returned (.bool true) ∧ Below w.heap.size w w' := by
  have o : ¬ (bl ≤ al ∧ ah ≤ bh) := by have := Sp.vld_iff.1 h; have := Sp.vld_iff.1 k; omega
  have q : ¬ Sp.mn al bl = bl ∨ ¬ Sp.mx ah bh = bh := by rw [Sp.mn_eq, Sp.mx_eq]; omega
  rcases q with q | q
  all_goals
    go_enter Try.func12, Try.ntmps12
    go_wp2_with fail
    refine (hull_yes _ _ _ _ _ h k).mono ?_
    rintro e w1 ⟨rfl, hb1⟩
    have p1_0 := pair_below (pair_alloc (pair_new _ al ah _) _) hb1
    have p1_1 := pair_below (pair_new _ bl bh _) hb1
    simp only [World.size_alloc] at p1_1
    have c1_0 := p1_0.1
    have d1_0 := p1_0.2.1
    have s1_0 := p1_0.2.2.2.2
    have c1_1 := p1_1.1
    have d1_1 := p1_1.2.1
    have s1_1 := p1_1.2.2.2.2
    go_wp2_with fail
    refine (rhull_yes _ _ _ _ _ h k).mono ?_
    rintro e w2 ⟨rfl, hb2⟩
    have p2_0 := pair_below (pair_alloc p1_0 _) hb2
    have p2_1 := pair_below (pair_alloc p1_1 _) hb2
    have p2_2 := pair_below (pair_new _ (Sp.mn al bl) (Sp.mx ah bh) _) hb2
    clear c1_0 d1_0 s1_0 c1_1 d1_1 s1_1 p1_0 p1_1
    have c2_0 := p2_0.1
    have d2_0 := p2_0.2.1
    have s2_0 := p2_0.2.2.2.2
    have c2_1 := p2_1.1
    have d2_1 := p2_1.2.1
    have s2_1 := p2_1.2.2.2.2
    have c2_2 := p2_2.1
    have d2_2 := p2_2.2.1
    have s2_2 := p2_2.2.2.2.2
    go_wp2_with fail
    refine (meet_lt _ _ _ _ _ h k c).mono ?_
    rintro e w3 ⟨rfl, hb3⟩
    have p3_0 := pair_below (pair_alloc p2_0 _) hb3
    have p3_1 := pair_below (pair_alloc p2_1 _) hb3
    have p3_2 := pair_below (pair_alloc p2_2 _) hb3
    have p3_3 := pair_below (pair_new _ (Sp.mn al bl) (Sp.mx ah bh) _) hb3
    clear c2_0 d2_0 s2_0 c2_1 d2_1 s2_1 c2_2 d2_2 s2_2 p2_0 p2_1 p2_2
    have c3_0 := p3_0.1
    have d3_0 := p3_0.2.1
    have s3_0 := p3_0.2.2.2.2
    have c3_1 := p3_1.1
    have d3_1 := p3_1.2.1
    have s3_1 := p3_1.2.2.2.2
    have c3_2 := p3_2.1
    have d3_2 := p3_2.2.1
    have s3_2 := p3_2.2.2.2.2
    have c3_3 := p3_3.1
    have d3_3 := p3_3.2.1
    have s3_3 := p3_3.2.2.2.2
    go_wp2_with fail
    refine (rmeet_lt _ _ _ _ _ h k c).mono ?_
    rintro e w4 ⟨rfl, hb4⟩
    have p4_0 := pair_below (pair_alloc p3_0 _) hb4
    have p4_1 := pair_below (pair_alloc p3_1 _) hb4
    have p4_2 := pair_below (pair_alloc p3_2 _) hb4
    have p4_3 := pair_below (pair_alloc p3_3 _) hb4
    have p4_4 := pair_below (pair_new _ 0 0 _) hb4
    clear c3_0 d3_0 s3_0 c3_1 d3_1 s3_1 c3_2 d3_2 s3_2 c3_3 d3_3 s3_3 p3_0 p3_1 p3_2 p3_3
    have c4_0 := p4_0.1
    have d4_0 := p4_0.2.1
    have s4_0 := p4_0.2.2.2.2
    have c4_1 := p4_1.1
    have d4_1 := p4_1.2.1
    have s4_1 := p4_1.2.2.2.2
    have c4_2 := p4_2.1
    have d4_2 := p4_2.2.1
    have s4_2 := p4_2.2.2.2.2
    have c4_3 := p4_3.1
    have d4_3 := p4_3.2.1
    have s4_3 := p4_3.2.2.2.2
    have c4_4 := p4_4.1
    have d4_4 := p4_4.2.1
    have s4_4 := p4_4.2.2.2.2
    go_wp2_with fail
    refine (within_out _ _ _ _ _ h k o).mono ?_
    rintro e w5 ⟨rfl, hb5⟩
    have p5_0 := pair_below (pair_alloc p4_0 _) hb5
    have p5_1 := pair_below (pair_alloc p4_1 _) hb5
    have p5_2 := pair_below (pair_alloc p4_2 _) hb5
    have p5_3 := pair_below (pair_alloc p4_3 _) hb5
    have p5_4 := pair_below (pair_alloc p4_4 _) hb5
    have p5_5 := pair_below (pair_new _ 0 0 _) hb5
    clear c4_0 d4_0 s4_0 c4_1 d4_1 s4_1 c4_2 d4_2 s4_2 c4_3 d4_3 s4_3 c4_4 d4_4 s4_4 p4_0 p4_1 p4_2 p4_3 p4_4
    have c5_0 := p5_0.1
    have d5_0 := p5_0.2.1
    have s5_0 := p5_0.2.2.2.2
    have c5_1 := p5_1.1
    have d5_1 := p5_1.2.1
    have s5_1 := p5_1.2.2.2.2
    have c5_2 := p5_2.1
    have d5_2 := p5_2.2.1
    have s5_2 := p5_2.2.2.2.2
    have c5_3 := p5_3.1
    have d5_3 := p5_3.2.1
    have s5_3 := p5_3.2.2.2.2
    have c5_4 := p5_4.1
    have d5_4 := p5_4.2.1
    have s5_4 := p5_4.2.2.2.2
    have c5_5 := p5_5.1
    have d5_5 := p5_5.2.1
    have s5_5 := p5_5.2.2.2.2
    go_wp2_with fail
    refine (rinside_out _ _ _ _ _ h k o).mono ?_
    rintro e w6 ⟨rfl, hb6⟩
    have p6_0 := pair_below p5_0 hb6
    have p6_1 := pair_below p5_1 hb6
    have p6_2 := pair_below p5_2 hb6
    have p6_3 := pair_below p5_3 hb6
    have p6_4 := pair_below p5_4 hb6
    have p6_5 := pair_below p5_5 hb6
    clear c5_0 d5_0 s5_0 c5_1 d5_1 s5_1 c5_2 d5_2 s5_2 c5_3 d5_3 s5_3 c5_4 d5_4 s5_4 c5_5 d5_5 s5_5 p5_0 p5_1 p5_2 p5_3 p5_4 p5_5
    have c6_0 := p6_0.1
    have d6_0 := p6_0.2.1
    have s6_0 := p6_0.2.2.2.2
    have c6_1 := p6_1.1
    have d6_1 := p6_1.2.1
    have s6_1 := p6_1.2.2.2.2
    have c6_2 := p6_2.1
    have d6_2 := p6_2.2.1
    have s6_2 := p6_2.2.2.2.2
    have c6_3 := p6_3.1
    have d6_3 := p6_3.2.1
    have s6_3 := p6_3.2.2.2.2
    have c6_4 := p6_4.1
    have d6_4 := p6_4.2.1
    have s6_4 := p6_4.2.2.2.2
    have c6_5 := p6_5.1
    have d6_5 := p6_5.2.1
    have s6_5 := p6_5.2.2.2.2
    go_wp2_with fail
    refine (compare_lt _ _ _ _ _ h k c).mono ?_
    rintro e w7 ⟨rfl, hb7⟩
    have p7_0 := pair_below p6_0 hb7
    have p7_1 := pair_below p6_1 hb7
    have p7_2 := pair_below p6_2 hb7
    have p7_3 := pair_below p6_3 hb7
    have p7_4 := pair_below p6_4 hb7
    have p7_5 := pair_below p6_5 hb7
    clear c6_0 d6_0 s6_0 c6_1 d6_1 s6_1 c6_2 d6_2 s6_2 c6_3 d6_3 s6_3 c6_4 d6_4 s6_4 c6_5 d6_5 s6_5 p6_0 p6_1 p6_2 p6_3 p6_4 p6_5
    have c7_0 := p7_0.1
    have d7_0 := p7_0.2.1
    have s7_0 := p7_0.2.2.2.2
    have c7_1 := p7_1.1
    have d7_1 := p7_1.2.1
    have s7_1 := p7_1.2.2.2.2
    have c7_2 := p7_2.1
    have d7_2 := p7_2.2.1
    have s7_2 := p7_2.2.2.2.2
    have c7_3 := p7_3.1
    have d7_3 := p7_3.2.1
    have s7_3 := p7_3.2.2.2.2
    have c7_4 := p7_4.1
    have d7_4 := p7_4.2.1
    have s7_4 := p7_4.2.2.2.2
    have c7_5 := p7_5.1
    have d7_5 := p7_5.2.1
    have s7_5 := p7_5.2.2.2.2
    go_wp2_with fail
    refine (rcompare_lt _ _ _ _ _ h k c).mono ?_
    rintro e w8 ⟨rfl, hb8⟩
    have p8_0 := pair_below p7_0 hb8
    have p8_1 := pair_below p7_1 hb8
    have p8_2 := pair_below p7_2 hb8
    have p8_3 := pair_below p7_3 hb8
    have p8_4 := pair_below p7_4 hb8
    have p8_5 := pair_below p7_5 hb8
    clear c7_0 d7_0 s7_0 c7_1 d7_1 s7_1 c7_2 d7_2 s7_2 c7_3 d7_3 s7_3 c7_4 d7_4 s7_4 c7_5 d7_5 s7_5 p7_0 p7_1 p7_2 p7_3 p7_4 p7_5
    have c8_0 := p8_0.1
    have d8_0 := p8_0.2.1
    have s8_0 := p8_0.2.2.2.2
    have c8_1 := p8_1.1
    have d8_1 := p8_1.2.1
    have s8_1 := p8_1.2.2.2.2
    have c8_2 := p8_2.1
    have d8_2 := p8_2.2.1
    have s8_2 := p8_2.2.2.2.2
    have c8_3 := p8_3.1
    have d8_3 := p8_3.2.1
    have s8_3 := p8_3.2.2.2.2
    have c8_4 := p8_4.1
    have d8_4 := p8_4.2.1
    have s8_4 := p8_4.2.2.2.2
    have c8_5 := p8_5.1
    have d8_5 := p8_5.2.1
    have s8_5 := p8_5.2.2.2.2
    go_wp2_with fail
    all_goals
      refine (known_any _).mono ?_
      rintro e w9 ⟨rfl, hb9⟩
      go_wp2
      go_ret
      exact ⟨rfl, by (repeat' (first | exact Below.refl _ _ | refine bstep ?_ hb1 | refine bstep ?_ hb2 | refine bstep ?_ hb3 | refine bstep ?_ hb4 | refine bstep ?_ hb5 | refine bstep ?_ hb6 | refine bstep ?_ hb7 | refine bstep ?_ hb8 | refine bstep ?_ hb9 | refine Below.setCell ?_ (by simp <;> omega) _ | refine balloc ?_ _ | refine Below.drew ?_))⟩
theorem meets_gt (al ah bl bh : Int) (w : World) (h : Sp.vldB al ah = true) (k : Sp.vldB bl bh = true) (b : bl ≤ ah) (c : bh < al) :
    Calls Try.prog 12 #[spv al ah, spv bl bh] w fun e w' => e = .returned (.bool true) ∧ Below w.heap.size w w' := by
  have o : ¬ (bl ≤ al ∧ ah ≤ bh) := by have := Sp.vld_iff.1 h; have := Sp.vld_iff.1 k; omega
  have q : ¬ Sp.mn al bl = bl ∨ ¬ Sp.mx ah bh = bh := by rw [Sp.mn_eq, Sp.mx_eq]; omega
  rcases q with q | q
  all_goals
    go_enter Try.func12, Try.ntmps12
    go_wp2_with fail
    refine (hull_yes _ _ _ _ _ h k).mono ?_
    rintro e w1 ⟨rfl, hb1⟩
    have p1_0 := pair_below (pair_alloc (pair_new _ al ah _) _) hb1
    have p1_1 := pair_below (pair_new _ bl bh _) hb1
    simp only [World.size_alloc] at p1_1
    have c1_0 := p1_0.1
    have d1_0 := p1_0.2.1
    have s1_0 := p1_0.2.2.2.2
    have c1_1 := p1_1.1
    have d1_1 := p1_1.2.1
    have s1_1 := p1_1.2.2.2.2
    go_wp2_with fail
    refine (rhull_yes _ _ _ _ _ h k).mono ?_
    rintro e w2 ⟨rfl, hb2⟩
    have p2_0 := pair_below (pair_alloc p1_0 _) hb2
    have p2_1 := pair_below (pair_alloc p1_1 _) hb2
    have p2_2 := pair_below (pair_new _ (Sp.mn al bl) (Sp.mx ah bh) _) hb2
    clear c1_0 d1_0 s1_0 c1_1 d1_1 s1_1 p1_0 p1_1
    have c2_0 := p2_0.1
    have d2_0 := p2_0.2.1
    have s2_0 := p2_0.2.2.2.2
    have c2_1 := p2_1.1
    have d2_1 := p2_1.2.1
    have s2_1 := p2_1.2.2.2.2
    have c2_2 := p2_2.1
    have d2_2 := p2_2.2.1
    have s2_2 := p2_2.2.2.2.2
    go_wp2_with fail
    refine (meet_gt _ _ _ _ _ h k b c).mono ?_
    rintro e w3 ⟨rfl, hb3⟩
    have p3_0 := pair_below (pair_alloc p2_0 _) hb3
    have p3_1 := pair_below (pair_alloc p2_1 _) hb3
    have p3_2 := pair_below (pair_alloc p2_2 _) hb3
    have p3_3 := pair_below (pair_new _ (Sp.mn al bl) (Sp.mx ah bh) _) hb3
    clear c2_0 d2_0 s2_0 c2_1 d2_1 s2_1 c2_2 d2_2 s2_2 p2_0 p2_1 p2_2
    have c3_0 := p3_0.1
    have d3_0 := p3_0.2.1
    have s3_0 := p3_0.2.2.2.2
    have c3_1 := p3_1.1
    have d3_1 := p3_1.2.1
    have s3_1 := p3_1.2.2.2.2
    have c3_2 := p3_2.1
    have d3_2 := p3_2.2.1
    have s3_2 := p3_2.2.2.2.2
    have c3_3 := p3_3.1
    have d3_3 := p3_3.2.1
    have s3_3 := p3_3.2.2.2.2
    go_wp2_with fail
    refine (rmeet_gt _ _ _ _ _ h k b c).mono ?_
    rintro e w4 ⟨rfl, hb4⟩
    have p4_0 := pair_below (pair_alloc p3_0 _) hb4
    have p4_1 := pair_below (pair_alloc p3_1 _) hb4
    have p4_2 := pair_below (pair_alloc p3_2 _) hb4
    have p4_3 := pair_below (pair_alloc p3_3 _) hb4
    have p4_4 := pair_below (pair_new _ 0 0 _) hb4
    clear c3_0 d3_0 s3_0 c3_1 d3_1 s3_1 c3_2 d3_2 s3_2 c3_3 d3_3 s3_3 p3_0 p3_1 p3_2 p3_3
    have c4_0 := p4_0.1
    have d4_0 := p4_0.2.1
    have s4_0 := p4_0.2.2.2.2
    have c4_1 := p4_1.1
    have d4_1 := p4_1.2.1
    have s4_1 := p4_1.2.2.2.2
    have c4_2 := p4_2.1
    have d4_2 := p4_2.2.1
    have s4_2 := p4_2.2.2.2.2
    have c4_3 := p4_3.1
    have d4_3 := p4_3.2.1
    have s4_3 := p4_3.2.2.2.2
    have c4_4 := p4_4.1
    have d4_4 := p4_4.2.1
    have s4_4 := p4_4.2.2.2.2
    go_wp2_with fail
    refine (within_out _ _ _ _ _ h k o).mono ?_
    rintro e w5 ⟨rfl, hb5⟩
    have p5_0 := pair_below (pair_alloc p4_0 _) hb5
    have p5_1 := pair_below (pair_alloc p4_1 _) hb5
    have p5_2 := pair_below (pair_alloc p4_2 _) hb5
    have p5_3 := pair_below (pair_alloc p4_3 _) hb5
    have p5_4 := pair_below (pair_alloc p4_4 _) hb5
    have p5_5 := pair_below (pair_new _ 0 0 _) hb5
    clear c4_0 d4_0 s4_0 c4_1 d4_1 s4_1 c4_2 d4_2 s4_2 c4_3 d4_3 s4_3 c4_4 d4_4 s4_4 p4_0 p4_1 p4_2 p4_3 p4_4
    have c5_0 := p5_0.1
    have d5_0 := p5_0.2.1
    have s5_0 := p5_0.2.2.2.2
    have c5_1 := p5_1.1
    have d5_1 := p5_1.2.1
    have s5_1 := p5_1.2.2.2.2
    have c5_2 := p5_2.1
    have d5_2 := p5_2.2.1
    have s5_2 := p5_2.2.2.2.2
    have c5_3 := p5_3.1
    have d5_3 := p5_3.2.1
    have s5_3 := p5_3.2.2.2.2
    have c5_4 := p5_4.1
    have d5_4 := p5_4.2.1
    have s5_4 := p5_4.2.2.2.2
    have c5_5 := p5_5.1
    have d5_5 := p5_5.2.1
    have s5_5 := p5_5.2.2.2.2
    go_wp2_with fail
    refine (rinside_out _ _ _ _ _ h k o).mono ?_
    rintro e w6 ⟨rfl, hb6⟩
    have p6_0 := pair_below p5_0 hb6
    have p6_1 := pair_below p5_1 hb6
    have p6_2 := pair_below p5_2 hb6
    have p6_3 := pair_below p5_3 hb6
    have p6_4 := pair_below p5_4 hb6
    have p6_5 := pair_below p5_5 hb6
    clear c5_0 d5_0 s5_0 c5_1 d5_1 s5_1 c5_2 d5_2 s5_2 c5_3 d5_3 s5_3 c5_4 d5_4 s5_4 c5_5 d5_5 s5_5 p5_0 p5_1 p5_2 p5_3 p5_4 p5_5
    have c6_0 := p6_0.1
    have d6_0 := p6_0.2.1
    have s6_0 := p6_0.2.2.2.2
    have c6_1 := p6_1.1
    have d6_1 := p6_1.2.1
    have s6_1 := p6_1.2.2.2.2
    have c6_2 := p6_2.1
    have d6_2 := p6_2.2.1
    have s6_2 := p6_2.2.2.2.2
    have c6_3 := p6_3.1
    have d6_3 := p6_3.2.1
    have s6_3 := p6_3.2.2.2.2
    have c6_4 := p6_4.1
    have d6_4 := p6_4.2.1
    have s6_4 := p6_4.2.2.2.2
    have c6_5 := p6_5.1
    have d6_5 := p6_5.2.1
    have s6_5 := p6_5.2.2.2.2
    go_wp2_with fail
    refine (compare_gt _ _ _ _ _ h k b c).mono ?_
    rintro e w7 ⟨rfl, hb7⟩
    have p7_0 := pair_below p6_0 hb7
    have p7_1 := pair_below p6_1 hb7
    have p7_2 := pair_below p6_2 hb7
    have p7_3 := pair_below p6_3 hb7
    have p7_4 := pair_below p6_4 hb7
    have p7_5 := pair_below p6_5 hb7
    clear c6_0 d6_0 s6_0 c6_1 d6_1 s6_1 c6_2 d6_2 s6_2 c6_3 d6_3 s6_3 c6_4 d6_4 s6_4 c6_5 d6_5 s6_5 p6_0 p6_1 p6_2 p6_3 p6_4 p6_5
    have c7_0 := p7_0.1
    have d7_0 := p7_0.2.1
    have s7_0 := p7_0.2.2.2.2
    have c7_1 := p7_1.1
    have d7_1 := p7_1.2.1
    have s7_1 := p7_1.2.2.2.2
    have c7_2 := p7_2.1
    have d7_2 := p7_2.2.1
    have s7_2 := p7_2.2.2.2.2
    have c7_3 := p7_3.1
    have d7_3 := p7_3.2.1
    have s7_3 := p7_3.2.2.2.2
    have c7_4 := p7_4.1
    have d7_4 := p7_4.2.1
    have s7_4 := p7_4.2.2.2.2
    have c7_5 := p7_5.1
    have d7_5 := p7_5.2.1
    have s7_5 := p7_5.2.2.2.2
    go_wp2_with fail
    refine (rcompare_gt _ _ _ _ _ h k b c).mono ?_
    rintro e w8 ⟨rfl, hb8⟩
    have p8_0 := pair_below p7_0 hb8
    have p8_1 := pair_below p7_1 hb8
    have p8_2 := pair_below p7_2 hb8
    have p8_3 := pair_below p7_3 hb8
    have p8_4 := pair_below p7_4 hb8
    have p8_5 := pair_below p7_5 hb8
    clear c7_0 d7_0 s7_0 c7_1 d7_1 s7_1 c7_2 d7_2 s7_2 c7_3 d7_3 s7_3 c7_4 d7_4 s7_4 c7_5 d7_5 s7_5 p7_0 p7_1 p7_2 p7_3 p7_4 p7_5
    have c8_0 := p8_0.1
    have d8_0 := p8_0.2.1
    have s8_0 := p8_0.2.2.2.2
    have c8_1 := p8_1.1
    have d8_1 := p8_1.2.1
    have s8_1 := p8_1.2.2.2.2
    have c8_2 := p8_2.1
    have d8_2 := p8_2.2.1
    have s8_2 := p8_2.2.2.2.2
    have c8_3 := p8_3.1
    have d8_3 := p8_3.2.1
    have s8_3 := p8_3.2.2.2.2
    have c8_4 := p8_4.1
    have d8_4 := p8_4.2.1
    have s8_4 := p8_4.2.2.2.2
    have c8_5 := p8_5.1
    have d8_5 := p8_5.2.1
    have s8_5 := p8_5.2.2.2.2
    go_wp2_with fail
    all_goals
      refine (known_any _).mono ?_
      rintro e w9 ⟨rfl, hb9⟩
      go_wp2
      go_ret
      exact ⟨rfl, by (repeat' (first | exact Below.refl _ _ | refine bstep ?_ hb1 | refine bstep ?_ hb2 | refine bstep ?_ hb3 | refine bstep ?_ hb4 | refine bstep ?_ hb5 | refine bstep ?_ hb6 | refine bstep ?_ hb7 | refine bstep ?_ hb8 | refine bstep ?_ hb9 | refine Below.setCell ?_ (by simp <;> omega) _ | refine balloc ?_ _ | refine Below.drew ?_))⟩
set_option maxHeartbeats 1600000 in
theorem meets_out (al ah bl bh : Int) (w : World) (h : Sp.vldB al ah = true) (k : Sp.vldB bl bh = true) (b : bl ≤ ah) (c : al ≤ bh) (o : ¬ (bl ≤ al ∧ ah ≤ bh)) :
    Calls Try.prog 12 #[spv al ah, spv bl bh] w fun e w' => e = .returned (.bool true) ∧ Below w.heap.size w w' := by
  have q : ¬ Sp.mn al bl = bl ∨ ¬ Sp.mx ah bh = bh := by rw [Sp.mn_eq, Sp.mx_eq]; omega
  have q2 : ¬ Sp.mx al bl = al ∨ ¬ Sp.mn ah bh = ah := by rw [Sp.mn_eq, Sp.mx_eq]; omega
  rcases q with q | q <;> rcases q2 with q2 | q2
  all_goals
    go_enter Try.func12, Try.ntmps12
    go_wp2_with fail
    refine (hull_yes _ _ _ _ _ h k).mono ?_
    rintro e w1 ⟨rfl, hb1⟩
    have p1_0 := pair_below (pair_alloc (pair_new _ al ah _) _) hb1
    have p1_1 := pair_below (pair_new _ bl bh _) hb1
    simp only [World.size_alloc] at p1_1
    have c1_0 := p1_0.1
    have d1_0 := p1_0.2.1
    have s1_0 := p1_0.2.2.2.2
    have c1_1 := p1_1.1
    have d1_1 := p1_1.2.1
    have s1_1 := p1_1.2.2.2.2
    go_wp2_with fail
    refine (rhull_yes _ _ _ _ _ h k).mono ?_
    rintro e w2 ⟨rfl, hb2⟩
    have p2_0 := pair_below (pair_alloc p1_0 _) hb2
    have p2_1 := pair_below (pair_alloc p1_1 _) hb2
    have p2_2 := pair_below (pair_new _ (Sp.mn al bl) (Sp.mx ah bh) _) hb2
    clear c1_0 d1_0 s1_0 c1_1 d1_1 s1_1 p1_0 p1_1
    have c2_0 := p2_0.1
    have d2_0 := p2_0.2.1
    have s2_0 := p2_0.2.2.2.2
    have c2_1 := p2_1.1
    have d2_1 := p2_1.2.1
    have s2_1 := p2_1.2.2.2.2
    have c2_2 := p2_2.1
    have d2_2 := p2_2.2.1
    have s2_2 := p2_2.2.2.2.2
    go_wp2_with fail
    refine (meet_yes _ _ _ _ _ h k b c).mono ?_
    rintro e w3 ⟨rfl, hb3⟩
    have p3_0 := pair_below (pair_alloc p2_0 _) hb3
    have p3_1 := pair_below (pair_alloc p2_1 _) hb3
    have p3_2 := pair_below (pair_alloc p2_2 _) hb3
    have p3_3 := pair_below (pair_new _ (Sp.mn al bl) (Sp.mx ah bh) _) hb3
    clear c2_0 d2_0 s2_0 c2_1 d2_1 s2_1 c2_2 d2_2 s2_2 p2_0 p2_1 p2_2
    have c3_0 := p3_0.1
    have d3_0 := p3_0.2.1
    have s3_0 := p3_0.2.2.2.2
    have c3_1 := p3_1.1
    have d3_1 := p3_1.2.1
    have s3_1 := p3_1.2.2.2.2
    have c3_2 := p3_2.1
    have d3_2 := p3_2.2.1
    have s3_2 := p3_2.2.2.2.2
    have c3_3 := p3_3.1
    have d3_3 := p3_3.2.1
    have s3_3 := p3_3.2.2.2.2
    go_wp2_with fail
    refine (rmeet_yes _ _ _ _ _ h k b c).mono ?_
    rintro e w4 ⟨rfl, hb4⟩
    have p4_0 := pair_below (pair_alloc p3_0 _) hb4
    have p4_1 := pair_below (pair_alloc p3_1 _) hb4
    have p4_2 := pair_below (pair_alloc p3_2 _) hb4
    have p4_3 := pair_below (pair_alloc p3_3 _) hb4
    have p4_4 := pair_below (pair_new _ (Sp.mx al bl) (Sp.mn ah bh) _) hb4
    clear c3_0 d3_0 s3_0 c3_1 d3_1 s3_1 c3_2 d3_2 s3_2 c3_3 d3_3 s3_3 p3_0 p3_1 p3_2 p3_3
    have c4_0 := p4_0.1
    have d4_0 := p4_0.2.1
    have s4_0 := p4_0.2.2.2.2
    have c4_1 := p4_1.1
    have d4_1 := p4_1.2.1
    have s4_1 := p4_1.2.2.2.2
    have c4_2 := p4_2.1
    have d4_2 := p4_2.2.1
    have s4_2 := p4_2.2.2.2.2
    have c4_3 := p4_3.1
    have d4_3 := p4_3.2.1
    have s4_3 := p4_3.2.2.2.2
    have c4_4 := p4_4.1
    have d4_4 := p4_4.2.1
    have s4_4 := p4_4.2.2.2.2
    go_wp2_with fail
    refine (within_out _ _ _ _ _ h k o).mono ?_
    rintro e w5 ⟨rfl, hb5⟩
    have p5_0 := pair_below (pair_alloc p4_0 _) hb5
    have p5_1 := pair_below (pair_alloc p4_1 _) hb5
    have p5_2 := pair_below (pair_alloc p4_2 _) hb5
    have p5_3 := pair_below (pair_alloc p4_3 _) hb5
    have p5_4 := pair_below (pair_alloc p4_4 _) hb5
    have p5_5 := pair_below (pair_new _ (Sp.mx al bl) (Sp.mn ah bh) _) hb5
    clear c4_0 d4_0 s4_0 c4_1 d4_1 s4_1 c4_2 d4_2 s4_2 c4_3 d4_3 s4_3 c4_4 d4_4 s4_4 p4_0 p4_1 p4_2 p4_3 p4_4
    have c5_0 := p5_0.1
    have d5_0 := p5_0.2.1
    have s5_0 := p5_0.2.2.2.2
    have c5_1 := p5_1.1
    have d5_1 := p5_1.2.1
    have s5_1 := p5_1.2.2.2.2
    have c5_2 := p5_2.1
    have d5_2 := p5_2.2.1
    have s5_2 := p5_2.2.2.2.2
    have c5_3 := p5_3.1
    have d5_3 := p5_3.2.1
    have s5_3 := p5_3.2.2.2.2
    have c5_4 := p5_4.1
    have d5_4 := p5_4.2.1
    have s5_4 := p5_4.2.2.2.2
    have c5_5 := p5_5.1
    have d5_5 := p5_5.2.1
    have s5_5 := p5_5.2.2.2.2
    go_wp2_with fail
    refine (rinside_out _ _ _ _ _ h k o).mono ?_
    rintro e w6 ⟨rfl, hb6⟩
    have p6_0 := pair_below p5_0 hb6
    have p6_1 := pair_below p5_1 hb6
    have p6_2 := pair_below p5_2 hb6
    have p6_3 := pair_below p5_3 hb6
    have p6_4 := pair_below p5_4 hb6
    have p6_5 := pair_below p5_5 hb6
    clear c5_0 d5_0 s5_0 c5_1 d5_1 s5_1 c5_2 d5_2 s5_2 c5_3 d5_3 s5_3 c5_4 d5_4 s5_4 c5_5 d5_5 s5_5 p5_0 p5_1 p5_2 p5_3 p5_4 p5_5
    have c6_0 := p6_0.1
    have d6_0 := p6_0.2.1
    have s6_0 := p6_0.2.2.2.2
    have c6_1 := p6_1.1
    have d6_1 := p6_1.2.1
    have s6_1 := p6_1.2.2.2.2
    have c6_2 := p6_2.1
    have d6_2 := p6_2.2.1
    have s6_2 := p6_2.2.2.2.2
    have c6_3 := p6_3.1
    have d6_3 := p6_3.2.1
    have s6_3 := p6_3.2.2.2.2
    have c6_4 := p6_4.1
    have d6_4 := p6_4.2.1
    have s6_4 := p6_4.2.2.2.2
    have c6_5 := p6_5.1
    have d6_5 := p6_5.2.1
    have s6_5 := p6_5.2.2.2.2
    go_wp2_with fail
    refine (compare_eq _ _ _ _ _ h k b c).mono ?_
    rintro e w7 ⟨rfl, hb7⟩
    have p7_0 := pair_below p6_0 hb7
    have p7_1 := pair_below p6_1 hb7
    have p7_2 := pair_below p6_2 hb7
    have p7_3 := pair_below p6_3 hb7
    have p7_4 := pair_below p6_4 hb7
    have p7_5 := pair_below p6_5 hb7
    clear c6_0 d6_0 s6_0 c6_1 d6_1 s6_1 c6_2 d6_2 s6_2 c6_3 d6_3 s6_3 c6_4 d6_4 s6_4 c6_5 d6_5 s6_5 p6_0 p6_1 p6_2 p6_3 p6_4 p6_5
    have c7_0 := p7_0.1
    have d7_0 := p7_0.2.1
    have s7_0 := p7_0.2.2.2.2
    have c7_1 := p7_1.1
    have d7_1 := p7_1.2.1
    have s7_1 := p7_1.2.2.2.2
    have c7_2 := p7_2.1
    have d7_2 := p7_2.2.1
    have s7_2 := p7_2.2.2.2.2
    have c7_3 := p7_3.1
    have d7_3 := p7_3.2.1
    have s7_3 := p7_3.2.2.2.2
    have c7_4 := p7_4.1
    have d7_4 := p7_4.2.1
    have s7_4 := p7_4.2.2.2.2
    have c7_5 := p7_5.1
    have d7_5 := p7_5.2.1
    have s7_5 := p7_5.2.2.2.2
    go_wp2_with fail
    refine (rcompare_eq _ _ _ _ _ h k b c).mono ?_
    rintro e w8 ⟨rfl, hb8⟩
    have p8_0 := pair_below p7_0 hb8
    have p8_1 := pair_below p7_1 hb8
    have p8_2 := pair_below p7_2 hb8
    have p8_3 := pair_below p7_3 hb8
    have p8_4 := pair_below p7_4 hb8
    have p8_5 := pair_below p7_5 hb8
    clear c7_0 d7_0 s7_0 c7_1 d7_1 s7_1 c7_2 d7_2 s7_2 c7_3 d7_3 s7_3 c7_4 d7_4 s7_4 c7_5 d7_5 s7_5 p7_0 p7_1 p7_2 p7_3 p7_4 p7_5
    have c8_0 := p8_0.1
    have d8_0 := p8_0.2.1
    have s8_0 := p8_0.2.2.2.2
    have c8_1 := p8_1.1
    have d8_1 := p8_1.2.1
    have s8_1 := p8_1.2.2.2.2
    have c8_2 := p8_2.1
    have d8_2 := p8_2.2.1
    have s8_2 := p8_2.2.2.2.2
    have c8_3 := p8_3.1
    have d8_3 := p8_3.2.1
    have s8_3 := p8_3.2.2.2.2
    have c8_4 := p8_4.1
    have d8_4 := p8_4.2.1
    have s8_4 := p8_4.2.2.2.2
    have c8_5 := p8_5.1
    have d8_5 := p8_5.2.1
    have s8_5 := p8_5.2.2.2.2
    go_wp2_with fail
    all_goals
      refine (known_any _).mono ?_
      rintro e w9 ⟨rfl, hb9⟩
      go_wp2
      go_ret
      exact ⟨rfl, by (repeat' (first | exact Below.refl _ _ | refine bstep ?_ hb1 | refine bstep ?_ hb2 | refine bstep ?_ hb3 | refine bstep ?_ hb4 | refine bstep ?_ hb5 | refine bstep ?_ hb6 | refine bstep ?_ hb7 | refine bstep ?_ hb8 | refine bstep ?_ hb9 | refine Below.setCell ?_ (by simp <;> omega) _ | refine balloc ?_ _ | refine Below.drew ?_))⟩
theorem meets_in (al ah bl bh : Int) (w : World) (h : Sp.vldB al ah = true) (k : Sp.vldB bl bh = true) (b : bl ≤ ah) (c : al ≤ bh) (o1 : bl ≤ al) (o2 : ah ≤ bh) :
    Calls Try.prog 12 #[spv al ah, spv bl bh] w fun e w' => e = .returned (.bool true) ∧ Below w.heap.size w w' := by
  have q1 : Sp.mn al bl = bl := by rw [Sp.mn_eq]; omega
  have q2 : Sp.mx ah bh = bh := by rw [Sp.mx_eq]; omega
  have q3 : Sp.mx al bl = al := by rw [Sp.mx_eq]; omega
  have q4 : Sp.mn ah bh = ah := by rw [Sp.mn_eq]; omega
  go_enter Try.func12, Try.ntmps12
  go_wp2_with fail
  refine (hull_yes _ _ _ _ _ h k).mono ?_
  rintro e w1 ⟨rfl, hb1⟩
  have p1_0 := pair_below (pair_alloc (pair_new _ al ah _) _) hb1
  have p1_1 := pair_below (pair_new _ bl bh _) hb1
  simp only [World.size_alloc] at p1_1
  have c1_0 := p1_0.1
  have d1_0 := p1_0.2.1
  have s1_0 := p1_0.2.2.2.2
  have c1_1 := p1_1.1
  have d1_1 := p1_1.2.1
  have s1_1 := p1_1.2.2.2.2
  go_wp2_with fail
  refine (rhull_yes _ _ _ _ _ h k).mono ?_
  rintro e w2 ⟨rfl, hb2⟩
  have p2_0 := pair_below (pair_alloc p1_0 _) hb2
  have p2_1 := pair_below (pair_alloc p1_1 _) hb2
  have p2_2 := pair_below (pair_new _ bl bh _) hb2
  clear c1_0 d1_0 s1_0 c1_1 d1_1 s1_1 p1_0 p1_1
  have c2_0 := p2_0.1
  have d2_0 := p2_0.2.1
  have s2_0 := p2_0.2.2.2.2
  have c2_1 := p2_1.1
  have d2_1 := p2_1.2.1
  have s2_1 := p2_1.2.2.2.2
  have c2_2 := p2_2.1
  have d2_2 := p2_2.2.1
  have s2_2 := p2_2.2.2.2.2
  go_wp2_with fail
  refine (meet_yes _ _ _ _ _ h k b c).mono ?_
  rintro e w3 ⟨rfl, hb3⟩
  have p3_0 := pair_below (pair_alloc p2_0 _) hb3
  have p3_1 := pair_below (pair_alloc p2_1 _) hb3
  have p3_2 := pair_below (pair_alloc p2_2 _) hb3
  have p3_3 := pair_below (pair_new _ bl bh _) hb3
  clear c2_0 d2_0 s2_0 c2_1 d2_1 s2_1 c2_2 d2_2 s2_2 p2_0 p2_1 p2_2
  have c3_0 := p3_0.1
  have d3_0 := p3_0.2.1
  have s3_0 := p3_0.2.2.2.2
  have c3_1 := p3_1.1
  have d3_1 := p3_1.2.1
  have s3_1 := p3_1.2.2.2.2
  have c3_2 := p3_2.1
  have d3_2 := p3_2.2.1
  have s3_2 := p3_2.2.2.2.2
  have c3_3 := p3_3.1
  have d3_3 := p3_3.2.1
  have s3_3 := p3_3.2.2.2.2
  go_wp2_with fail
  refine (rmeet_yes _ _ _ _ _ h k b c).mono ?_
  rintro e w4 ⟨rfl, hb4⟩
  have p4_0 := pair_below (pair_alloc p3_0 _) hb4
  have p4_1 := pair_below (pair_alloc p3_1 _) hb4
  have p4_2 := pair_below (pair_alloc p3_2 _) hb4
  have p4_3 := pair_below (pair_alloc p3_3 _) hb4
  have p4_4 := pair_below (pair_new _ al ah _) hb4
  clear c3_0 d3_0 s3_0 c3_1 d3_1 s3_1 c3_2 d3_2 s3_2 c3_3 d3_3 s3_3 p3_0 p3_1 p3_2 p3_3
  have c4_0 := p4_0.1
  have d4_0 := p4_0.2.1
  have s4_0 := p4_0.2.2.2.2
  have c4_1 := p4_1.1
  have d4_1 := p4_1.2.1
  have s4_1 := p4_1.2.2.2.2
  have c4_2 := p4_2.1
  have d4_2 := p4_2.2.1
  have s4_2 := p4_2.2.2.2.2
  have c4_3 := p4_3.1
  have d4_3 := p4_3.2.1
  have s4_3 := p4_3.2.2.2.2
  have c4_4 := p4_4.1
  have d4_4 := p4_4.2.1
  have s4_4 := p4_4.2.2.2.2
  go_wp2_with fail
  refine (within_in _ _ _ _ _ h k o1 o2).mono ?_
  rintro e w5 ⟨rfl, hb5⟩
  have p5_0 := pair_below (pair_alloc p4_0 _) hb5
  have p5_1 := pair_below (pair_alloc p4_1 _) hb5
  have p5_2 := pair_below (pair_alloc p4_2 _) hb5
  have p5_3 := pair_below (pair_alloc p4_3 _) hb5
  have p5_4 := pair_below (pair_alloc p4_4 _) hb5
  have p5_5 := pair_below (pair_new _ al ah _) hb5
  clear c4_0 d4_0 s4_0 c4_1 d4_1 s4_1 c4_2 d4_2 s4_2 c4_3 d4_3 s4_3 c4_4 d4_4 s4_4 p4_0 p4_1 p4_2 p4_3 p4_4
  have c5_0 := p5_0.1
  have d5_0 := p5_0.2.1
  have s5_0 := p5_0.2.2.2.2
  have c5_1 := p5_1.1
  have d5_1 := p5_1.2.1
  have s5_1 := p5_1.2.2.2.2
  have c5_2 := p5_2.1
  have d5_2 := p5_2.2.1
  have s5_2 := p5_2.2.2.2.2
  have c5_3 := p5_3.1
  have d5_3 := p5_3.2.1
  have s5_3 := p5_3.2.2.2.2
  have c5_4 := p5_4.1
  have d5_4 := p5_4.2.1
  have s5_4 := p5_4.2.2.2.2
  have c5_5 := p5_5.1
  have d5_5 := p5_5.2.1
  have s5_5 := p5_5.2.2.2.2
  go_wp2_with fail
  refine (rinside_in _ _ _ _ _ h k o1 o2).mono ?_
  rintro e w6 ⟨rfl, hb6⟩
  have p6_0 := pair_below p5_0 hb6
  have p6_1 := pair_below p5_1 hb6
  have p6_2 := pair_below p5_2 hb6
  have p6_3 := pair_below p5_3 hb6
  have p6_4 := pair_below p5_4 hb6
  have p6_5 := pair_below p5_5 hb6
  clear c5_0 d5_0 s5_0 c5_1 d5_1 s5_1 c5_2 d5_2 s5_2 c5_3 d5_3 s5_3 c5_4 d5_4 s5_4 c5_5 d5_5 s5_5 p5_0 p5_1 p5_2 p5_3 p5_4 p5_5
  have c6_0 := p6_0.1
  have d6_0 := p6_0.2.1
  have s6_0 := p6_0.2.2.2.2
  have c6_1 := p6_1.1
  have d6_1 := p6_1.2.1
  have s6_1 := p6_1.2.2.2.2
  have c6_2 := p6_2.1
  have d6_2 := p6_2.2.1
  have s6_2 := p6_2.2.2.2.2
  have c6_3 := p6_3.1
  have d6_3 := p6_3.2.1
  have s6_3 := p6_3.2.2.2.2
  have c6_4 := p6_4.1
  have d6_4 := p6_4.2.1
  have s6_4 := p6_4.2.2.2.2
  have c6_5 := p6_5.1
  have d6_5 := p6_5.2.1
  have s6_5 := p6_5.2.2.2.2
  go_wp2_with fail
  refine (compare_eq _ _ _ _ _ h k b c).mono ?_
  rintro e w7 ⟨rfl, hb7⟩
  have p7_0 := pair_below p6_0 hb7
  have p7_1 := pair_below p6_1 hb7
  have p7_2 := pair_below p6_2 hb7
  have p7_3 := pair_below p6_3 hb7
  have p7_4 := pair_below p6_4 hb7
  have p7_5 := pair_below p6_5 hb7
  clear c6_0 d6_0 s6_0 c6_1 d6_1 s6_1 c6_2 d6_2 s6_2 c6_3 d6_3 s6_3 c6_4 d6_4 s6_4 c6_5 d6_5 s6_5 p6_0 p6_1 p6_2 p6_3 p6_4 p6_5
  have c7_0 := p7_0.1
  have d7_0 := p7_0.2.1
  have s7_0 := p7_0.2.2.2.2
  have c7_1 := p7_1.1
  have d7_1 := p7_1.2.1
  have s7_1 := p7_1.2.2.2.2
  have c7_2 := p7_2.1
  have d7_2 := p7_2.2.1
  have s7_2 := p7_2.2.2.2.2
  have c7_3 := p7_3.1
  have d7_3 := p7_3.2.1
  have s7_3 := p7_3.2.2.2.2
  have c7_4 := p7_4.1
  have d7_4 := p7_4.2.1
  have s7_4 := p7_4.2.2.2.2
  have c7_5 := p7_5.1
  have d7_5 := p7_5.2.1
  have s7_5 := p7_5.2.2.2.2
  go_wp2_with fail
  refine (rcompare_eq _ _ _ _ _ h k b c).mono ?_
  rintro e w8 ⟨rfl, hb8⟩
  have p8_0 := pair_below p7_0 hb8
  have p8_1 := pair_below p7_1 hb8
  have p8_2 := pair_below p7_2 hb8
  have p8_3 := pair_below p7_3 hb8
  have p8_4 := pair_below p7_4 hb8
  have p8_5 := pair_below p7_5 hb8
  clear c7_0 d7_0 s7_0 c7_1 d7_1 s7_1 c7_2 d7_2 s7_2 c7_3 d7_3 s7_3 c7_4 d7_4 s7_4 c7_5 d7_5 s7_5 p7_0 p7_1 p7_2 p7_3 p7_4 p7_5
  have c8_0 := p8_0.1
  have d8_0 := p8_0.2.1
  have s8_0 := p8_0.2.2.2.2
  have c8_1 := p8_1.1
  have d8_1 := p8_1.2.1
  have s8_1 := p8_1.2.2.2.2
  have c8_2 := p8_2.1
  have d8_2 := p8_2.2.1
  have s8_2 := p8_2.2.2.2.2
  have c8_3 := p8_3.1
  have d8_3 := p8_3.2.1
  have s8_3 := p8_3.2.2.2.2
  have c8_4 := p8_4.1
  have d8_4 := p8_4.2.1
  have s8_4 := p8_4.2.2.2.2
  have c8_5 := p8_5.1
  have d8_5 := p8_5.2.1
  have s8_5 := p8_5.2.2.2.2
  go_wp2_with fail
  all_goals
    refine (known_any _).mono ?_
    rintro e w9 ⟨rfl, hb9⟩
    go_wp2
    go_ret
    exact ⟨rfl, by (repeat' (first | exact Below.refl _ _ | refine bstep ?_ hb1 | refine bstep ?_ hb2 | refine bstep ?_ hb3 | refine bstep ?_ hb4 | refine bstep ?_ hb5 | refine bstep ?_ hb6 | refine bstep ?_ hb7 | refine bstep ?_ hb8 | refine bstep ?_ hb9 | refine Below.setCell ?_ (by simp <;> omega) _ | refine balloc ?_ _ | refine Below.drew ?_))⟩
theorem meets_walk (al ah bl bh : Int) (w : World) :
    Calls Try.prog 12 #[spv al ah, spv bl bh] w fun e w' => e = .returned (.bool true) ∧ Below w.heap.size w w' := by
  cases h : Sp.vldB al ah
  · exact meets_no1 _ _ _ _ _ h
  cases k : Sp.vldB bl bh
  · exact meets_no2 _ _ _ _ _ h k
  rcases Int.lt_or_le ah bl with c | c
  · exact meets_lt _ _ _ _ _ h k c
  rcases Int.lt_or_le bh al with b | b
  · exact meets_gt _ _ _ _ _ h k c b
  by_cases o : bl ≤ al ∧ ah ≤ bh
  · exact meets_in _ _ _ _ _ h k c b o.1 o.2
  · exact meets_out _ _ _ _ _ h k c b o

end Go.Proofs.Ythmlhpjhoolflaa
