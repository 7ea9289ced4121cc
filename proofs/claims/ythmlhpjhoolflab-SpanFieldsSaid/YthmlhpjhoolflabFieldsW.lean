/-
  The law SpanFields: for every input it answers true.
-/
import Derived.Test.YthmlhpjhoolflabKnown
import Derived.Test.YthmlhpjhoolflabArith
import Derived.Test.YthmlhpjhoolflabNumDiv
namespace Go.Proofs.Ythmlhpjhoolflab
open Go.ChangeShapes Go.WideShapes Go.RowKit
theorem mulD_add (x y z : Int) : Sp.mulD x y + Sp.mulD x z ≤ Sp.mulD x (y + z) := by
  have a := Sp.mulD_le x y
  have b := Sp.mulD_le x z
  have e : x * (y + z) = x * y + x * z := Int.mul_add _ _ _
  unfold Sp.mulD at *
  rw [Sp.fl_pos (by decide), Sp.fl_pos (by decide), Sp.fl_pos (by decide)] at *
  rw [e]; omega
theorem mulU_add (x y z : Int) : Sp.mulU x (y + z) ≤ Sp.mulU x y + Sp.mulU x z := by
  have := mulD_add (-x) y z
  rw [Sp.mulU_neg, Sp.mulU_neg, Sp.mulU_neg]; omega
theorem mn4_ge' {m x y z u : Int} (h1 : m ≤ x) (h2 : m ≤ y) (h3 : m ≤ z) (h4 : m ≤ u) : m ≤ Sp.mn4 x y z u := by
  unfold Sp.mn4; simp only [Sp.mn_eq]; omega
theorem mx4_le' {m x y z u : Int} (h1 : x ≤ m) (h2 : y ≤ m) (h3 : z ≤ m) (h4 : u ≤ m) : Sp.mx4 x y z u ≤ m := by
  unfold Sp.mx4; simp only [Sp.mx_eq]; omega
/-- a product that is right -/
theorem mulR_ok {al ah bl bh : Int} (h : (Sp.mulR al ah bl bh).2 = 0) : Sp.mulR al ah bl bh = ((Sp.mn4 (Sp.mulD al bl) (Sp.mulD al bh) (Sp.mulD ah bl) (Sp.mulD ah bh), Sp.mx4 (Sp.mulU al bl) (Sp.mulU al bh) (Sp.mulU ah bl) (Sp.mulU ah bh)), 0) := by
  unfold Sp.mulR at *
  split at h
  · rename_i v
    rw [if_pos v]
    unfold Sp.told at *
    split at h
    · rename_i u; rw [if_pos u]
    · exact absurd h (by decide)
  · exact absurd h (by decide)
theorem addR_ok {al ah bl bh : Int} (h : (Sp.addR al ah bl bh).2 = 0) : Sp.addR al ah bl bh = ((al + bl, ah + bh), 0) := by
  unfold Sp.addR at *
  split at h
  · rename_i v
    rw [if_pos v]
    unfold Sp.told at *
    split at h
    · rename_i u; rw [if_pos u]
    · exact absurd h (by decide)
  · exact absurd h (by decide)
theorem fields_in {al ah bl bh cl ch : Int} (e : (Sp.addR bl bh cl ch).2 = 0) (f : (Sp.mulR al ah (Sp.addR bl bh cl ch).1.1 (Sp.addR bl bh cl ch).1.2).2 = 0) (g : (Sp.mulR al ah bl bh).2 = 0) (h : (Sp.mulR al ah cl ch).2 = 0) (k : (Sp.addR (Sp.mulR al ah bl bh).1.1 (Sp.mulR al ah bl bh).1.2 (Sp.mulR al ah cl ch).1.1 (Sp.mulR al ah cl ch).1.2).2 = 0) : (Sp.addR (Sp.mulR al ah bl bh).1.1 (Sp.mulR al ah bl bh).1.2 (Sp.mulR al ah cl ch).1.1 (Sp.mulR al ah cl ch).1.2).1.1 ≤ (Sp.mulR al ah (Sp.addR bl bh cl ch).1.1 (Sp.addR bl bh cl ch).1.2).1.1 ∧ (Sp.mulR al ah (Sp.addR bl bh cl ch).1.1 (Sp.addR bl bh cl ch).1.2).1.2 ≤ (Sp.addR (Sp.mulR al ah bl bh).1.1 (Sp.mulR al ah bl bh).1.2 (Sp.mulR al ah cl ch).1.1 (Sp.mulR al ah cl ch).1.2).1.2 := by
  rw [mulR_ok f, addR_ok k, mulR_ok g, mulR_ok h, addR_ok e]
  dsimp only
  have l1 := Sp.mn4_le (Sp.mulD al bl) (Sp.mulD al bh) (Sp.mulD ah bl) (Sp.mulD ah bh)
  have l2 := Sp.mn4_le (Sp.mulD al cl) (Sp.mulD al ch) (Sp.mulD ah cl) (Sp.mulD ah ch)
  have g1 := Sp.mx4_ge (Sp.mulU al bl) (Sp.mulU al bh) (Sp.mulU ah bl) (Sp.mulU ah bh)
  have g2 := Sp.mx4_ge (Sp.mulU al cl) (Sp.mulU al ch) (Sp.mulU ah cl) (Sp.mulU ah ch)
  have a1 := mulD_add al bl cl
  have a2 := mulD_add al bh ch
  have a3 := mulD_add ah bl cl
  have a4 := mulD_add ah bh ch
  have b1 := mulU_add al bl cl
  have b2 := mulU_add al bh ch
  have b3 := mulU_add ah bl cl
  have b4 := mulU_add ah bh ch
  exact ⟨mn4_ge' (by omega) (by omega) (by omega) (by omega), mx4_le' (by omega) (by omega) (by omega) (by omega)⟩
theorem encl_true (a b e c d : Int) (w : World) (h : e = 0 → a ≤ c ∧ d ≤ b) :
    Calls Try.prog 8 #[spv a b, .int .i64 e, spv c d] w fun e w' => e = .returned (.bool true) ∧ Below w.heap.size w w' := by
  by_cases k : e = 0
  · subst k; exact encl_yes _ _ _ _ _ (h rfl).1 (h rfl).2
  · exact encl_err _ _ _ _ _ _ k
theorem fields_0 (al ah bl bh cl ch : Int) (w : World) (zb : (Sp.addR bl bh cl ch).2 ≠ 0) :
    Calls Try.prog 3 #[spv al ah, spv bl bh, spv cl ch] w fun e w' => e = .returned (.bool true) ∧ Below w.heap.size w w' := by
  have yb : ((Sp.addR bl bh cl ch).2 != 0) = true := bne_iff_ne.2 zb
  clear zb
  go_enter Try.func3, Try.ntmps3
  go_wp2_with fail
  refine (add_any _ _ _ _ _).mono ?_
  rintro e w1 ⟨rfl, hb1⟩
  have p1_0 := pair_below (pair_alloc (pair_alloc (pair_new _ al ah _) _) _) hb1
  have p1_1 := pair_below (pair_alloc (pair_new _ bl bh _) _) hb1
  simp only [World.size_alloc] at p1_1
  have p1_2 := pair_below (pair_new _ cl ch _) hb1
  simp only [World.size_alloc] at p1_2
  have c1_0 := p1_0.1
  have d1_0 := p1_0.2.1
  have s1_0 := p1_0.2.2.2.2
  have c1_1 := p1_1.1
  have d1_1 := p1_1.2.1
  have s1_1 := p1_1.2.2.2.2
  have c1_2 := p1_2.1
  have d1_2 := p1_2.2.1
  have s1_2 := p1_2.2.2.2.2
  go_wp2_with fail
  refine (mul_any _ _ _ _ _).mono ?_
  rintro e w2 ⟨rfl, hb2⟩
  have p2_0 := pair_below (pair_alloc p1_0 _) hb2
  have p2_1 := pair_below (pair_alloc p1_1 _) hb2
  have p2_2 := pair_below (pair_alloc p1_2 _) hb2
  have p2_3 := pair_below (pair_new _ (Sp.addR bl bh cl ch).1.1 (Sp.addR bl bh cl ch).1.2 _) hb2
  clear c1_0 d1_0 s1_0 c1_1 d1_1 s1_1 c1_2 d1_2 s1_2 p1_0 p1_1 p1_2
  have c2_0 := p2_0.1
  have d2_0 := p2_0.2.1
  have s2_0 := p2_0.2.2.2.2
  have c2_1 := p2_1.1
  have d2_1 := p2_1.2.1
  have s2_1 := p2_1.2.2.2.2
  have c2_2 := p2_2.1
  have d2_2 := p2_2.2.1
  have s2_2 := p2_2.2.2.2.2
  have c2_3 := p2_3.1
  have d2_3 := p2_3.2.1
  have s2_3 := p2_3.2.2.2.2
  go_wp2_with fail
  refine (mul_any _ _ _ _ _).mono ?_
  rintro e w3 ⟨rfl, hb3⟩
  have p3_0 := pair_below (pair_alloc p2_0 _) hb3
  have p3_1 := pair_below (pair_alloc p2_1 _) hb3
  have p3_2 := pair_below (pair_alloc p2_2 _) hb3
  have p3_3 := pair_below (pair_alloc p2_3 _) hb3
  have p3_4 := pair_below (pair_new _ (Sp.mulR al ah (Sp.addR bl bh cl ch).1.1 (Sp.addR bl bh cl ch).1.2).1.1 (Sp.mulR al ah (Sp.addR bl bh cl ch).1.1 (Sp.addR bl bh cl ch).1.2).1.2 _) hb3
  clear c2_0 d2_0 s2_0 c2_1 d2_1 s2_1 c2_2 d2_2 s2_2 c2_3 d2_3 s2_3 p2_0 p2_1 p2_2 p2_3
  have c3_0 := p3_0.1
  have d3_0 := p3_0.2.1
  have s3_0 := p3_0.2.2.2.2
  have c3_1 := p3_1.1
  have d3_1 := p3_1.2.1
  have s3_1 := p3_1.2.2.2.2
  have c3_2 := p3_2.1
  have d3_2 := p3_2.2.1
  have s3_2 := p3_2.2.2.2.2
  have c3_3 := p3_3.1
  have d3_3 := p3_3.2.1
  have s3_3 := p3_3.2.2.2.2
  have c3_4 := p3_4.1
  have d3_4 := p3_4.2.1
  have s3_4 := p3_4.2.2.2.2
  go_wp2_with fail
  refine (mul_any _ _ _ _ _).mono ?_
  rintro e w4 ⟨rfl, hb4⟩
  have p4_0 := pair_below (pair_alloc p3_0 _) hb4
  have p4_1 := pair_below (pair_alloc p3_1 _) hb4
  have p4_2 := pair_below (pair_alloc p3_2 _) hb4
  have p4_3 := pair_below (pair_alloc p3_3 _) hb4
  have p4_4 := pair_below (pair_alloc p3_4 _) hb4
  have p4_5 := pair_below (pair_new _ (Sp.mulR al ah bl bh).1.1 (Sp.mulR al ah bl bh).1.2 _) hb4
  clear c3_0 d3_0 s3_0 c3_1 d3_1 s3_1 c3_2 d3_2 s3_2 c3_3 d3_3 s3_3 c3_4 d3_4 s3_4 p3_0 p3_1 p3_2 p3_3 p3_4
  have c4_0 := p4_0.1
  have d4_0 := p4_0.2.1
  have s4_0 := p4_0.2.2.2.2
  have c4_1 := p4_1.1
  have d4_1 := p4_1.2.1
  have s4_1 := p4_1.2.2.2.2
  have c4_2 := p4_2.1
  have d4_2 := p4_2.2.1
  have s4_2 := p4_2.2.2.2.2
  have c4_3 := p4_3.1
  have d4_3 := p4_3.2.1
  have s4_3 := p4_3.2.2.2.2
  have c4_4 := p4_4.1
  have d4_4 := p4_4.2.1
  have s4_4 := p4_4.2.2.2.2
  have c4_5 := p4_5.1
  have d4_5 := p4_5.2.1
  have s4_5 := p4_5.2.2.2.2
  go_wp2_with fail
  refine (add_any _ _ _ _ _).mono ?_
  rintro e w5 ⟨rfl, hb5⟩
  have p5_0 := pair_below (pair_alloc p4_0 _) hb5
  have p5_1 := pair_below (pair_alloc p4_1 _) hb5
  have p5_2 := pair_below (pair_alloc p4_2 _) hb5
  have p5_3 := pair_below (pair_alloc p4_3 _) hb5
  have p5_4 := pair_below (pair_alloc p4_4 _) hb5
  have p5_5 := pair_below (pair_alloc p4_5 _) hb5
  have p5_6 := pair_below (pair_new _ (Sp.mulR al ah cl ch).1.1 (Sp.mulR al ah cl ch).1.2 _) hb5
  clear c4_0 d4_0 s4_0 c4_1 d4_1 s4_1 c4_2 d4_2 s4_2 c4_3 d4_3 s4_3 c4_4 d4_4 s4_4 c4_5 d4_5 s4_5 p4_0 p4_1 p4_2 p4_3 p4_4 p4_5
  have c5_0 := p5_0.1
  have d5_0 := p5_0.2.1
  have s5_0 := p5_0.2.2.2.2
  have c5_1 := p5_1.1
  have d5_1 := p5_1.2.1
  have s5_1 := p5_1.2.2.2.2
  have c5_2 := p5_2.1
  have d5_2 := p5_2.2.1
  have s5_2 := p5_2.2.2.2.2
  have c5_3 := p5_3.1
  have d5_3 := p5_3.2.1
  have s5_3 := p5_3.2.2.2.2
  have c5_4 := p5_4.1
  have d5_4 := p5_4.2.1
  have s5_4 := p5_4.2.2.2.2
  have c5_5 := p5_5.1
  have d5_5 := p5_5.2.1
  have s5_5 := p5_5.2.2.2.2
  have c5_6 := p5_6.1
  have d5_6 := p5_6.2.1
  have s5_6 := p5_6.2.2.2.2
  go_wp2_with fail
  refine (known_any _).mono ?_
  rintro e w6 ⟨rfl, hb6⟩
  have p6_0 := pair_below (pair_alloc p5_0 _) hb6
  have p6_1 := pair_below (pair_alloc p5_1 _) hb6
  have p6_2 := pair_below (pair_alloc p5_2 _) hb6
  have p6_3 := pair_below (pair_alloc p5_3 _) hb6
  have p6_4 := pair_below (pair_alloc p5_4 _) hb6
  have p6_5 := pair_below (pair_alloc p5_5 _) hb6
  have p6_6 := pair_below (pair_alloc p5_6 _) hb6
  have p6_7 := pair_below (pair_new _ (Sp.addR (Sp.mulR al ah bl bh).1.1 (Sp.mulR al ah bl bh).1.2 (Sp.mulR al ah cl ch).1.1 (Sp.mulR al ah cl ch).1.2).1.1 (Sp.addR (Sp.mulR al ah bl bh).1.1 (Sp.mulR al ah bl bh).1.2 (Sp.mulR al ah cl ch).1.1 (Sp.mulR al ah cl ch).1.2).1.2 _) hb6
  clear c5_0 d5_0 s5_0 c5_1 d5_1 s5_1 c5_2 d5_2 s5_2 c5_3 d5_3 s5_3 c5_4 d5_4 s5_4 c5_5 d5_5 s5_5 c5_6 d5_6 s5_6 p5_0 p5_1 p5_2 p5_3 p5_4 p5_5 p5_6
  have c6_0 := p6_0.1
  have d6_0 := p6_0.2.1
  have s6_0 := p6_0.2.2.2.2
  have c6_1 := p6_1.1
  have d6_1 := p6_1.2.1
  have s6_1 := p6_1.2.2.2.2
  have c6_2 := p6_2.1
  have d6_2 := p6_2.2.1
  have s6_2 := p6_2.2.2.2.2
  have c6_3 := p6_3.1
  have d6_3 := p6_3.2.1
  have s6_3 := p6_3.2.2.2.2
  have c6_4 := p6_4.1
  have d6_4 := p6_4.2.1
  have s6_4 := p6_4.2.2.2.2
  have c6_5 := p6_5.1
  have d6_5 := p6_5.2.1
  have s6_5 := p6_5.2.2.2.2
  have c6_6 := p6_6.1
  have d6_6 := p6_6.2.1
  have s6_6 := p6_6.2.2.2.2
  have c6_7 := p6_7.1
  have d6_7 := p6_7.2.1
  have s6_7 := p6_7.2.2.2.2
  go_wp2
  go_ret
  exact ⟨rfl, by (repeat' (first | exact Below.refl _ _ | refine bstep ?_ hb1 | refine bstep ?_ hb2 | refine bstep ?_ hb3 | refine bstep ?_ hb4 | refine bstep ?_ hb5 | refine bstep ?_ hb6 | refine Below.setCell ?_ (by simp <;> omega) _ | refine balloc ?_ _ | refine Below.drew ?_ | refine bdrewN ?_ _))⟩
theorem fields_1 (al ah bl bh cl ch : Int) (w : World) (z0 : (Sp.addR bl bh cl ch).2 = 0) (zb : (Sp.mulR al ah (Sp.addR bl bh cl ch).1.1 (Sp.addR bl bh cl ch).1.2).2 ≠ 0) :
    Calls Try.prog 3 #[spv al ah, spv bl bh, spv cl ch] w fun e w' => e = .returned (.bool true) ∧ Below w.heap.size w w' := by
  have y0 : ((Sp.addR bl bh cl ch).2 != 0) = false := by rw [z0]; rfl
  have yb : ((Sp.mulR al ah (Sp.addR bl bh cl ch).1.1 (Sp.addR bl bh cl ch).1.2).2 != 0) = true := bne_iff_ne.2 zb
  clear z0 zb
  go_enter Try.func3, Try.ntmps3
  go_wp2_with fail
  refine (add_any _ _ _ _ _).mono ?_
  rintro e w1 ⟨rfl, hb1⟩
  have p1_0 := pair_below (pair_alloc (pair_alloc (pair_new _ al ah _) _) _) hb1
  have p1_1 := pair_below (pair_alloc (pair_new _ bl bh _) _) hb1
  simp only [World.size_alloc] at p1_1
  have p1_2 := pair_below (pair_new _ cl ch _) hb1
  simp only [World.size_alloc] at p1_2
  have c1_0 := p1_0.1
  have d1_0 := p1_0.2.1
  have s1_0 := p1_0.2.2.2.2
  have c1_1 := p1_1.1
  have d1_1 := p1_1.2.1
  have s1_1 := p1_1.2.2.2.2
  have c1_2 := p1_2.1
  have d1_2 := p1_2.2.1
  have s1_2 := p1_2.2.2.2.2
  go_wp2_with fail
  refine (mul_any _ _ _ _ _).mono ?_
  rintro e w2 ⟨rfl, hb2⟩
  have p2_0 := pair_below (pair_alloc p1_0 _) hb2
  have p2_1 := pair_below (pair_alloc p1_1 _) hb2
  have p2_2 := pair_below (pair_alloc p1_2 _) hb2
  have p2_3 := pair_below (pair_new _ (Sp.addR bl bh cl ch).1.1 (Sp.addR bl bh cl ch).1.2 _) hb2
  clear c1_0 d1_0 s1_0 c1_1 d1_1 s1_1 c1_2 d1_2 s1_2 p1_0 p1_1 p1_2
  have c2_0 := p2_0.1
  have d2_0 := p2_0.2.1
  have s2_0 := p2_0.2.2.2.2
  have c2_1 := p2_1.1
  have d2_1 := p2_1.2.1
  have s2_1 := p2_1.2.2.2.2
  have c2_2 := p2_2.1
  have d2_2 := p2_2.2.1
  have s2_2 := p2_2.2.2.2.2
  have c2_3 := p2_3.1
  have d2_3 := p2_3.2.1
  have s2_3 := p2_3.2.2.2.2
  go_wp2_with fail
  refine (mul_any _ _ _ _ _).mono ?_
  rintro e w3 ⟨rfl, hb3⟩
  have p3_0 := pair_below (pair_alloc p2_0 _) hb3
  have p3_1 := pair_below (pair_alloc p2_1 _) hb3
  have p3_2 := pair_below (pair_alloc p2_2 _) hb3
  have p3_3 := pair_below (pair_alloc p2_3 _) hb3
  have p3_4 := pair_below (pair_new _ (Sp.mulR al ah (Sp.addR bl bh cl ch).1.1 (Sp.addR bl bh cl ch).1.2).1.1 (Sp.mulR al ah (Sp.addR bl bh cl ch).1.1 (Sp.addR bl bh cl ch).1.2).1.2 _) hb3
  clear c2_0 d2_0 s2_0 c2_1 d2_1 s2_1 c2_2 d2_2 s2_2 c2_3 d2_3 s2_3 p2_0 p2_1 p2_2 p2_3
  have c3_0 := p3_0.1
  have d3_0 := p3_0.2.1
  have s3_0 := p3_0.2.2.2.2
  have c3_1 := p3_1.1
  have d3_1 := p3_1.2.1
  have s3_1 := p3_1.2.2.2.2
  have c3_2 := p3_2.1
  have d3_2 := p3_2.2.1
  have s3_2 := p3_2.2.2.2.2
  have c3_3 := p3_3.1
  have d3_3 := p3_3.2.1
  have s3_3 := p3_3.2.2.2.2
  have c3_4 := p3_4.1
  have d3_4 := p3_4.2.1
  have s3_4 := p3_4.2.2.2.2
  go_wp2_with fail
  refine (mul_any _ _ _ _ _).mono ?_
  rintro e w4 ⟨rfl, hb4⟩
  have p4_0 := pair_below (pair_alloc p3_0 _) hb4
  have p4_1 := pair_below (pair_alloc p3_1 _) hb4
  have p4_2 := pair_below (pair_alloc p3_2 _) hb4
  have p4_3 := pair_below (pair_alloc p3_3 _) hb4
  have p4_4 := pair_below (pair_alloc p3_4 _) hb4
  have p4_5 := pair_below (pair_new _ (Sp.mulR al ah bl bh).1.1 (Sp.mulR al ah bl bh).1.2 _) hb4
  clear c3_0 d3_0 s3_0 c3_1 d3_1 s3_1 c3_2 d3_2 s3_2 c3_3 d3_3 s3_3 c3_4 d3_4 s3_4 p3_0 p3_1 p3_2 p3_3 p3_4
  have c4_0 := p4_0.1
  have d4_0 := p4_0.2.1
  have s4_0 := p4_0.2.2.2.2
  have c4_1 := p4_1.1
  have d4_1 := p4_1.2.1
  have s4_1 := p4_1.2.2.2.2
  have c4_2 := p4_2.1
  have d4_2 := p4_2.2.1
  have s4_2 := p4_2.2.2.2.2
  have c4_3 := p4_3.1
  have d4_3 := p4_3.2.1
  have s4_3 := p4_3.2.2.2.2
  have c4_4 := p4_4.1
  have d4_4 := p4_4.2.1
  have s4_4 := p4_4.2.2.2.2
  have c4_5 := p4_5.1
  have d4_5 := p4_5.2.1
  have s4_5 := p4_5.2.2.2.2
  go_wp2_with fail
  refine (add_any _ _ _ _ _).mono ?_
  rintro e w5 ⟨rfl, hb5⟩
  have p5_0 := pair_below (pair_alloc p4_0 _) hb5
  have p5_1 := pair_below (pair_alloc p4_1 _) hb5
  have p5_2 := pair_below (pair_alloc p4_2 _) hb5
  have p5_3 := pair_below (pair_alloc p4_3 _) hb5
  have p5_4 := pair_below (pair_alloc p4_4 _) hb5
  have p5_5 := pair_below (pair_alloc p4_5 _) hb5
  have p5_6 := pair_below (pair_new _ (Sp.mulR al ah cl ch).1.1 (Sp.mulR al ah cl ch).1.2 _) hb5
  clear c4_0 d4_0 s4_0 c4_1 d4_1 s4_1 c4_2 d4_2 s4_2 c4_3 d4_3 s4_3 c4_4 d4_4 s4_4 c4_5 d4_5 s4_5 p4_0 p4_1 p4_2 p4_3 p4_4 p4_5
  have c5_0 := p5_0.1
  have d5_0 := p5_0.2.1
  have s5_0 := p5_0.2.2.2.2
  have c5_1 := p5_1.1
  have d5_1 := p5_1.2.1
  have s5_1 := p5_1.2.2.2.2
  have c5_2 := p5_2.1
  have d5_2 := p5_2.2.1
  have s5_2 := p5_2.2.2.2.2
  have c5_3 := p5_3.1
  have d5_3 := p5_3.2.1
  have s5_3 := p5_3.2.2.2.2
  have c5_4 := p5_4.1
  have d5_4 := p5_4.2.1
  have s5_4 := p5_4.2.2.2.2
  have c5_5 := p5_5.1
  have d5_5 := p5_5.2.1
  have s5_5 := p5_5.2.2.2.2
  have c5_6 := p5_6.1
  have d5_6 := p5_6.2.1
  have s5_6 := p5_6.2.2.2.2
  go_wp2_with fail
  refine (known_any _).mono ?_
  rintro e w6 ⟨rfl, hb6⟩
  have p6_0 := pair_below (pair_alloc p5_0 _) hb6
  have p6_1 := pair_below (pair_alloc p5_1 _) hb6
  have p6_2 := pair_below (pair_alloc p5_2 _) hb6
  have p6_3 := pair_below (pair_alloc p5_3 _) hb6
  have p6_4 := pair_below (pair_alloc p5_4 _) hb6
  have p6_5 := pair_below (pair_alloc p5_5 _) hb6
  have p6_6 := pair_below (pair_alloc p5_6 _) hb6
  have p6_7 := pair_below (pair_new _ (Sp.addR (Sp.mulR al ah bl bh).1.1 (Sp.mulR al ah bl bh).1.2 (Sp.mulR al ah cl ch).1.1 (Sp.mulR al ah cl ch).1.2).1.1 (Sp.addR (Sp.mulR al ah bl bh).1.1 (Sp.mulR al ah bl bh).1.2 (Sp.mulR al ah cl ch).1.1 (Sp.mulR al ah cl ch).1.2).1.2 _) hb6
  clear c5_0 d5_0 s5_0 c5_1 d5_1 s5_1 c5_2 d5_2 s5_2 c5_3 d5_3 s5_3 c5_4 d5_4 s5_4 c5_5 d5_5 s5_5 c5_6 d5_6 s5_6 p5_0 p5_1 p5_2 p5_3 p5_4 p5_5 p5_6
  have c6_0 := p6_0.1
  have d6_0 := p6_0.2.1
  have s6_0 := p6_0.2.2.2.2
  have c6_1 := p6_1.1
  have d6_1 := p6_1.2.1
  have s6_1 := p6_1.2.2.2.2
  have c6_2 := p6_2.1
  have d6_2 := p6_2.2.1
  have s6_2 := p6_2.2.2.2.2
  have c6_3 := p6_3.1
  have d6_3 := p6_3.2.1
  have s6_3 := p6_3.2.2.2.2
  have c6_4 := p6_4.1
  have d6_4 := p6_4.2.1
  have s6_4 := p6_4.2.2.2.2
  have c6_5 := p6_5.1
  have d6_5 := p6_5.2.1
  have s6_5 := p6_5.2.2.2.2
  have c6_6 := p6_6.1
  have d6_6 := p6_6.2.1
  have s6_6 := p6_6.2.2.2.2
  have c6_7 := p6_7.1
  have d6_7 := p6_7.2.1
  have s6_7 := p6_7.2.2.2.2
  go_wp2
  go_ret
  exact ⟨rfl, by (repeat' (first | exact Below.refl _ _ | refine bstep ?_ hb1 | refine bstep ?_ hb2 | refine bstep ?_ hb3 | refine bstep ?_ hb4 | refine bstep ?_ hb5 | refine bstep ?_ hb6 | refine Below.setCell ?_ (by simp <;> omega) _ | refine balloc ?_ _ | refine Below.drew ?_ | refine bdrewN ?_ _))⟩
theorem fields_2 (al ah bl bh cl ch : Int) (w : World) (z0 : (Sp.addR bl bh cl ch).2 = 0) (z1 : (Sp.mulR al ah (Sp.addR bl bh cl ch).1.1 (Sp.addR bl bh cl ch).1.2).2 = 0) (zb : (Sp.mulR al ah bl bh).2 ≠ 0) :
    Calls Try.prog 3 #[spv al ah, spv bl bh, spv cl ch] w fun e w' => e = .returned (.bool true) ∧ Below w.heap.size w w' := by
  have y0 : ((Sp.addR bl bh cl ch).2 != 0) = false := by rw [z0]; rfl
  have y1 : ((Sp.mulR al ah (Sp.addR bl bh cl ch).1.1 (Sp.addR bl bh cl ch).1.2).2 != 0) = false := by rw [z1]; rfl
  have yb : ((Sp.mulR al ah bl bh).2 != 0) = true := bne_iff_ne.2 zb
  clear z0 z1 zb
  go_enter Try.func3, Try.ntmps3
  go_wp2_with fail
  refine (add_any _ _ _ _ _).mono ?_
  rintro e w1 ⟨rfl, hb1⟩
  have p1_0 := pair_below (pair_alloc (pair_alloc (pair_new _ al ah _) _) _) hb1
  have p1_1 := pair_below (pair_alloc (pair_new _ bl bh _) _) hb1
  simp only [World.size_alloc] at p1_1
  have p1_2 := pair_below (pair_new _ cl ch _) hb1
  simp only [World.size_alloc] at p1_2
  have c1_0 := p1_0.1
  have d1_0 := p1_0.2.1
  have s1_0 := p1_0.2.2.2.2
  have c1_1 := p1_1.1
  have d1_1 := p1_1.2.1
  have s1_1 := p1_1.2.2.2.2
  have c1_2 := p1_2.1
  have d1_2 := p1_2.2.1
  have s1_2 := p1_2.2.2.2.2
  go_wp2_with fail
  refine (mul_any _ _ _ _ _).mono ?_
  rintro e w2 ⟨rfl, hb2⟩
  have p2_0 := pair_below (pair_alloc p1_0 _) hb2
  have p2_1 := pair_below (pair_alloc p1_1 _) hb2
  have p2_2 := pair_below (pair_alloc p1_2 _) hb2
  have p2_3 := pair_below (pair_new _ (Sp.addR bl bh cl ch).1.1 (Sp.addR bl bh cl ch).1.2 _) hb2
  clear c1_0 d1_0 s1_0 c1_1 d1_1 s1_1 c1_2 d1_2 s1_2 p1_0 p1_1 p1_2
  have c2_0 := p2_0.1
  have d2_0 := p2_0.2.1
  have s2_0 := p2_0.2.2.2.2
  have c2_1 := p2_1.1
  have d2_1 := p2_1.2.1
  have s2_1 := p2_1.2.2.2.2
  have c2_2 := p2_2.1
  have d2_2 := p2_2.2.1
  have s2_2 := p2_2.2.2.2.2
  have c2_3 := p2_3.1
  have d2_3 := p2_3.2.1
  have s2_3 := p2_3.2.2.2.2
  go_wp2_with fail
  refine (mul_any _ _ _ _ _).mono ?_
  rintro e w3 ⟨rfl, hb3⟩
  have p3_0 := pair_below (pair_alloc p2_0 _) hb3
  have p3_1 := pair_below (pair_alloc p2_1 _) hb3
  have p3_2 := pair_below (pair_alloc p2_2 _) hb3
  have p3_3 := pair_below (pair_alloc p2_3 _) hb3
  have p3_4 := pair_below (pair_new _ (Sp.mulR al ah (Sp.addR bl bh cl ch).1.1 (Sp.addR bl bh cl ch).1.2).1.1 (Sp.mulR al ah (Sp.addR bl bh cl ch).1.1 (Sp.addR bl bh cl ch).1.2).1.2 _) hb3
  clear c2_0 d2_0 s2_0 c2_1 d2_1 s2_1 c2_2 d2_2 s2_2 c2_3 d2_3 s2_3 p2_0 p2_1 p2_2 p2_3
  have c3_0 := p3_0.1
  have d3_0 := p3_0.2.1
  have s3_0 := p3_0.2.2.2.2
  have c3_1 := p3_1.1
  have d3_1 := p3_1.2.1
  have s3_1 := p3_1.2.2.2.2
  have c3_2 := p3_2.1
  have d3_2 := p3_2.2.1
  have s3_2 := p3_2.2.2.2.2
  have c3_3 := p3_3.1
  have d3_3 := p3_3.2.1
  have s3_3 := p3_3.2.2.2.2
  have c3_4 := p3_4.1
  have d3_4 := p3_4.2.1
  have s3_4 := p3_4.2.2.2.2
  go_wp2_with fail
  refine (mul_any _ _ _ _ _).mono ?_
  rintro e w4 ⟨rfl, hb4⟩
  have p4_0 := pair_below (pair_alloc p3_0 _) hb4
  have p4_1 := pair_below (pair_alloc p3_1 _) hb4
  have p4_2 := pair_below (pair_alloc p3_2 _) hb4
  have p4_3 := pair_below (pair_alloc p3_3 _) hb4
  have p4_4 := pair_below (pair_alloc p3_4 _) hb4
  have p4_5 := pair_below (pair_new _ (Sp.mulR al ah bl bh).1.1 (Sp.mulR al ah bl bh).1.2 _) hb4
  clear c3_0 d3_0 s3_0 c3_1 d3_1 s3_1 c3_2 d3_2 s3_2 c3_3 d3_3 s3_3 c3_4 d3_4 s3_4 p3_0 p3_1 p3_2 p3_3 p3_4
  have c4_0 := p4_0.1
  have d4_0 := p4_0.2.1
  have s4_0 := p4_0.2.2.2.2
  have c4_1 := p4_1.1
  have d4_1 := p4_1.2.1
  have s4_1 := p4_1.2.2.2.2
  have c4_2 := p4_2.1
  have d4_2 := p4_2.2.1
  have s4_2 := p4_2.2.2.2.2
  have c4_3 := p4_3.1
  have d4_3 := p4_3.2.1
  have s4_3 := p4_3.2.2.2.2
  have c4_4 := p4_4.1
  have d4_4 := p4_4.2.1
  have s4_4 := p4_4.2.2.2.2
  have c4_5 := p4_5.1
  have d4_5 := p4_5.2.1
  have s4_5 := p4_5.2.2.2.2
  go_wp2_with fail
  refine (add_any _ _ _ _ _).mono ?_
  rintro e w5 ⟨rfl, hb5⟩
  have p5_0 := pair_below (pair_alloc p4_0 _) hb5
  have p5_1 := pair_below (pair_alloc p4_1 _) hb5
  have p5_2 := pair_below (pair_alloc p4_2 _) hb5
  have p5_3 := pair_below (pair_alloc p4_3 _) hb5
  have p5_4 := pair_below (pair_alloc p4_4 _) hb5
  have p5_5 := pair_below (pair_alloc p4_5 _) hb5
  have p5_6 := pair_below (pair_new _ (Sp.mulR al ah cl ch).1.1 (Sp.mulR al ah cl ch).1.2 _) hb5
  clear c4_0 d4_0 s4_0 c4_1 d4_1 s4_1 c4_2 d4_2 s4_2 c4_3 d4_3 s4_3 c4_4 d4_4 s4_4 c4_5 d4_5 s4_5 p4_0 p4_1 p4_2 p4_3 p4_4 p4_5
  have c5_0 := p5_0.1
  have d5_0 := p5_0.2.1
  have s5_0 := p5_0.2.2.2.2
  have c5_1 := p5_1.1
  have d5_1 := p5_1.2.1
  have s5_1 := p5_1.2.2.2.2
  have c5_2 := p5_2.1
  have d5_2 := p5_2.2.1
  have s5_2 := p5_2.2.2.2.2
  have c5_3 := p5_3.1
  have d5_3 := p5_3.2.1
  have s5_3 := p5_3.2.2.2.2
  have c5_4 := p5_4.1
  have d5_4 := p5_4.2.1
  have s5_4 := p5_4.2.2.2.2
  have c5_5 := p5_5.1
  have d5_5 := p5_5.2.1
  have s5_5 := p5_5.2.2.2.2
  have c5_6 := p5_6.1
  have d5_6 := p5_6.2.1
  have s5_6 := p5_6.2.2.2.2
  go_wp2_with fail
  refine (known_any _).mono ?_
  rintro e w6 ⟨rfl, hb6⟩
  have p6_0 := pair_below (pair_alloc p5_0 _) hb6
  have p6_1 := pair_below (pair_alloc p5_1 _) hb6
  have p6_2 := pair_below (pair_alloc p5_2 _) hb6
  have p6_3 := pair_below (pair_alloc p5_3 _) hb6
  have p6_4 := pair_below (pair_alloc p5_4 _) hb6
  have p6_5 := pair_below (pair_alloc p5_5 _) hb6
  have p6_6 := pair_below (pair_alloc p5_6 _) hb6
  have p6_7 := pair_below (pair_new _ (Sp.addR (Sp.mulR al ah bl bh).1.1 (Sp.mulR al ah bl bh).1.2 (Sp.mulR al ah cl ch).1.1 (Sp.mulR al ah cl ch).1.2).1.1 (Sp.addR (Sp.mulR al ah bl bh).1.1 (Sp.mulR al ah bl bh).1.2 (Sp.mulR al ah cl ch).1.1 (Sp.mulR al ah cl ch).1.2).1.2 _) hb6
  clear c5_0 d5_0 s5_0 c5_1 d5_1 s5_1 c5_2 d5_2 s5_2 c5_3 d5_3 s5_3 c5_4 d5_4 s5_4 c5_5 d5_5 s5_5 c5_6 d5_6 s5_6 p5_0 p5_1 p5_2 p5_3 p5_4 p5_5 p5_6
  have c6_0 := p6_0.1
  have d6_0 := p6_0.2.1
  have s6_0 := p6_0.2.2.2.2
  have c6_1 := p6_1.1
  have d6_1 := p6_1.2.1
  have s6_1 := p6_1.2.2.2.2
  have c6_2 := p6_2.1
  have d6_2 := p6_2.2.1
  have s6_2 := p6_2.2.2.2.2
  have c6_3 := p6_3.1
  have d6_3 := p6_3.2.1
  have s6_3 := p6_3.2.2.2.2
  have c6_4 := p6_4.1
  have d6_4 := p6_4.2.1
  have s6_4 := p6_4.2.2.2.2
  have c6_5 := p6_5.1
  have d6_5 := p6_5.2.1
  have s6_5 := p6_5.2.2.2.2
  have c6_6 := p6_6.1
  have d6_6 := p6_6.2.1
  have s6_6 := p6_6.2.2.2.2
  have c6_7 := p6_7.1
  have d6_7 := p6_7.2.1
  have s6_7 := p6_7.2.2.2.2
  go_wp2
  go_ret
  exact ⟨rfl, by (repeat' (first | exact Below.refl _ _ | refine bstep ?_ hb1 | refine bstep ?_ hb2 | refine bstep ?_ hb3 | refine bstep ?_ hb4 | refine bstep ?_ hb5 | refine bstep ?_ hb6 | refine Below.setCell ?_ (by simp <;> omega) _ | refine balloc ?_ _ | refine Below.drew ?_ | refine bdrewN ?_ _))⟩
theorem fields_3 (al ah bl bh cl ch : Int) (w : World) (z0 : (Sp.addR bl bh cl ch).2 = 0) (z1 : (Sp.mulR al ah (Sp.addR bl bh cl ch).1.1 (Sp.addR bl bh cl ch).1.2).2 = 0) (z2 : (Sp.mulR al ah bl bh).2 = 0) (zb : (Sp.mulR al ah cl ch).2 ≠ 0) :
    Calls Try.prog 3 #[spv al ah, spv bl bh, spv cl ch] w fun e w' => e = .returned (.bool true) ∧ Below w.heap.size w w' := by
  have y0 : ((Sp.addR bl bh cl ch).2 != 0) = false := by rw [z0]; rfl
  have y1 : ((Sp.mulR al ah (Sp.addR bl bh cl ch).1.1 (Sp.addR bl bh cl ch).1.2).2 != 0) = false := by rw [z1]; rfl
  have y2 : ((Sp.mulR al ah bl bh).2 != 0) = false := by rw [z2]; rfl
  have yb : ((Sp.mulR al ah cl ch).2 != 0) = true := bne_iff_ne.2 zb
  clear z0 z1 z2 zb
  go_enter Try.func3, Try.ntmps3
  go_wp2_with fail
  refine (add_any _ _ _ _ _).mono ?_
  rintro e w1 ⟨rfl, hb1⟩
  have p1_0 := pair_below (pair_alloc (pair_alloc (pair_new _ al ah _) _) _) hb1
  have p1_1 := pair_below (pair_alloc (pair_new _ bl bh _) _) hb1
  simp only [World.size_alloc] at p1_1
  have p1_2 := pair_below (pair_new _ cl ch _) hb1
  simp only [World.size_alloc] at p1_2
  have c1_0 := p1_0.1
  have d1_0 := p1_0.2.1
  have s1_0 := p1_0.2.2.2.2
  have c1_1 := p1_1.1
  have d1_1 := p1_1.2.1
  have s1_1 := p1_1.2.2.2.2
  have c1_2 := p1_2.1
  have d1_2 := p1_2.2.1
  have s1_2 := p1_2.2.2.2.2
  go_wp2_with fail
  refine (mul_any _ _ _ _ _).mono ?_
  rintro e w2 ⟨rfl, hb2⟩
  have p2_0 := pair_below (pair_alloc p1_0 _) hb2
  have p2_1 := pair_below (pair_alloc p1_1 _) hb2
  have p2_2 := pair_below (pair_alloc p1_2 _) hb2
  have p2_3 := pair_below (pair_new _ (Sp.addR bl bh cl ch).1.1 (Sp.addR bl bh cl ch).1.2 _) hb2
  clear c1_0 d1_0 s1_0 c1_1 d1_1 s1_1 c1_2 d1_2 s1_2 p1_0 p1_1 p1_2
  have c2_0 := p2_0.1
  have d2_0 := p2_0.2.1
  have s2_0 := p2_0.2.2.2.2
  have c2_1 := p2_1.1
  have d2_1 := p2_1.2.1
  have s2_1 := p2_1.2.2.2.2
  have c2_2 := p2_2.1
  have d2_2 := p2_2.2.1
  have s2_2 := p2_2.2.2.2.2
  have c2_3 := p2_3.1
  have d2_3 := p2_3.2.1
  have s2_3 := p2_3.2.2.2.2
  go_wp2_with fail
  refine (mul_any _ _ _ _ _).mono ?_
  rintro e w3 ⟨rfl, hb3⟩
  have p3_0 := pair_below (pair_alloc p2_0 _) hb3
  have p3_1 := pair_below (pair_alloc p2_1 _) hb3
  have p3_2 := pair_below (pair_alloc p2_2 _) hb3
  have p3_3 := pair_below (pair_alloc p2_3 _) hb3
  have p3_4 := pair_below (pair_new _ (Sp.mulR al ah (Sp.addR bl bh cl ch).1.1 (Sp.addR bl bh cl ch).1.2).1.1 (Sp.mulR al ah (Sp.addR bl bh cl ch).1.1 (Sp.addR bl bh cl ch).1.2).1.2 _) hb3
  clear c2_0 d2_0 s2_0 c2_1 d2_1 s2_1 c2_2 d2_2 s2_2 c2_3 d2_3 s2_3 p2_0 p2_1 p2_2 p2_3
  have c3_0 := p3_0.1
  have d3_0 := p3_0.2.1
  have s3_0 := p3_0.2.2.2.2
  have c3_1 := p3_1.1
  have d3_1 := p3_1.2.1
  have s3_1 := p3_1.2.2.2.2
  have c3_2 := p3_2.1
  have d3_2 := p3_2.2.1
  have s3_2 := p3_2.2.2.2.2
  have c3_3 := p3_3.1
  have d3_3 := p3_3.2.1
  have s3_3 := p3_3.2.2.2.2
  have c3_4 := p3_4.1
  have d3_4 := p3_4.2.1
  have s3_4 := p3_4.2.2.2.2
  go_wp2_with fail
  refine (mul_any _ _ _ _ _).mono ?_
  rintro e w4 ⟨rfl, hb4⟩
  have p4_0 := pair_below (pair_alloc p3_0 _) hb4
  have p4_1 := pair_below (pair_alloc p3_1 _) hb4
  have p4_2 := pair_below (pair_alloc p3_2 _) hb4
  have p4_3 := pair_below (pair_alloc p3_3 _) hb4
  have p4_4 := pair_below (pair_alloc p3_4 _) hb4
  have p4_5 := pair_below (pair_new _ (Sp.mulR al ah bl bh).1.1 (Sp.mulR al ah bl bh).1.2 _) hb4
  clear c3_0 d3_0 s3_0 c3_1 d3_1 s3_1 c3_2 d3_2 s3_2 c3_3 d3_3 s3_3 c3_4 d3_4 s3_4 p3_0 p3_1 p3_2 p3_3 p3_4
  have c4_0 := p4_0.1
  have d4_0 := p4_0.2.1
  have s4_0 := p4_0.2.2.2.2
  have c4_1 := p4_1.1
  have d4_1 := p4_1.2.1
  have s4_1 := p4_1.2.2.2.2
  have c4_2 := p4_2.1
  have d4_2 := p4_2.2.1
  have s4_2 := p4_2.2.2.2.2
  have c4_3 := p4_3.1
  have d4_3 := p4_3.2.1
  have s4_3 := p4_3.2.2.2.2
  have c4_4 := p4_4.1
  have d4_4 := p4_4.2.1
  have s4_4 := p4_4.2.2.2.2
  have c4_5 := p4_5.1
  have d4_5 := p4_5.2.1
  have s4_5 := p4_5.2.2.2.2
  go_wp2_with fail
  refine (add_any _ _ _ _ _).mono ?_
  rintro e w5 ⟨rfl, hb5⟩
  have p5_0 := pair_below (pair_alloc p4_0 _) hb5
  have p5_1 := pair_below (pair_alloc p4_1 _) hb5
  have p5_2 := pair_below (pair_alloc p4_2 _) hb5
  have p5_3 := pair_below (pair_alloc p4_3 _) hb5
  have p5_4 := pair_below (pair_alloc p4_4 _) hb5
  have p5_5 := pair_below (pair_alloc p4_5 _) hb5
  have p5_6 := pair_below (pair_new _ (Sp.mulR al ah cl ch).1.1 (Sp.mulR al ah cl ch).1.2 _) hb5
  clear c4_0 d4_0 s4_0 c4_1 d4_1 s4_1 c4_2 d4_2 s4_2 c4_3 d4_3 s4_3 c4_4 d4_4 s4_4 c4_5 d4_5 s4_5 p4_0 p4_1 p4_2 p4_3 p4_4 p4_5
  have c5_0 := p5_0.1
  have d5_0 := p5_0.2.1
  have s5_0 := p5_0.2.2.2.2
  have c5_1 := p5_1.1
  have d5_1 := p5_1.2.1
  have s5_1 := p5_1.2.2.2.2
  have c5_2 := p5_2.1
  have d5_2 := p5_2.2.1
  have s5_2 := p5_2.2.2.2.2
  have c5_3 := p5_3.1
  have d5_3 := p5_3.2.1
  have s5_3 := p5_3.2.2.2.2
  have c5_4 := p5_4.1
  have d5_4 := p5_4.2.1
  have s5_4 := p5_4.2.2.2.2
  have c5_5 := p5_5.1
  have d5_5 := p5_5.2.1
  have s5_5 := p5_5.2.2.2.2
  have c5_6 := p5_6.1
  have d5_6 := p5_6.2.1
  have s5_6 := p5_6.2.2.2.2
  go_wp2_with fail
  refine (known_any _).mono ?_
  rintro e w6 ⟨rfl, hb6⟩
  have p6_0 := pair_below (pair_alloc p5_0 _) hb6
  have p6_1 := pair_below (pair_alloc p5_1 _) hb6
  have p6_2 := pair_below (pair_alloc p5_2 _) hb6
  have p6_3 := pair_below (pair_alloc p5_3 _) hb6
  have p6_4 := pair_below (pair_alloc p5_4 _) hb6
  have p6_5 := pair_below (pair_alloc p5_5 _) hb6
  have p6_6 := pair_below (pair_alloc p5_6 _) hb6
  have p6_7 := pair_below (pair_new _ (Sp.addR (Sp.mulR al ah bl bh).1.1 (Sp.mulR al ah bl bh).1.2 (Sp.mulR al ah cl ch).1.1 (Sp.mulR al ah cl ch).1.2).1.1 (Sp.addR (Sp.mulR al ah bl bh).1.1 (Sp.mulR al ah bl bh).1.2 (Sp.mulR al ah cl ch).1.1 (Sp.mulR al ah cl ch).1.2).1.2 _) hb6
  clear c5_0 d5_0 s5_0 c5_1 d5_1 s5_1 c5_2 d5_2 s5_2 c5_3 d5_3 s5_3 c5_4 d5_4 s5_4 c5_5 d5_5 s5_5 c5_6 d5_6 s5_6 p5_0 p5_1 p5_2 p5_3 p5_4 p5_5 p5_6
  have c6_0 := p6_0.1
  have d6_0 := p6_0.2.1
  have s6_0 := p6_0.2.2.2.2
  have c6_1 := p6_1.1
  have d6_1 := p6_1.2.1
  have s6_1 := p6_1.2.2.2.2
  have c6_2 := p6_2.1
  have d6_2 := p6_2.2.1
  have s6_2 := p6_2.2.2.2.2
  have c6_3 := p6_3.1
  have d6_3 := p6_3.2.1
  have s6_3 := p6_3.2.2.2.2
  have c6_4 := p6_4.1
  have d6_4 := p6_4.2.1
  have s6_4 := p6_4.2.2.2.2
  have c6_5 := p6_5.1
  have d6_5 := p6_5.2.1
  have s6_5 := p6_5.2.2.2.2
  have c6_6 := p6_6.1
  have d6_6 := p6_6.2.1
  have s6_6 := p6_6.2.2.2.2
  have c6_7 := p6_7.1
  have d6_7 := p6_7.2.1
  have s6_7 := p6_7.2.2.2.2
  go_wp2
  go_ret
  exact ⟨rfl, by (repeat' (first | exact Below.refl _ _ | refine bstep ?_ hb1 | refine bstep ?_ hb2 | refine bstep ?_ hb3 | refine bstep ?_ hb4 | refine bstep ?_ hb5 | refine bstep ?_ hb6 | refine Below.setCell ?_ (by simp <;> omega) _ | refine balloc ?_ _ | refine Below.drew ?_ | refine bdrewN ?_ _))⟩
theorem fields_y (al ah bl bh cl ch : Int) (w : World) (z0 : (Sp.addR bl bh cl ch).2 = 0) (z1 : (Sp.mulR al ah (Sp.addR bl bh cl ch).1.1 (Sp.addR bl bh cl ch).1.2).2 = 0) (z2 : (Sp.mulR al ah bl bh).2 = 0) (z3 : (Sp.mulR al ah cl ch).2 = 0) :
    Calls Try.prog 3 #[spv al ah, spv bl bh, spv cl ch] w fun e w' => e = .returned (.bool true) ∧ Below w.heap.size w w' := by
  have y0 : ((Sp.addR bl bh cl ch).2 != 0) = false := by rw [z0]; rfl
  have y1 : ((Sp.mulR al ah (Sp.addR bl bh cl ch).1.1 (Sp.addR bl bh cl ch).1.2).2 != 0) = false := by rw [z1]; rfl
  have y2 : ((Sp.mulR al ah bl bh).2 != 0) = false := by rw [z2]; rfl
  have y3 : ((Sp.mulR al ah cl ch).2 != 0) = false := by rw [z3]; rfl
  have C := Lib.hid (fun w => encl_true (Sp.addR (Sp.mulR al ah bl bh).1.1 (Sp.mulR al ah bl bh).1.2 (Sp.mulR al ah cl ch).1.1 (Sp.mulR al ah cl ch).1.2).1.1 (Sp.addR (Sp.mulR al ah bl bh).1.1 (Sp.mulR al ah bl bh).1.2 (Sp.mulR al ah cl ch).1.1 (Sp.mulR al ah cl ch).1.2).1.2 (Sp.addR (Sp.mulR al ah bl bh).1.1 (Sp.mulR al ah bl bh).1.2 (Sp.mulR al ah cl ch).1.1 (Sp.mulR al ah cl ch).1.2).2 (Sp.mulR al ah (Sp.addR bl bh cl ch).1.1 (Sp.addR bl bh cl ch).1.2).1.1 (Sp.mulR al ah (Sp.addR bl bh cl ch).1.1 (Sp.addR bl bh cl ch).1.2).1.2 w (fun k => fields_in z0 z1 z2 z3 k))
  clear z0 z1 z2 z3
  go_enter Try.func3, Try.ntmps3
  go_wp2_with fail
  refine (add_any _ _ _ _ _).mono ?_
  rintro e w1 ⟨rfl, hb1⟩
  have p1_0 := pair_below (pair_alloc (pair_alloc (pair_new _ al ah _) _) _) hb1
  have p1_1 := pair_below (pair_alloc (pair_new _ bl bh _) _) hb1
  simp only [World.size_alloc] at p1_1
  have p1_2 := pair_below (pair_new _ cl ch _) hb1
  simp only [World.size_alloc] at p1_2
  have c1_0 := p1_0.1
  have d1_0 := p1_0.2.1
  have s1_0 := p1_0.2.2.2.2
  have c1_1 := p1_1.1
  have d1_1 := p1_1.2.1
  have s1_1 := p1_1.2.2.2.2
  have c1_2 := p1_2.1
  have d1_2 := p1_2.2.1
  have s1_2 := p1_2.2.2.2.2
  go_wp2_with fail
  refine (mul_any _ _ _ _ _).mono ?_
  rintro e w2 ⟨rfl, hb2⟩
  have p2_0 := pair_below (pair_alloc p1_0 _) hb2
  have p2_1 := pair_below (pair_alloc p1_1 _) hb2
  have p2_2 := pair_below (pair_alloc p1_2 _) hb2
  have p2_3 := pair_below (pair_new _ (Sp.addR bl bh cl ch).1.1 (Sp.addR bl bh cl ch).1.2 _) hb2
  clear c1_0 d1_0 s1_0 c1_1 d1_1 s1_1 c1_2 d1_2 s1_2 p1_0 p1_1 p1_2
  have c2_0 := p2_0.1
  have d2_0 := p2_0.2.1
  have s2_0 := p2_0.2.2.2.2
  have c2_1 := p2_1.1
  have d2_1 := p2_1.2.1
  have s2_1 := p2_1.2.2.2.2
  have c2_2 := p2_2.1
  have d2_2 := p2_2.2.1
  have s2_2 := p2_2.2.2.2.2
  have c2_3 := p2_3.1
  have d2_3 := p2_3.2.1
  have s2_3 := p2_3.2.2.2.2
  go_wp2_with fail
  refine (mul_any _ _ _ _ _).mono ?_
  rintro e w3 ⟨rfl, hb3⟩
  have p3_0 := pair_below (pair_alloc p2_0 _) hb3
  have p3_1 := pair_below (pair_alloc p2_1 _) hb3
  have p3_2 := pair_below (pair_alloc p2_2 _) hb3
  have p3_3 := pair_below (pair_alloc p2_3 _) hb3
  have p3_4 := pair_below (pair_new _ (Sp.mulR al ah (Sp.addR bl bh cl ch).1.1 (Sp.addR bl bh cl ch).1.2).1.1 (Sp.mulR al ah (Sp.addR bl bh cl ch).1.1 (Sp.addR bl bh cl ch).1.2).1.2 _) hb3
  clear c2_0 d2_0 s2_0 c2_1 d2_1 s2_1 c2_2 d2_2 s2_2 c2_3 d2_3 s2_3 p2_0 p2_1 p2_2 p2_3
  have c3_0 := p3_0.1
  have d3_0 := p3_0.2.1
  have s3_0 := p3_0.2.2.2.2
  have c3_1 := p3_1.1
  have d3_1 := p3_1.2.1
  have s3_1 := p3_1.2.2.2.2
  have c3_2 := p3_2.1
  have d3_2 := p3_2.2.1
  have s3_2 := p3_2.2.2.2.2
  have c3_3 := p3_3.1
  have d3_3 := p3_3.2.1
  have s3_3 := p3_3.2.2.2.2
  have c3_4 := p3_4.1
  have d3_4 := p3_4.2.1
  have s3_4 := p3_4.2.2.2.2
  go_wp2_with fail
  refine (mul_any _ _ _ _ _).mono ?_
  rintro e w4 ⟨rfl, hb4⟩
  have p4_0 := pair_below (pair_alloc p3_0 _) hb4
  have p4_1 := pair_below (pair_alloc p3_1 _) hb4
  have p4_2 := pair_below (pair_alloc p3_2 _) hb4
  have p4_3 := pair_below (pair_alloc p3_3 _) hb4
  have p4_4 := pair_below (pair_alloc p3_4 _) hb4
  have p4_5 := pair_below (pair_new _ (Sp.mulR al ah bl bh).1.1 (Sp.mulR al ah bl bh).1.2 _) hb4
  clear c3_0 d3_0 s3_0 c3_1 d3_1 s3_1 c3_2 d3_2 s3_2 c3_3 d3_3 s3_3 c3_4 d3_4 s3_4 p3_0 p3_1 p3_2 p3_3 p3_4
  have c4_0 := p4_0.1
  have d4_0 := p4_0.2.1
  have s4_0 := p4_0.2.2.2.2
  have c4_1 := p4_1.1
  have d4_1 := p4_1.2.1
  have s4_1 := p4_1.2.2.2.2
  have c4_2 := p4_2.1
  have d4_2 := p4_2.2.1
  have s4_2 := p4_2.2.2.2.2
  have c4_3 := p4_3.1
  have d4_3 := p4_3.2.1
  have s4_3 := p4_3.2.2.2.2
  have c4_4 := p4_4.1
  have d4_4 := p4_4.2.1
  have s4_4 := p4_4.2.2.2.2
  have c4_5 := p4_5.1
  have d4_5 := p4_5.2.1
  have s4_5 := p4_5.2.2.2.2
  go_wp2_with fail
  refine (add_any _ _ _ _ _).mono ?_
  rintro e w5 ⟨rfl, hb5⟩
  have p5_0 := pair_below (pair_alloc p4_0 _) hb5
  have p5_1 := pair_below (pair_alloc p4_1 _) hb5
  have p5_2 := pair_below (pair_alloc p4_2 _) hb5
  have p5_3 := pair_below (pair_alloc p4_3 _) hb5
  have p5_4 := pair_below (pair_alloc p4_4 _) hb5
  have p5_5 := pair_below (pair_alloc p4_5 _) hb5
  have p5_6 := pair_below (pair_new _ (Sp.mulR al ah cl ch).1.1 (Sp.mulR al ah cl ch).1.2 _) hb5
  clear c4_0 d4_0 s4_0 c4_1 d4_1 s4_1 c4_2 d4_2 s4_2 c4_3 d4_3 s4_3 c4_4 d4_4 s4_4 c4_5 d4_5 s4_5 p4_0 p4_1 p4_2 p4_3 p4_4 p4_5
  have c5_0 := p5_0.1
  have d5_0 := p5_0.2.1
  have s5_0 := p5_0.2.2.2.2
  have c5_1 := p5_1.1
  have d5_1 := p5_1.2.1
  have s5_1 := p5_1.2.2.2.2
  have c5_2 := p5_2.1
  have d5_2 := p5_2.2.1
  have s5_2 := p5_2.2.2.2.2
  have c5_3 := p5_3.1
  have d5_3 := p5_3.2.1
  have s5_3 := p5_3.2.2.2.2
  have c5_4 := p5_4.1
  have d5_4 := p5_4.2.1
  have s5_4 := p5_4.2.2.2.2
  have c5_5 := p5_5.1
  have d5_5 := p5_5.2.1
  have s5_5 := p5_5.2.2.2.2
  have c5_6 := p5_6.1
  have d5_6 := p5_6.2.1
  have s5_6 := p5_6.2.2.2.2
  go_wp2_with fail
  refine (C.out _).mono ?_
  rintro e w6 ⟨rfl, hb6⟩
  have p6_0 := pair_below (pair_alloc p5_0 _) hb6
  have p6_1 := pair_below (pair_alloc p5_1 _) hb6
  have p6_2 := pair_below (pair_alloc p5_2 _) hb6
  have p6_3 := pair_below (pair_alloc p5_3 _) hb6
  have p6_4 := pair_below (pair_alloc p5_4 _) hb6
  have p6_5 := pair_below (pair_alloc p5_5 _) hb6
  have p6_6 := pair_below (pair_alloc p5_6 _) hb6
  have p6_7 := pair_below (pair_new _ (Sp.addR (Sp.mulR al ah bl bh).1.1 (Sp.mulR al ah bl bh).1.2 (Sp.mulR al ah cl ch).1.1 (Sp.mulR al ah cl ch).1.2).1.1 (Sp.addR (Sp.mulR al ah bl bh).1.1 (Sp.mulR al ah bl bh).1.2 (Sp.mulR al ah cl ch).1.1 (Sp.mulR al ah cl ch).1.2).1.2 _) hb6
  clear c5_0 d5_0 s5_0 c5_1 d5_1 s5_1 c5_2 d5_2 s5_2 c5_3 d5_3 s5_3 c5_4 d5_4 s5_4 c5_5 d5_5 s5_5 c5_6 d5_6 s5_6 p5_0 p5_1 p5_2 p5_3 p5_4 p5_5 p5_6
  have c6_0 := p6_0.1
  have d6_0 := p6_0.2.1
  have s6_0 := p6_0.2.2.2.2
  have c6_1 := p6_1.1
  have d6_1 := p6_1.2.1
  have s6_1 := p6_1.2.2.2.2
  have c6_2 := p6_2.1
  have d6_2 := p6_2.2.1
  have s6_2 := p6_2.2.2.2.2
  have c6_3 := p6_3.1
  have d6_3 := p6_3.2.1
  have s6_3 := p6_3.2.2.2.2
  have c6_4 := p6_4.1
  have d6_4 := p6_4.2.1
  have s6_4 := p6_4.2.2.2.2
  have c6_5 := p6_5.1
  have d6_5 := p6_5.2.1
  have s6_5 := p6_5.2.2.2.2
  have c6_6 := p6_6.1
  have d6_6 := p6_6.2.1
  have s6_6 := p6_6.2.2.2.2
  have c6_7 := p6_7.1
  have d6_7 := p6_7.2.1
  have s6_7 := p6_7.2.2.2.2
  go_wp2_with fail
  refine (known_any _).mono ?_
  rintro e w7 ⟨rfl, hb7⟩
  have p7_0 := pair_below p6_0 hb7
  have p7_1 := pair_below p6_1 hb7
  have p7_2 := pair_below p6_2 hb7
  have p7_3 := pair_below p6_3 hb7
  have p7_4 := pair_below p6_4 hb7
  have p7_5 := pair_below p6_5 hb7
  have p7_6 := pair_below p6_6 hb7
  have p7_7 := pair_below p6_7 hb7
  clear c6_0 d6_0 s6_0 c6_1 d6_1 s6_1 c6_2 d6_2 s6_2 c6_3 d6_3 s6_3 c6_4 d6_4 s6_4 c6_5 d6_5 s6_5 c6_6 d6_6 s6_6 c6_7 d6_7 s6_7 p6_0 p6_1 p6_2 p6_3 p6_4 p6_5 p6_6 p6_7
  have c7_0 := p7_0.1
  have d7_0 := p7_0.2.1
  have s7_0 := p7_0.2.2.2.2
  have c7_1 := p7_1.1
  have d7_1 := p7_1.2.1
  have s7_1 := p7_1.2.2.2.2
  have c7_2 := p7_2.1
  have d7_2 := p7_2.2.1
  have s7_2 := p7_2.2.2.2.2
  have c7_3 := p7_3.1
  have d7_3 := p7_3.2.1
  have s7_3 := p7_3.2.2.2.2
  have c7_4 := p7_4.1
  have d7_4 := p7_4.2.1
  have s7_4 := p7_4.2.2.2.2
  have c7_5 := p7_5.1
  have d7_5 := p7_5.2.1
  have s7_5 := p7_5.2.2.2.2
  have c7_6 := p7_6.1
  have d7_6 := p7_6.2.1
  have s7_6 := p7_6.2.2.2.2
  have c7_7 := p7_7.1
  have d7_7 := p7_7.2.1
  have s7_7 := p7_7.2.2.2.2
  go_wp2
  go_ret
  exact ⟨rfl, by (repeat' (first | exact Below.refl _ _ | refine bstep ?_ hb1 | refine bstep ?_ hb2 | refine bstep ?_ hb3 | refine bstep ?_ hb4 | refine bstep ?_ hb5 | refine bstep ?_ hb6 | refine bstep ?_ hb7 | refine Below.setCell ?_ (by simp <;> omega) _ | refine balloc ?_ _ | refine Below.drew ?_ | refine bdrewN ?_ _))⟩
theorem fields_walk (al ah bl bh cl ch : Int) (w : World) :
    Calls Try.prog 3 #[spv al ah, spv bl bh, spv cl ch] w fun e w' => e = .returned (.bool true) ∧ Below w.heap.size w w' := by
  by_cases z0 : (Sp.addR bl bh cl ch).2 = 0
  · by_cases z1 : (Sp.mulR al ah (Sp.addR bl bh cl ch).1.1 (Sp.addR bl bh cl ch).1.2).2 = 0
    · by_cases z2 : (Sp.mulR al ah bl bh).2 = 0
      · by_cases z3 : (Sp.mulR al ah cl ch).2 = 0
        · exact fields_y _ _ _ _ _ _ _ z0 z1 z2 z3
        · exact fields_3 _ _ _ _ _ _ _ z0 z1 z2 z3
      · exact fields_2 _ _ _ _ _ _ _ z0 z1 z2
    · exact fields_1 _ _ _ _ _ _ _ z0 z1
  · exact fields_0 _ _ _ _ _ _ _ z0

end Go.Proofs.Ythmlhpjhoolflab
