/-
  The contracts of Add and Sub, in the program and in the document's answer, and of Mul and Div in the program.
-/
import Derived.Test.YthmlhpjhoolflaaOp0
import Derived.Test.YthmlhpjhoolflaaOp1
import Derived.Test.YthmlhpjhoolflaaOp2
import Derived.Test.YthmlhpjhoolflaaOp3
import Derived.Test.YthmlhpjhoolflaaOp4
namespace Go.Proofs.Ythmlhpjhoolflaa
open Go.ChangeShapes Go.WideShapes Go.RowKit
theorem add_yes (al ah bl bh : Int) (w : World) (h : Sp.vldB al ah = true) (k : Sp.vldB bl bh = true) :
    Calls Try.prog 21 #[spv al ah, spv bl bh] w fun e w' => e = .returned (spr (Sp.told (al + bl) (ah + bh))) ∧ Below w.heap.size w w' := by
  have C := fun w => op_add al ah bl bh w h k
  have q := Sp.add4 (Sp.vld_iff.1 h).2.1 (Sp.vld_iff.1 k).2.1
  rw [q.1, q.2] at C
  have K := Lib.hid C
  clear C q
  go_enter Try.func21, Try.ntmps21
  go_wp2_with fail
  refine (K.out _).mono ?_
  rintro e w1 ⟨rfl, hb⟩
  obtain ⟨c1, c2, c3, c4, _⟩ := pair_below (pair_new ((w.alloc _).alloc _) 0 0 _) hb
  simp only [World.size_alloc] at c1 c2 c3 c4
  go_wp2
  refine bodyPost_ret (v := spr (Sp.told _ _)) (by rw [results_cell_tmp rfl]; go_simp) rfl ⟨rfl, ?_⟩
  (repeat' (first | exact Below.refl _ _ | refine bstep ?_ hb | refine Below.setCell ?_ (by simp <;> omega) _ | refine balloc ?_ _ | refine Below.drew ?_ | refine bdrewN ?_ _))
theorem add_no1 (al ah bl bh : Int) (w : World) (h : Sp.vldB al ah = false) :
    Calls Try.prog 21 #[spv al ah, spv bl bh] w fun e w' => e = .returned (spr ((0, 0), 1)) ∧ Below w.heap.size w w' := by
  go_enter Try.func21, Try.ntmps21
  go_wp2_with fail
  refine (op_no1 0 _ _ _ _ _ h).mono ?_
  rintro e w1 ⟨rfl, hb⟩
  obtain ⟨c1, c2, c3, c4, _⟩ := pair_below (pair_new ((w.alloc _).alloc _) 0 0 _) hb
  simp only [World.size_alloc] at c1 c2 c3 c4
  go_wp2
  refine bodyPost_ret (v := spr _) (by rw [results_cell_tmp rfl]; go_simp) rfl ⟨rfl, ?_⟩
  (repeat' (first | exact Below.refl _ _ | refine bstep ?_ hb | refine Below.setCell ?_ (by simp <;> omega) _ | refine balloc ?_ _ | refine Below.drew ?_ | refine bdrewN ?_ _))
theorem add_no2 (al ah bl bh : Int) (w : World) (h : Sp.vldB al ah = true) (k : Sp.vldB bl bh = false) :
    Calls Try.prog 21 #[spv al ah, spv bl bh] w fun e w' => e = .returned (spr ((0, 0), 1)) ∧ Below w.heap.size w w' := by
  go_enter Try.func21, Try.ntmps21
  go_wp2_with fail
  refine (op_no2 0 _ _ _ _ _ h k).mono ?_
  rintro e w1 ⟨rfl, hb⟩
  obtain ⟨c1, c2, c3, c4, _⟩ := pair_below (pair_new ((w.alloc _).alloc _) 0 0 _) hb
  simp only [World.size_alloc] at c1 c2 c3 c4
  go_wp2
  refine bodyPost_ret (v := spr _) (by rw [results_cell_tmp rfl]; go_simp) rfl ⟨rfl, ?_⟩
  (repeat' (first | exact Below.refl _ _ | refine bstep ?_ hb | refine Below.setCell ?_ (by simp <;> omega) _ | refine balloc ?_ _ | refine Below.drew ?_ | refine bdrewN ?_ _))
theorem add_any (al ah bl bh : Int) (w : World) :
    Calls Try.prog 21 #[spv al ah, spv bl bh] w fun e w' => e = .returned (spr (Sp.addR al ah bl bh)) ∧ Below w.heap.size w w' := by
  unfold Sp.addR
  cases h : Sp.vldB al ah
  · rw [Sp.ite_no1 rfl]; exact add_no1 _ _ _ _ _ h
  cases k : Sp.vldB bl bh
  · rw [Sp.ite_no2 rfl]; exact add_no2 _ _ _ _ _ h k
  rw [Sp.ite_yes rfl rfl]
  exact add_yes _ _ _ _ _ h k
theorem sub_yes (al ah bl bh : Int) (w : World) (h : Sp.vldB al ah = true) (k : Sp.vldB bl bh = true) :
    Calls Try.prog 23 #[spv al ah, spv bl bh] w fun e w' => e = .returned (spr (Sp.told (al - bh) (ah - bl))) ∧ Below w.heap.size w w' := by
  have C := fun w => op_sub al ah bl bh w h k
  have q := Sp.sub4 (Sp.vld_iff.1 h).2.1 (Sp.vld_iff.1 k).2.1
  rw [q.1, q.2] at C
  have K := Lib.hid C
  clear C q
  go_enter Try.func23, Try.ntmps23
  go_wp2_with fail
  refine (K.out _).mono ?_
  rintro e w1 ⟨rfl, hb⟩
  obtain ⟨c1, c2, c3, c4, _⟩ := pair_below (pair_new ((w.alloc _).alloc _) 0 0 _) hb
  simp only [World.size_alloc] at c1 c2 c3 c4
  go_wp2
  refine bodyPost_ret (v := spr (Sp.told _ _)) (by rw [results_cell_tmp rfl]; go_simp) rfl ⟨rfl, ?_⟩
  (repeat' (first | exact Below.refl _ _ | refine bstep ?_ hb | refine Below.setCell ?_ (by simp <;> omega) _ | refine balloc ?_ _ | refine Below.drew ?_ | refine bdrewN ?_ _))
theorem sub_no1 (al ah bl bh : Int) (w : World) (h : Sp.vldB al ah = false) :
    Calls Try.prog 23 #[spv al ah, spv bl bh] w fun e w' => e = .returned (spr ((0, 0), 1)) ∧ Below w.heap.size w w' := by
  go_enter Try.func23, Try.ntmps23
  go_wp2_with fail
  refine (op_no1 1 _ _ _ _ _ h).mono ?_
  rintro e w1 ⟨rfl, hb⟩
  obtain ⟨c1, c2, c3, c4, _⟩ := pair_below (pair_new ((w.alloc _).alloc _) 0 0 _) hb
  simp only [World.size_alloc] at c1 c2 c3 c4
  go_wp2
  refine bodyPost_ret (v := spr _) (by rw [results_cell_tmp rfl]; go_simp) rfl ⟨rfl, ?_⟩
  (repeat' (first | exact Below.refl _ _ | refine bstep ?_ hb | refine Below.setCell ?_ (by simp <;> omega) _ | refine balloc ?_ _ | refine Below.drew ?_ | refine bdrewN ?_ _))
theorem sub_no2 (al ah bl bh : Int) (w : World) (h : Sp.vldB al ah = true) (k : Sp.vldB bl bh = false) :
    Calls Try.prog 23 #[spv al ah, spv bl bh] w fun e w' => e = .returned (spr ((0, 0), 1)) ∧ Below w.heap.size w w' := by
  go_enter Try.func23, Try.ntmps23
  go_wp2_with fail
  refine (op_no2 1 _ _ _ _ _ h k).mono ?_
  rintro e w1 ⟨rfl, hb⟩
  obtain ⟨c1, c2, c3, c4, _⟩ := pair_below (pair_new ((w.alloc _).alloc _) 0 0 _) hb
  simp only [World.size_alloc] at c1 c2 c3 c4
  go_wp2
  refine bodyPost_ret (v := spr _) (by rw [results_cell_tmp rfl]; go_simp) rfl ⟨rfl, ?_⟩
  (repeat' (first | exact Below.refl _ _ | refine bstep ?_ hb | refine Below.setCell ?_ (by simp <;> omega) _ | refine balloc ?_ _ | refine Below.drew ?_ | refine bdrewN ?_ _))
theorem sub_any (al ah bl bh : Int) (w : World) :
    Calls Try.prog 23 #[spv al ah, spv bl bh] w fun e w' => e = .returned (spr (Sp.subR al ah bl bh)) ∧ Below w.heap.size w w' := by
  unfold Sp.subR
  cases h : Sp.vldB al ah
  · rw [Sp.ite_no1 rfl]; exact sub_no1 _ _ _ _ _ h
  cases k : Sp.vldB bl bh
  · rw [Sp.ite_no2 rfl]; exact sub_no2 _ _ _ _ _ h k
  rw [Sp.ite_yes rfl rfl]
  exact sub_yes _ _ _ _ _ h k
theorem mul_yes (al ah bl bh : Int) (w : World) (h : Sp.vldB al ah = true) (k : Sp.vldB bl bh = true) :
    Calls Try.prog 26 #[spv al ah, spv bl bh] w fun e w' => e = .returned (spr (Sp.told (Sp.mn4 (Sp.mulD al bl) (Sp.mulD al bh) (Sp.mulD ah bl) (Sp.mulD ah bh)) (Sp.mx4 (Sp.mulU al bl) (Sp.mulU al bh) (Sp.mulU ah bl) (Sp.mulU ah bh)))) ∧ Below w.heap.size w w' := by
  go_enter Try.func26, Try.ntmps26
  go_wp2_with fail
  refine (op_mul _ _ _ _ _ h k).mono ?_
  rintro e w1 ⟨rfl, hb⟩
  obtain ⟨c1, c2, c3, c4, _⟩ := pair_below (pair_new ((w.alloc _).alloc _) 0 0 _) hb
  simp only [World.size_alloc] at c1 c2 c3 c4
  go_wp2
  refine bodyPost_ret (v := spr (Sp.told _ _)) (by rw [results_cell_tmp rfl]; go_simp) rfl ⟨rfl, ?_⟩
  (repeat' (first | exact Below.refl _ _ | refine bstep ?_ hb | refine Below.setCell ?_ (by simp <;> omega) _ | refine balloc ?_ _ | refine Below.drew ?_ | refine bdrewN ?_ _))
theorem mul_no1 (al ah bl bh : Int) (w : World) (h : Sp.vldB al ah = false) :
    Calls Try.prog 26 #[spv al ah, spv bl bh] w fun e w' => e = .returned (spr ((0, 0), 1)) ∧ Below w.heap.size w w' := by
  go_enter Try.func26, Try.ntmps26
  go_wp2_with fail
  refine (op_no1 2 _ _ _ _ _ h).mono ?_
  rintro e w1 ⟨rfl, hb⟩
  obtain ⟨c1, c2, c3, c4, _⟩ := pair_below (pair_new ((w.alloc _).alloc _) 0 0 _) hb
  simp only [World.size_alloc] at c1 c2 c3 c4
  go_wp2
  refine bodyPost_ret (v := spr _) (by rw [results_cell_tmp rfl]; go_simp) rfl ⟨rfl, ?_⟩
  (repeat' (first | exact Below.refl _ _ | refine bstep ?_ hb | refine Below.setCell ?_ (by simp <;> omega) _ | refine balloc ?_ _ | refine Below.drew ?_ | refine bdrewN ?_ _))
theorem mul_no2 (al ah bl bh : Int) (w : World) (h : Sp.vldB al ah = true) (k : Sp.vldB bl bh = false) :
    Calls Try.prog 26 #[spv al ah, spv bl bh] w fun e w' => e = .returned (spr ((0, 0), 1)) ∧ Below w.heap.size w w' := by
  go_enter Try.func26, Try.ntmps26
  go_wp2_with fail
  refine (op_no2 2 _ _ _ _ _ h k).mono ?_
  rintro e w1 ⟨rfl, hb⟩
  obtain ⟨c1, c2, c3, c4, _⟩ := pair_below (pair_new ((w.alloc _).alloc _) 0 0 _) hb
  simp only [World.size_alloc] at c1 c2 c3 c4
  go_wp2
  refine bodyPost_ret (v := spr _) (by rw [results_cell_tmp rfl]; go_simp) rfl ⟨rfl, ?_⟩
  (repeat' (first | exact Below.refl _ _ | refine bstep ?_ hb | refine Below.setCell ?_ (by simp <;> omega) _ | refine balloc ?_ _ | refine Below.drew ?_ | refine bdrewN ?_ _))
theorem mul_any (al ah bl bh : Int) (w : World) :
    Calls Try.prog 26 #[spv al ah, spv bl bh] w fun e w' => e = .returned (spr (Sp.mulR al ah bl bh)) ∧ Below w.heap.size w w' := by
  unfold Sp.mulR
  cases h : Sp.vldB al ah
  · rw [Sp.ite_no1 rfl]; exact mul_no1 _ _ _ _ _ h
  cases k : Sp.vldB bl bh
  · rw [Sp.ite_no2 rfl]; exact mul_no2 _ _ _ _ _ h k
  rw [Sp.ite_yes rfl rfl]
  exact mul_yes _ _ _ _ _ h k
theorem div_p (al ah bl bh : Int) (w : World) (h : Sp.vldB al ah = true) (k : Sp.vldB bl bh = true) (z : 0 < bl) :
    Calls Try.prog 30 #[spv al ah, spv bl bh] w fun e w' => e = .returned (spr (Sp.told (Sp.mn4 (Sp.fl (al * 1048576) bl) (Sp.fl (al * 1048576) bh) (Sp.fl (ah * 1048576) bl) (Sp.fl (ah * 1048576) bh)) (Sp.mx4 (Sp.ce (al * 1048576) bl) (Sp.ce (al * 1048576) bh) (Sp.ce (ah * 1048576) bl) (Sp.ce (ah * 1048576) bh)))) ∧ Below w.heap.size w w' := by
  go_enter Try.func30, Try.ntmps30
  go_wp2_with fail
  refine (op_divp _ _ _ _ _ h k z).mono ?_
  rintro e w1 ⟨rfl, hb⟩
  obtain ⟨c1, c2, c3, c4, _⟩ := pair_below (pair_new ((w.alloc _).alloc _) 0 0 _) hb
  simp only [World.size_alloc] at c1 c2 c3 c4
  go_wp2
  refine bodyPost_ret (v := spr (Sp.told _ _)) (by rw [results_cell_tmp rfl]; go_simp) rfl ⟨rfl, ?_⟩
  (repeat' (first | exact Below.refl _ _ | refine bstep ?_ hb | refine Below.setCell ?_ (by simp <;> omega) _ | refine balloc ?_ _ | refine Below.drew ?_ | refine bdrewN ?_ _))
theorem div_n (al ah bl bh : Int) (w : World) (h : Sp.vldB al ah = true) (k : Sp.vldB bl bh = true) (z0 : bl ≤ 0) (z : bh < 0) :
    Calls Try.prog 30 #[spv al ah, spv bl bh] w fun e w' => e = .returned (spr (Sp.told (Sp.mn4 (Sp.fl (al * 1048576) bl) (Sp.fl (al * 1048576) bh) (Sp.fl (ah * 1048576) bl) (Sp.fl (ah * 1048576) bh)) (Sp.mx4 (Sp.ce (al * 1048576) bl) (Sp.ce (al * 1048576) bh) (Sp.ce (ah * 1048576) bl) (Sp.ce (ah * 1048576) bh)))) ∧ Below w.heap.size w w' := by
  go_enter Try.func30, Try.ntmps30
  go_wp2_with fail
  refine (op_divn _ _ _ _ _ h k z0 z).mono ?_
  rintro e w1 ⟨rfl, hb⟩
  obtain ⟨c1, c2, c3, c4, _⟩ := pair_below (pair_new ((w.alloc _).alloc _) 0 0 _) hb
  simp only [World.size_alloc] at c1 c2 c3 c4
  go_wp2
  refine bodyPost_ret (v := spr (Sp.told _ _)) (by rw [results_cell_tmp rfl]; go_simp) rfl ⟨rfl, ?_⟩
  (repeat' (first | exact Below.refl _ _ | refine bstep ?_ hb | refine Below.setCell ?_ (by simp <;> omega) _ | refine balloc ?_ _ | refine Below.drew ?_ | refine bdrewN ?_ _))
theorem div_z (al ah bl bh : Int) (w : World) (h : Sp.vldB al ah = true) (k : Sp.vldB bl bh = true) (z1 : bl ≤ 0) (z2 : 0 ≤ bh) :
    Calls Try.prog 30 #[spv al ah, spv bl bh] w fun e w' => e = .returned (spr ((0, 0), 11)) ∧ Below w.heap.size w w' := by
  go_enter Try.func30, Try.ntmps30
  go_wp2_with fail
  refine (op_zero _ _ _ _ _ h k z1 z2).mono ?_
  rintro e w1 ⟨rfl, hb⟩
  obtain ⟨c1, c2, c3, c4, _⟩ := pair_below (pair_new ((w.alloc _).alloc _) 0 0 _) hb
  simp only [World.size_alloc] at c1 c2 c3 c4
  go_wp2
  refine bodyPost_ret (v := spr _) (by rw [results_cell_tmp rfl]; go_simp) rfl ⟨rfl, ?_⟩
  (repeat' (first | exact Below.refl _ _ | refine bstep ?_ hb | refine Below.setCell ?_ (by simp <;> omega) _ | refine balloc ?_ _ | refine Below.drew ?_ | refine bdrewN ?_ _))
theorem div_no1 (al ah bl bh : Int) (w : World) (h : Sp.vldB al ah = false) :
    Calls Try.prog 30 #[spv al ah, spv bl bh] w fun e w' => e = .returned (spr ((0, 0), 1)) ∧ Below w.heap.size w w' := by
  go_enter Try.func30, Try.ntmps30
  go_wp2_with fail
  refine (op_no1 3 _ _ _ _ _ h).mono ?_
  rintro e w1 ⟨rfl, hb⟩
  obtain ⟨c1, c2, c3, c4, _⟩ := pair_below (pair_new ((w.alloc _).alloc _) 0 0 _) hb
  simp only [World.size_alloc] at c1 c2 c3 c4
  go_wp2
  refine bodyPost_ret (v := spr _) (by rw [results_cell_tmp rfl]; go_simp) rfl ⟨rfl, ?_⟩
  (repeat' (first | exact Below.refl _ _ | refine bstep ?_ hb | refine Below.setCell ?_ (by simp <;> omega) _ | refine balloc ?_ _ | refine Below.drew ?_ | refine bdrewN ?_ _))
theorem div_no2 (al ah bl bh : Int) (w : World) (h : Sp.vldB al ah = true) (k : Sp.vldB bl bh = false) :
    Calls Try.prog 30 #[spv al ah, spv bl bh] w fun e w' => e = .returned (spr ((0, 0), 1)) ∧ Below w.heap.size w w' := by
  go_enter Try.func30, Try.ntmps30
  go_wp2_with fail
  refine (op_no2 3 _ _ _ _ _ h k).mono ?_
  rintro e w1 ⟨rfl, hb⟩
  obtain ⟨c1, c2, c3, c4, _⟩ := pair_below (pair_new ((w.alloc _).alloc _) 0 0 _) hb
  simp only [World.size_alloc] at c1 c2 c3 c4
  go_wp2
  refine bodyPost_ret (v := spr _) (by rw [results_cell_tmp rfl]; go_simp) rfl ⟨rfl, ?_⟩
  (repeat' (first | exact Below.refl _ _ | refine bstep ?_ hb | refine Below.setCell ?_ (by simp <;> omega) _ | refine balloc ?_ _ | refine Below.drew ?_ | refine bdrewN ?_ _))
theorem div_any (al ah bl bh : Int) (w : World) :
    Calls Try.prog 30 #[spv al ah, spv bl bh] w fun e w' => e = .returned (spr (Sp.divR al ah bl bh)) ∧ Below w.heap.size w w' := by
  unfold Sp.divR
  cases h : Sp.vldB al ah
  · rw [Sp.ite_no1 rfl]; exact div_no1 _ _ _ _ _ h
  cases k : Sp.vldB bl bh
  · rw [Sp.ite_no2 rfl]; exact div_no2 _ _ _ _ _ h k
  rw [Sp.ite_yes rfl rfl]
  rcases Int.lt_or_le 0 bl with z | z
  · rw [if_neg (by omega)]; exact div_p _ _ _ _ _ h k z
  rcases Int.lt_or_le bh 0 with z2 | z2
  · rw [if_neg (by omega)]; exact div_n _ _ _ _ _ h k z z2
  · rw [if_pos ⟨z, z2⟩]; exact div_z _ _ _ _ _ h k z z2
theorem radd_yes (al ah bl bh : Int) (w : World) (h : Sp.vldB al ah = true) (k : Sp.vldB bl bh = true) :
    Calls Try.prog 22 #[spv al ah, spv bl bh] w fun e w' => e = .returned (spr (Sp.told (al + bl) (ah + bh))) ∧ Below w.heap.size w w' := by
  obtain ⟨a1, a2, a3⟩ := Sp.vld_iff.1 h
  obtain ⟨b1, b2, b3⟩ := Sp.vld_iff.1 k
  go_enter Try.func22, Try.ntmps22
  go_wp2_with fail
  refine (rvalid_yes _ _ _ h).mono ?_
  rintro e w1 ⟨rfl, rfl⟩
  go_wp2_with fail
  refine (rvalid_yes _ _ _ k).mono ?_
  rintro e w1 ⟨rfl, rfl⟩
  go_wp2_with fail
  refine (told_any _ _ _).mono ?_
  rintro e w1 ⟨rfl, hb⟩
  obtain ⟨c1, c2, c3, c4, _⟩ := pair_below (pair_alloc (pair_alloc (pair_new ((w.alloc _).alloc _) 0 0 _) _) _) hb
  simp only [World.size_alloc] at c1 c2 c3 c4
  go_wp2
  refine bodyPost_ret (v := spr (Sp.told _ _)) (by rw [results_cell_tmp rfl]; go_simp) rfl ⟨rfl, ?_⟩
  (repeat' (first | exact Below.refl _ _ | refine bstep ?_ hb | refine Below.setCell ?_ (by simp <;> omega) _ | refine balloc ?_ _ | refine Below.drew ?_ | refine bdrewN ?_ _))
theorem radd_no1 (al ah bl bh : Int) (w : World) (h : Sp.vldB al ah = false) :
    Calls Try.prog 22 #[spv al ah, spv bl bh] w fun e w' => e = .returned (spr ((0, 0), 1)) ∧ Below w.heap.size w w' := by
  go_enter Try.func22, Try.ntmps22
  go_wp2_with fail
  refine (rvalid_no _ _ _ h).mono ?_
  rintro e w1 ⟨rfl, rfl⟩
  go_wp2
  refine bodyPost_ret (v := spr ((0, 0), 1)) (by rw [results_cell_tmp rfl]; go_simp) rfl ⟨rfl, ?_⟩
  (repeat' (first | exact Below.refl _ _ | refine Below.setCell ?_ (by simp <;> omega) _ | refine balloc ?_ _ | refine Below.drew ?_ | refine bdrewN ?_ _))
theorem radd_no2 (al ah bl bh : Int) (w : World) (h : Sp.vldB al ah = true) (k : Sp.vldB bl bh = false) :
    Calls Try.prog 22 #[spv al ah, spv bl bh] w fun e w' => e = .returned (spr ((0, 0), 1)) ∧ Below w.heap.size w w' := by
  go_enter Try.func22, Try.ntmps22
  go_wp2_with fail
  refine (rvalid_yes _ _ _ h).mono ?_
  rintro e w1 ⟨rfl, rfl⟩
  go_wp2_with fail
  refine (rvalid_no _ _ _ k).mono ?_
  rintro e w1 ⟨rfl, rfl⟩
  go_wp2
  refine bodyPost_ret (v := spr ((0, 0), 1)) (by rw [results_cell_tmp rfl]; go_simp) rfl ⟨rfl, ?_⟩
  (repeat' (first | exact Below.refl _ _ | refine Below.setCell ?_ (by simp <;> omega) _ | refine balloc ?_ _ | refine Below.drew ?_ | refine bdrewN ?_ _))
theorem radd_any (al ah bl bh : Int) (w : World) :
    Calls Try.prog 22 #[spv al ah, spv bl bh] w fun e w' => e = .returned (spr (Sp.addR al ah bl bh)) ∧ Below w.heap.size w w' := by
  unfold Sp.addR
  cases h : Sp.vldB al ah
  · rw [Sp.ite_no1 rfl]; exact radd_no1 _ _ _ _ _ h
  cases k : Sp.vldB bl bh
  · rw [Sp.ite_no2 rfl]; exact radd_no2 _ _ _ _ _ h k
  rw [Sp.ite_yes rfl rfl]
  exact radd_yes _ _ _ _ _ h k
theorem rsub_yes (al ah bl bh : Int) (w : World) (h : Sp.vldB al ah = true) (k : Sp.vldB bl bh = true) :
    Calls Try.prog 24 #[spv al ah, spv bl bh] w fun e w' => e = .returned (spr (Sp.told (al - bh) (ah - bl))) ∧ Below w.heap.size w w' := by
  obtain ⟨a1, a2, a3⟩ := Sp.vld_iff.1 h
  obtain ⟨b1, b2, b3⟩ := Sp.vld_iff.1 k
  go_enter Try.func24, Try.ntmps24
  go_wp2_with fail
  refine (rvalid_yes _ _ _ h).mono ?_
  rintro e w1 ⟨rfl, rfl⟩
  go_wp2_with fail
  refine (rvalid_yes _ _ _ k).mono ?_
  rintro e w1 ⟨rfl, rfl⟩
  go_wp2_with fail
  refine (told_any _ _ _).mono ?_
  rintro e w1 ⟨rfl, hb⟩
  obtain ⟨c1, c2, c3, c4, _⟩ := pair_below (pair_alloc (pair_alloc (pair_new ((w.alloc _).alloc _) 0 0 _) _) _) hb
  simp only [World.size_alloc] at c1 c2 c3 c4
  go_wp2
  refine bodyPost_ret (v := spr (Sp.told _ _)) (by rw [results_cell_tmp rfl]; go_simp) rfl ⟨rfl, ?_⟩
  (repeat' (first | exact Below.refl _ _ | refine bstep ?_ hb | refine Below.setCell ?_ (by simp <;> omega) _ | refine balloc ?_ _ | refine Below.drew ?_ | refine bdrewN ?_ _))
theorem rsub_no1 (al ah bl bh : Int) (w : World) (h : Sp.vldB al ah = false) :
    Calls Try.prog 24 #[spv al ah, spv bl bh] w fun e w' => e = .returned (spr ((0, 0), 1)) ∧ Below w.heap.size w w' := by
  go_enter Try.func24, Try.ntmps24
  go_wp2_with fail
  refine (rvalid_no _ _ _ h).mono ?_
  rintro e w1 ⟨rfl, rfl⟩
  go_wp2
  refine bodyPost_ret (v := spr ((0, 0), 1)) (by rw [results_cell_tmp rfl]; go_simp) rfl ⟨rfl, ?_⟩
  (repeat' (first | exact Below.refl _ _ | refine Below.setCell ?_ (by simp <;> omega) _ | refine balloc ?_ _ | refine Below.drew ?_ | refine bdrewN ?_ _))
theorem rsub_no2 (al ah bl bh : Int) (w : World) (h : Sp.vldB al ah = true) (k : Sp.vldB bl bh = false) :
    Calls Try.prog 24 #[spv al ah, spv bl bh] w fun e w' => e = .returned (spr ((0, 0), 1)) ∧ Below w.heap.size w w' := by
  go_enter Try.func24, Try.ntmps24
  go_wp2_with fail
  refine (rvalid_yes _ _ _ h).mono ?_
  rintro e w1 ⟨rfl, rfl⟩
  go_wp2_with fail
  refine (rvalid_no _ _ _ k).mono ?_
  rintro e w1 ⟨rfl, rfl⟩
  go_wp2
  refine bodyPost_ret (v := spr ((0, 0), 1)) (by rw [results_cell_tmp rfl]; go_simp) rfl ⟨rfl, ?_⟩
  (repeat' (first | exact Below.refl _ _ | refine Below.setCell ?_ (by simp <;> omega) _ | refine balloc ?_ _ | refine Below.drew ?_ | refine bdrewN ?_ _))
theorem rsub_any (al ah bl bh : Int) (w : World) :
    Calls Try.prog 24 #[spv al ah, spv bl bh] w fun e w' => e = .returned (spr (Sp.subR al ah bl bh)) ∧ Below w.heap.size w w' := by
  unfold Sp.subR
  cases h : Sp.vldB al ah
  · rw [Sp.ite_no1 rfl]; exact rsub_no1 _ _ _ _ _ h
  cases k : Sp.vldB bl bh
  · rw [Sp.ite_no2 rfl]; exact rsub_no2 _ _ _ _ _ h k
  rw [Sp.ite_yes rfl rfl]
  exact rsub_yes _ _ _ _ _ h k

end Go.Proofs.Ythmlhpjhoolflaa
