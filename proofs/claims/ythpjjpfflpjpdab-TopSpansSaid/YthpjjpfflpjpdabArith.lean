/-
  The contracts of Add and Sub, in the program and in the document's answer, and of Mul and Div in the program.
-/
import Derived.Test.YthpjjpfflpjpdabOp0
import Derived.Test.YthpjjpfflpjpdabOp1
import Derived.Test.YthpjjpfflpjpdabOp2
import Derived.Test.YthpjjpfflpjpdabOp3
import Derived.Test.YthpjjpfflpjpdabOp4
namespace Go.Proofs.Ythpjjpfflpjpdab
open Go.ChangeShapes Go.WideShapes Go.RowKit
theorem add_yes (al ah bl bh : Int) (w : World) (h : Sp.vldB al ah = true) (k : Sp.vldB bl bh = true) :
    Calls Try.prog 16 #[spv al ah, spv bl bh] w fun e w' => e = .returned (spr (Sp.told (al + bl) (ah + bh))) ∧ Below w.heap.size w w' := by
  have C := fun w => op_add al ah bl bh w h k
  have q := Sp.add4 (Sp.vld_iff.1 h).2.1 (Sp.vld_iff.1 k).2.1
  rw [q.1, q.2] at C
  have K := Lib.hid C
  clear C q
  go_enter Try.func16, Try.ntmps16
  go_wp2_with fail
  refine (K.out _).mono ?_
  rintro e w1 ⟨rfl, hb⟩
  obtain ⟨c1, c2, c3, c4, _⟩ := pair_below (pair_new ((w.alloc _).alloc _) 0 0 _) hb
  simp only [World.size_alloc] at c1 c2 c3 c4
  go_wp2
  refine bodyPost_ret (v := spr (Sp.told _ _)) (by rw [results_cell_tmp rfl]; go_simp) rfl ⟨rfl, ?_⟩
  (repeat' (first | exact Below.refl _ _ | refine bstep ?_ hb | refine Below.setCell ?_ (by simp <;> omega) _ | refine balloc ?_ _ | refine Below.drew ?_ | refine bdrewN ?_ _))
theorem add_no1 (al ah bl bh : Int) (w : World) (h : Sp.vldB al ah = false) :
    Calls Try.prog 16 #[spv al ah, spv bl bh] w fun e w' => e = .returned (spr ((0, 0), 1)) ∧ Below w.heap.size w w' := by
  go_enter Try.func16, Try.ntmps16
  go_wp2_with fail
  refine (op_no1 0 _ _ _ _ _ h).mono ?_
  rintro e w1 ⟨rfl, hb⟩
  obtain ⟨c1, c2, c3, c4, _⟩ := pair_below (pair_new ((w.alloc _).alloc _) 0 0 _) hb
  simp only [World.size_alloc] at c1 c2 c3 c4
  go_wp2
  refine bodyPost_ret (v := spr _) (by rw [results_cell_tmp rfl]; go_simp) rfl ⟨rfl, ?_⟩
  (repeat' (first | exact Below.refl _ _ | refine bstep ?_ hb | refine Below.setCell ?_ (by simp <;> omega) _ | refine balloc ?_ _ | refine Below.drew ?_ | refine bdrewN ?_ _))
theorem add_no2 (al ah bl bh : Int) (w : World) (h : Sp.vldB al ah = true) (k : Sp.vldB bl bh = false) :
    Calls Try.prog 16 #[spv al ah, spv bl bh] w fun e w' => e = .returned (spr ((0, 0), 1)) ∧ Below w.heap.size w w' := by
  go_enter Try.func16, Try.ntmps16
  go_wp2_with fail
  refine (op_no2 0 _ _ _ _ _ h k).mono ?_
  rintro e w1 ⟨rfl, hb⟩
  obtain ⟨c1, c2, c3, c4, _⟩ := pair_below (pair_new ((w.alloc _).alloc _) 0 0 _) hb
  simp only [World.size_alloc] at c1 c2 c3 c4
  go_wp2
  refine bodyPost_ret (v := spr _) (by rw [results_cell_tmp rfl]; go_simp) rfl ⟨rfl, ?_⟩
  (repeat' (first | exact Below.refl _ _ | refine bstep ?_ hb | refine Below.setCell ?_ (by simp <;> omega) _ | refine balloc ?_ _ | refine Below.drew ?_ | refine bdrewN ?_ _))
theorem add_any (al ah bl bh : Int) (w : World) :
    Calls Try.prog 16 #[spv al ah, spv bl bh] w fun e w' => e = .returned (spr (Sp.addR al ah bl bh)) ∧ Below w.heap.size w w' := by
  unfold Sp.addR
  cases h : Sp.vldB al ah
  · rw [Sp.ite_no1 rfl]; exact add_no1 _ _ _ _ _ h
  cases k : Sp.vldB bl bh
  · rw [Sp.ite_no2 rfl]; exact add_no2 _ _ _ _ _ h k
  rw [Sp.ite_yes rfl rfl]
  exact add_yes _ _ _ _ _ h k
theorem mul_yes (al ah bl bh : Int) (w : World) (h : Sp.vldB al ah = true) (k : Sp.vldB bl bh = true) :
    Calls Try.prog 18 #[spv al ah, spv bl bh] w fun e w' => e = .returned (spr (Sp.told (Sp.mn4 (Sp.mulD al bl) (Sp.mulD al bh) (Sp.mulD ah bl) (Sp.mulD ah bh)) (Sp.mx4 (Sp.mulU al bl) (Sp.mulU al bh) (Sp.mulU ah bl) (Sp.mulU ah bh)))) ∧ Below w.heap.size w w' := by
  go_enter Try.func18, Try.ntmps18
  go_wp2_with fail
  refine (op_mul _ _ _ _ _ h k).mono ?_
  rintro e w1 ⟨rfl, hb⟩
  obtain ⟨c1, c2, c3, c4, _⟩ := pair_below (pair_new ((w.alloc _).alloc _) 0 0 _) hb
  simp only [World.size_alloc] at c1 c2 c3 c4
  go_wp2
  refine bodyPost_ret (v := spr (Sp.told _ _)) (by rw [results_cell_tmp rfl]; go_simp) rfl ⟨rfl, ?_⟩
  (repeat' (first | exact Below.refl _ _ | refine bstep ?_ hb | refine Below.setCell ?_ (by simp <;> omega) _ | refine balloc ?_ _ | refine Below.drew ?_ | refine bdrewN ?_ _))
theorem mul_no1 (al ah bl bh : Int) (w : World) (h : Sp.vldB al ah = false) :
    Calls Try.prog 18 #[spv al ah, spv bl bh] w fun e w' => e = .returned (spr ((0, 0), 1)) ∧ Below w.heap.size w w' := by
  go_enter Try.func18, Try.ntmps18
  go_wp2_with fail
  refine (op_no1 2 _ _ _ _ _ h).mono ?_
  rintro e w1 ⟨rfl, hb⟩
  obtain ⟨c1, c2, c3, c4, _⟩ := pair_below (pair_new ((w.alloc _).alloc _) 0 0 _) hb
  simp only [World.size_alloc] at c1 c2 c3 c4
  go_wp2
  refine bodyPost_ret (v := spr _) (by rw [results_cell_tmp rfl]; go_simp) rfl ⟨rfl, ?_⟩
  (repeat' (first | exact Below.refl _ _ | refine bstep ?_ hb | refine Below.setCell ?_ (by simp <;> omega) _ | refine balloc ?_ _ | refine Below.drew ?_ | refine bdrewN ?_ _))
theorem mul_no2 (al ah bl bh : Int) (w : World) (h : Sp.vldB al ah = true) (k : Sp.vldB bl bh = false) :
    Calls Try.prog 18 #[spv al ah, spv bl bh] w fun e w' => e = .returned (spr ((0, 0), 1)) ∧ Below w.heap.size w w' := by
  go_enter Try.func18, Try.ntmps18
  go_wp2_with fail
  refine (op_no2 2 _ _ _ _ _ h k).mono ?_
  rintro e w1 ⟨rfl, hb⟩
  obtain ⟨c1, c2, c3, c4, _⟩ := pair_below (pair_new ((w.alloc _).alloc _) 0 0 _) hb
  simp only [World.size_alloc] at c1 c2 c3 c4
  go_wp2
  refine bodyPost_ret (v := spr _) (by rw [results_cell_tmp rfl]; go_simp) rfl ⟨rfl, ?_⟩
  (repeat' (first | exact Below.refl _ _ | refine bstep ?_ hb | refine Below.setCell ?_ (by simp <;> omega) _ | refine balloc ?_ _ | refine Below.drew ?_ | refine bdrewN ?_ _))
theorem mul_any (al ah bl bh : Int) (w : World) :
    Calls Try.prog 18 #[spv al ah, spv bl bh] w fun e w' => e = .returned (spr (Sp.mulR al ah bl bh)) ∧ Below w.heap.size w w' := by
  unfold Sp.mulR
  cases h : Sp.vldB al ah
  · rw [Sp.ite_no1 rfl]; exact mul_no1 _ _ _ _ _ h
  cases k : Sp.vldB bl bh
  · rw [Sp.ite_no2 rfl]; exact mul_no2 _ _ _ _ _ h k
  rw [Sp.ite_yes rfl rfl]
  exact mul_yes _ _ _ _ _ h k
theorem div_p (al ah bl bh : Int) (w : World) (h : Sp.vldB al ah = true) (k : Sp.vldB bl bh = true) (z : 0 < bl) :
    Calls Try.prog 22 #[spv al ah, spv bl bh] w fun e w' => e = .returned (spr (Sp.told (Sp.mn4 (Sp.fl (al * 1048576) bl) (Sp.fl (al * 1048576) bh) (Sp.fl (ah * 1048576) bl) (Sp.fl (ah * 1048576) bh)) (Sp.mx4 (Sp.ce (al * 1048576) bl) (Sp.ce (al * 1048576) bh) (Sp.ce (ah * 1048576) bl) (Sp.ce (ah * 1048576) bh)))) ∧ Below w.heap.size w w' := by
  go_enter Try.func22, Try.ntmps22
  go_wp2_with fail
  refine (op_divp _ _ _ _ _ h k z).mono ?_
  rintro e w1 ⟨rfl, hb⟩
  obtain ⟨c1, c2, c3, c4, _⟩ := pair_below (pair_new ((w.alloc _).alloc _) 0 0 _) hb
  simp only [World.size_alloc] at c1 c2 c3 c4
  go_wp2
  refine bodyPost_ret (v := spr (Sp.told _ _)) (by rw [results_cell_tmp rfl]; go_simp) rfl ⟨rfl, ?_⟩
  (repeat' (first | exact Below.refl _ _ | refine bstep ?_ hb | refine Below.setCell ?_ (by simp <;> omega) _ | refine balloc ?_ _ | refine Below.drew ?_ | refine bdrewN ?_ _))
theorem div_n (al ah bl bh : Int) (w : World) (h : Sp.vldB al ah = true) (k : Sp.vldB bl bh = true) (z0 : bl ≤ 0) (z : bh < 0) :
    Calls Try.prog 22 #[spv al ah, spv bl bh] w fun e w' => e = .returned (spr (Sp.told (Sp.mn4 (Sp.fl (al * 1048576) bl) (Sp.fl (al * 1048576) bh) (Sp.fl (ah * 1048576) bl) (Sp.fl (ah * 1048576) bh)) (Sp.mx4 (Sp.ce (al * 1048576) bl) (Sp.ce (al * 1048576) bh) (Sp.ce (ah * 1048576) bl) (Sp.ce (ah * 1048576) bh)))) ∧ Below w.heap.size w w' := by
  go_enter Try.func22, Try.ntmps22
  go_wp2_with fail
  refine (op_divn _ _ _ _ _ h k z0 z).mono ?_
  rintro e w1 ⟨rfl, hb⟩
  obtain ⟨c1, c2, c3, c4, _⟩ := pair_below (pair_new ((w.alloc _).alloc _) 0 0 _) hb
  simp only [World.size_alloc] at c1 c2 c3 c4
  go_wp2
  refine bodyPost_ret (v := spr (Sp.told _ _)) (by rw [results_cell_tmp rfl]; go_simp) rfl ⟨rfl, ?_⟩
  (repeat' (first | exact Below.refl _ _ | refine bstep ?_ hb | refine Below.setCell ?_ (by simp <;> omega) _ | refine balloc ?_ _ | refine Below.drew ?_ | refine bdrewN ?_ _))
theorem div_z (al ah bl bh : Int) (w : World) (h : Sp.vldB al ah = true) (k : Sp.vldB bl bh = true) (z1 : bl ≤ 0) (z2 : 0 ≤ bh) :
    Calls Try.prog 22 #[spv al ah, spv bl bh] w fun e w' => e = .returned (spr ((0, 0), 11)) ∧ Below w.heap.size w w' := by
  go_enter Try.func22, Try.ntmps22
  go_wp2_with fail
  refine (op_zero _ _ _ _ _ h k z1 z2).mono ?_
  rintro e w1 ⟨rfl, hb⟩
  obtain ⟨c1, c2, c3, c4, _⟩ := pair_below (pair_new ((w.alloc _).alloc _) 0 0 _) hb
  simp only [World.size_alloc] at c1 c2 c3 c4
  go_wp2
  refine bodyPost_ret (v := spr _) (by rw [results_cell_tmp rfl]; go_simp) rfl ⟨rfl, ?_⟩
  (repeat' (first | exact Below.refl _ _ | refine bstep ?_ hb | refine Below.setCell ?_ (by simp <;> omega) _ | refine balloc ?_ _ | refine Below.drew ?_ | refine bdrewN ?_ _))
theorem div_no1 (al ah bl bh : Int) (w : World) (h : Sp.vldB al ah = false) :
    Calls Try.prog 22 #[spv al ah, spv bl bh] w fun e w' => e = .returned (spr ((0, 0), 1)) ∧ Below w.heap.size w w' := by
  go_enter Try.func22, Try.ntmps22
  go_wp2_with fail
  refine (op_no1 3 _ _ _ _ _ h).mono ?_
  rintro e w1 ⟨rfl, hb⟩
  obtain ⟨c1, c2, c3, c4, _⟩ := pair_below (pair_new ((w.alloc _).alloc _) 0 0 _) hb
  simp only [World.size_alloc] at c1 c2 c3 c4
  go_wp2
  refine bodyPost_ret (v := spr _) (by rw [results_cell_tmp rfl]; go_simp) rfl ⟨rfl, ?_⟩
  (repeat' (first | exact Below.refl _ _ | refine bstep ?_ hb | refine Below.setCell ?_ (by simp <;> omega) _ | refine balloc ?_ _ | refine Below.drew ?_ | refine bdrewN ?_ _))
theorem div_no2 (al ah bl bh : Int) (w : World) (h : Sp.vldB al ah = true) (k : Sp.vldB bl bh = false) :
    Calls Try.prog 22 #[spv al ah, spv bl bh] w fun e w' => e = .returned (spr ((0, 0), 1)) ∧ Below w.heap.size w w' := by
  go_enter Try.func22, Try.ntmps22
  go_wp2_with fail
  refine (op_no2 3 _ _ _ _ _ h k).mono ?_
  rintro e w1 ⟨rfl, hb⟩
  obtain ⟨c1, c2, c3, c4, _⟩ := pair_below (pair_new ((w.alloc _).alloc _) 0 0 _) hb
  simp only [World.size_alloc] at c1 c2 c3 c4
  go_wp2
  refine bodyPost_ret (v := spr _) (by rw [results_cell_tmp rfl]; go_simp) rfl ⟨rfl, ?_⟩
  (repeat' (first | exact Below.refl _ _ | refine bstep ?_ hb | refine Below.setCell ?_ (by simp <;> omega) _ | refine balloc ?_ _ | refine Below.drew ?_ | refine bdrewN ?_ _))
theorem div_any (al ah bl bh : Int) (w : World) :
    Calls Try.prog 22 #[spv al ah, spv bl bh] w fun e w' => e = .returned (spr (Sp.divR al ah bl bh)) ∧ Below w.heap.size w w' := by
  unfold Sp.divR
  cases h : Sp.vldB al ah
  · rw [Sp.ite_no1 rfl]; exact div_no1 _ _ _ _ _ h
  cases k : Sp.vldB bl bh
  · rw [Sp.ite_no2 rfl]; exact div_no2 _ _ _ _ _ h k
  rw [Sp.ite_yes rfl rfl]
  rcases Int.lt_or_le 0 bl with z | z
  · rw [if_neg (by omega)]; exact div_p _ _ _ _ _ h k z
  rcases Int.lt_or_le bh 0 with z2 | z2
  · rw [if_neg (by omega)]; exact div_n _ _ _ _ _ h k z z2
  · rw [if_pos ⟨z, z2⟩]; exact div_z _ _ _ _ _ h k z z2
end Go.Proofs.Ythpjjpfflpjpdab
