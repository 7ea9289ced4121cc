/-
  The contracts of Inverse and Cube, in the program and in the document's answer.
-/
import Derived.Test.YtlegalibjkeccaaBelow
namespace Go.Proofs.Ytlegalibjkeccaa
open Go.ChangeShapes Go.WideShapes Go.RowKit
def invR (n s : Int) : Sp.R := if 1 ≤ n ∧ n ≤ 1099511627776 ∧ 1 ≤ s ∧ s ≤ 8 then belowR ((s.toNat * 1048576) * (s.toNat * 1048576)) n.toNat 1 else ((0, 0), 1)
def cubeR (n s : Int) : Sp.R := if 1 ≤ n ∧ n ≤ 1099511627776 ∧ 1 ≤ s ∧ s ≤ 8 then belowR ((s.toNat * s.toNat * s.toNat * 1048576) * (s.toNat * s.toNat * s.toNat * 1048576)) n.toNat 3 else ((0, 0), 1)
theorem inv_1 (x : Nat) (w : World) (h1 : 1 ≤ x) (h2 : x ≤ 1099511627776) :
    Calls Try.prog 86 #[.int .i64 x, .int .i64 1] w fun e w' => e = .returned (spr (belowR 1099511627776 x 1)) ∧ Below w.heap.size w w' := by
  have C : Hid (∀ w : World, Calls Try.prog 90 #[.int .i64 1099511627776, .int .i64 x, .int .i64 1] w fun e w' => e = .returned (.tuple #[.int .i64 ((Rt.isq (QT 1099511627776 x 1) : Nat) : Int), .int .i64 ((qUp 1099511627776 x 1 : Nat) : Int)]) ∧ w = w') := fun w => qroot_any 1099511627776 x 1 w (by decide) h1 h2 (by decide)
  have a1 : (1 : Int) ≤ (x : Int) := by omega
  have a2 : (x : Int) ≤ 1099511627776 := by omega
  clear h1 h2
  unfold belowR
  go_enter Try.func86, Try.ntmps86
  go_wp2_with fail
  refine (betw_yes _ _ _ _ a1 a2).mono ?_
  rintro e w1 ⟨rfl, rfl⟩
  go_wp2_with fail
  refine (betw_yes _ _ _ _ (by decide) (by decide)).mono ?_
  rintro e w1 ⟨rfl, rfl⟩
  go_wp2_with fail
  refine (C.out _).mono ?_
  rintro e w1 ⟨rfl, rfl⟩
  go_wp2_with fail
  refine (least_any _ _ _).mono ?_
  rintro e w2 ⟨rfl, hb⟩
  obtain ⟨g1, g2, g3, g4, g5⟩ := pair_below (pair_new _ _ _ _) hb
  go_wp2
  refine bodyPost_ret (v := spr (Sp.told _ _)) (by rw [results_cell_tmp rfl]; go_simp) rfl ⟨rfl, ?_⟩
  (repeat' (first | exact Below.refl _ _ | refine bstep ?_ hb | refine Below.setCell ?_ (by simp <;> omega) _ | refine balloc ?_ _ | refine Below.drew ?_ | refine bdrewN ?_ _))
theorem inv_2 (x : Nat) (w : World) (h1 : 1 ≤ x) (h2 : x ≤ 1099511627776) :
    Calls Try.prog 86 #[.int .i64 x, .int .i64 2] w fun e w' => e = .returned (spr (belowR 4398046511104 x 1)) ∧ Below w.heap.size w w' := by
  have C : Hid (∀ w : World, Calls Try.prog 90 #[.int .i64 4398046511104, .int .i64 x, .int .i64 1] w fun e w' => e = .returned (.tuple #[.int .i64 ((Rt.isq (QT 4398046511104 x 1) : Nat) : Int), .int .i64 ((qUp 4398046511104 x 1 : Nat) : Int)]) ∧ w = w') := fun w => qroot_any 4398046511104 x 1 w (by decide) h1 h2 (by decide)
  have a1 : (1 : Int) ≤ (x : Int) := by omega
  have a2 : (x : Int) ≤ 1099511627776 := by omega
  clear h1 h2
  unfold belowR
  go_enter Try.func86, Try.ntmps86
  go_wp2_with fail
  refine (betw_yes _ _ _ _ a1 a2).mono ?_
  rintro e w1 ⟨rfl, rfl⟩
  go_wp2_with fail
  refine (betw_yes _ _ _ _ (by decide) (by decide)).mono ?_
  rintro e w1 ⟨rfl, rfl⟩
  go_wp2_with fail
  refine (C.out _).mono ?_
  rintro e w1 ⟨rfl, rfl⟩
  go_wp2_with fail
  refine (least_any _ _ _).mono ?_
  rintro e w2 ⟨rfl, hb⟩
  obtain ⟨g1, g2, g3, g4, g5⟩ := pair_below (pair_new _ _ _ _) hb
  go_wp2
  refine bodyPost_ret (v := spr (Sp.told _ _)) (by rw [results_cell_tmp rfl]; go_simp) rfl ⟨rfl, ?_⟩
  (repeat' (first | exact Below.refl _ _ | refine bstep ?_ hb | refine Below.setCell ?_ (by simp <;> omega) _ | refine balloc ?_ _ | refine Below.drew ?_ | refine bdrewN ?_ _))
theorem inv_3 (x : Nat) (w : World) (h1 : 1 ≤ x) (h2 : x ≤ 1099511627776) :
    Calls Try.prog 86 #[.int .i64 x, .int .i64 3] w fun e w' => e = .returned (spr (belowR 9895604649984 x 1)) ∧ Below w.heap.size w w' := by
  have C : Hid (∀ w : World, Calls Try.prog 90 #[.int .i64 9895604649984, .int .i64 x, .int .i64 1] w fun e w' => e = .returned (.tuple #[.int .i64 ((Rt.isq (QT 9895604649984 x 1) : Nat) : Int), .int .i64 ((qUp 9895604649984 x 1 : Nat) : Int)]) ∧ w = w') := fun w => qroot_any 9895604649984 x 1 w (by decide) h1 h2 (by decide)
  have a1 : (1 : Int) ≤ (x : Int) := by omega
  have a2 : (x : Int) ≤ 1099511627776 := by omega
  clear h1 h2
  unfold belowR
  go_enter Try.func86, Try.ntmps86
  go_wp2_with fail
  refine (betw_yes _ _ _ _ a1 a2).mono ?_
  rintro e w1 ⟨rfl, rfl⟩
  go_wp2_with fail
  refine (betw_yes _ _ _ _ (by decide) (by decide)).mono ?_
  rintro e w1 ⟨rfl, rfl⟩
  go_wp2_with fail
  refine (C.out _).mono ?_
  rintro e w1 ⟨rfl, rfl⟩
  go_wp2_with fail
  refine (least_any _ _ _).mono ?_
  rintro e w2 ⟨rfl, hb⟩
  obtain ⟨g1, g2, g3, g4, g5⟩ := pair_below (pair_new _ _ _ _) hb
  go_wp2
  refine bodyPost_ret (v := spr (Sp.told _ _)) (by rw [results_cell_tmp rfl]; go_simp) rfl ⟨rfl, ?_⟩
  (repeat' (first | exact Below.refl _ _ | refine bstep ?_ hb | refine Below.setCell ?_ (by simp <;> omega) _ | refine balloc ?_ _ | refine Below.drew ?_ | refine bdrewN ?_ _))
theorem inv_4 (x : Nat) (w : World) (h1 : 1 ≤ x) (h2 : x ≤ 1099511627776) :
    Calls Try.prog 86 #[.int .i64 x, .int .i64 4] w fun e w' => e = .returned (spr (belowR 17592186044416 x 1)) ∧ Below w.heap.size w w' := by
  have C : Hid (∀ w : World, Calls Try.prog 90 #[.int .i64 17592186044416, .int .i64 x, .int .i64 1] w fun e w' => e = .returned (.tuple #[.int .i64 ((Rt.isq (QT 17592186044416 x 1) : Nat) : Int), .int .i64 ((qUp 17592186044416 x 1 : Nat) : Int)]) ∧ w = w') := fun w => qroot_any 17592186044416 x 1 w (by decide) h1 h2 (by decide)
  have a1 : (1 : Int) ≤ (x : Int) := by omega
  have a2 : (x : Int) ≤ 1099511627776 := by omega
  clear h1 h2
  unfold belowR
  go_enter Try.func86, Try.ntmps86
  go_wp2_with fail
  refine (betw_yes _ _ _ _ a1 a2).mono ?_
  rintro e w1 ⟨rfl, rfl⟩
  go_wp2_with fail
  refine (betw_yes _ _ _ _ (by decide) (by decide)).mono ?_
  rintro e w1 ⟨rfl, rfl⟩
  go_wp2_with fail
  refine (C.out _).mono ?_
  rintro e w1 ⟨rfl, rfl⟩
  go_wp2_with fail
  refine (least_any _ _ _).mono ?_
  rintro e w2 ⟨rfl, hb⟩
  obtain ⟨g1, g2, g3, g4, g5⟩ := pair_below (pair_new _ _ _ _) hb
  go_wp2
  refine bodyPost_ret (v := spr (Sp.told _ _)) (by rw [results_cell_tmp rfl]; go_simp) rfl ⟨rfl, ?_⟩
  (repeat' (first | exact Below.refl _ _ | refine bstep ?_ hb | refine Below.setCell ?_ (by simp <;> omega) _ | refine balloc ?_ _ | refine Below.drew ?_ | refine bdrewN ?_ _))
theorem inv_5 (x : Nat) (w : World) (h1 : 1 ≤ x) (h2 : x ≤ 1099511627776) :
    Calls Try.prog 86 #[.int .i64 x, .int .i64 5] w fun e w' => e = .returned (spr (belowR 27487790694400 x 1)) ∧ Below w.heap.size w w' := by
  have C : Hid (∀ w : World, Calls Try.prog 90 #[.int .i64 27487790694400, .int .i64 x, .int .i64 1] w fun e w' => e = .returned (.tuple #[.int .i64 ((Rt.isq (QT 27487790694400 x 1) : Nat) : Int), .int .i64 ((qUp 27487790694400 x 1 : Nat) : Int)]) ∧ w = w') := fun w => qroot_any 27487790694400 x 1 w (by decide) h1 h2 (by decide)
  have a1 : (1 : Int) ≤ (x : Int) := by omega
  have a2 : (x : Int) ≤ 1099511627776 := by omega
  clear h1 h2
  unfold belowR
  go_enter Try.func86, Try.ntmps86
  go_wp2_with fail
  refine (betw_yes _ _ _ _ a1 a2).mono ?_
  rintro e w1 ⟨rfl, rfl⟩
  go_wp2_with fail
  refine (betw_yes _ _ _ _ (by decide) (by decide)).mono ?_
  rintro e w1 ⟨rfl, rfl⟩
  go_wp2_with fail
  refine (C.out _).mono ?_
  rintro e w1 ⟨rfl, rfl⟩
  go_wp2_with fail
  refine (least_any _ _ _).mono ?_
  rintro e w2 ⟨rfl, hb⟩
  obtain ⟨g1, g2, g3, g4, g5⟩ := pair_below (pair_new _ _ _ _) hb
  go_wp2
  refine bodyPost_ret (v := spr (Sp.told _ _)) (by rw [results_cell_tmp rfl]; go_simp) rfl ⟨rfl, ?_⟩
  (repeat' (first | exact Below.refl _ _ | refine bstep ?_ hb | refine Below.setCell ?_ (by simp <;> omega) _ | refine balloc ?_ _ | refine Below.drew ?_ | refine bdrewN ?_ _))
theorem inv_6 (x : Nat) (w : World) (h1 : 1 ≤ x) (h2 : x ≤ 1099511627776) :
    Calls Try.prog 86 #[.int .i64 x, .int .i64 6] w fun e w' => e = .returned (spr (belowR 39582418599936 x 1)) ∧ Below w.heap.size w w' := by
  have C : Hid (∀ w : World, Calls Try.prog 90 #[.int .i64 39582418599936, .int .i64 x, .int .i64 1] w fun e w' => e = .returned (.tuple #[.int .i64 ((Rt.isq (QT 39582418599936 x 1) : Nat) : Int), .int .i64 ((qUp 39582418599936 x 1 : Nat) : Int)]) ∧ w = w') := fun w => qroot_any 39582418599936 x 1 w (by decide) h1 h2 (by decide)
  have a1 : (1 : Int) ≤ (x : Int) := by omega
  have a2 : (x : Int) ≤ 1099511627776 := by omega
  clear h1 h2
  unfold belowR
  go_enter Try.func86, Try.ntmps86
  go_wp2_with fail
  refine (betw_yes _ _ _ _ a1 a2).mono ?_
  rintro e w1 ⟨rfl, rfl⟩
  go_wp2_with fail
  refine (betw_yes _ _ _ _ (by decide) (by decide)).mono ?_
  rintro e w1 ⟨rfl, rfl⟩
  go_wp2_with fail
  refine (C.out _).mono ?_
  rintro e w1 ⟨rfl, rfl⟩
  go_wp2_with fail
  refine (least_any _ _ _).mono ?_
  rintro e w2 ⟨rfl, hb⟩
  obtain ⟨g1, g2, g3, g4, g5⟩ := pair_below (pair_new _ _ _ _) hb
  go_wp2
  refine bodyPost_ret (v := spr (Sp.told _ _)) (by rw [results_cell_tmp rfl]; go_simp) rfl ⟨rfl, ?_⟩
  (repeat' (first | exact Below.refl _ _ | refine bstep ?_ hb | refine Below.setCell ?_ (by simp <;> omega) _ | refine balloc ?_ _ | refine Below.drew ?_ | refine bdrewN ?_ _))
theorem inv_7 (x : Nat) (w : World) (h1 : 1 ≤ x) (h2 : x ≤ 1099511627776) :
    Calls Try.prog 86 #[.int .i64 x, .int .i64 7] w fun e w' => e = .returned (spr (belowR 53876069761024 x 1)) ∧ Below w.heap.size w w' := by
  have C : Hid (∀ w : World, Calls Try.prog 90 #[.int .i64 53876069761024, .int .i64 x, .int .i64 1] w fun e w' => e = .returned (.tuple #[.int .i64 ((Rt.isq (QT 53876069761024 x 1) : Nat) : Int), .int .i64 ((qUp 53876069761024 x 1 : Nat) : Int)]) ∧ w = w') := fun w => qroot_any 53876069761024 x 1 w (by decide) h1 h2 (by decide)
  have a1 : (1 : Int) ≤ (x : Int) := by omega
  have a2 : (x : Int) ≤ 1099511627776 := by omega
  clear h1 h2
  unfold belowR
  go_enter Try.func86, Try.ntmps86
  go_wp2_with fail
  refine (betw_yes _ _ _ _ a1 a2).mono ?_
  rintro e w1 ⟨rfl, rfl⟩
  go_wp2_with fail
  refine (betw_yes _ _ _ _ (by decide) (by decide)).mono ?_
  rintro e w1 ⟨rfl, rfl⟩
  go_wp2_with fail
  refine (C.out _).mono ?_
  rintro e w1 ⟨rfl, rfl⟩
  go_wp2_with fail
  refine (least_any _ _ _).mono ?_
  rintro e w2 ⟨rfl, hb⟩
  obtain ⟨g1, g2, g3, g4, g5⟩ := pair_below (pair_new _ _ _ _) hb
  go_wp2
  refine bodyPost_ret (v := spr (Sp.told _ _)) (by rw [results_cell_tmp rfl]; go_simp) rfl ⟨rfl, ?_⟩
  (repeat' (first | exact Below.refl _ _ | refine bstep ?_ hb | refine Below.setCell ?_ (by simp <;> omega) _ | refine balloc ?_ _ | refine Below.drew ?_ | refine bdrewN ?_ _))
theorem inv_8 (x : Nat) (w : World) (h1 : 1 ≤ x) (h2 : x ≤ 1099511627776) :
    Calls Try.prog 86 #[.int .i64 x, .int .i64 8] w fun e w' => e = .returned (spr (belowR 70368744177664 x 1)) ∧ Below w.heap.size w w' := by
  have C : Hid (∀ w : World, Calls Try.prog 90 #[.int .i64 70368744177664, .int .i64 x, .int .i64 1] w fun e w' => e = .returned (.tuple #[.int .i64 ((Rt.isq (QT 70368744177664 x 1) : Nat) : Int), .int .i64 ((qUp 70368744177664 x 1 : Nat) : Int)]) ∧ w = w') := fun w => qroot_any 70368744177664 x 1 w (by decide) h1 h2 (by decide)
  have a1 : (1 : Int) ≤ (x : Int) := by omega
  have a2 : (x : Int) ≤ 1099511627776 := by omega
  clear h1 h2
  unfold belowR
  go_enter Try.func86, Try.ntmps86
  go_wp2_with fail
  refine (betw_yes _ _ _ _ a1 a2).mono ?_
  rintro e w1 ⟨rfl, rfl⟩
  go_wp2_with fail
  refine (betw_yes _ _ _ _ (by decide) (by decide)).mono ?_
  rintro e w1 ⟨rfl, rfl⟩
  go_wp2_with fail
  refine (C.out _).mono ?_
  rintro e w1 ⟨rfl, rfl⟩
  go_wp2_with fail
  refine (least_any _ _ _).mono ?_
  rintro e w2 ⟨rfl, hb⟩
  obtain ⟨g1, g2, g3, g4, g5⟩ := pair_below (pair_new _ _ _ _) hb
  go_wp2
  refine bodyPost_ret (v := spr (Sp.told _ _)) (by rw [results_cell_tmp rfl]; go_simp) rfl ⟨rfl, ?_⟩
  (repeat' (first | exact Below.refl _ _ | refine bstep ?_ hb | refine Below.setCell ?_ (by simp <;> omega) _ | refine balloc ?_ _ | refine Below.drew ?_ | refine bdrewN ?_ _))
theorem inv_no (n s : Int) (w : World) (h : ¬ (1 ≤ n ∧ n ≤ 1099511627776 ∧ 1 ≤ s ∧ s ≤ 8)) :
    Calls Try.prog 86 #[.int .i64 n, .int .i64 s] w fun e w' => e = .returned (spr ((0, 0), 1)) ∧ Below w.heap.size w w' := by
  rcases Int.lt_or_le n 1 with a1 | a1
  · clear h
    go_enter Try.func86, Try.ntmps86
    go_wp2
    refine bodyPost_ret (v := spr ((0, 0), 1)) (by rw [results_cell_tmp rfl]; go_simp) rfl ⟨rfl, ?_⟩
    (repeat' (first | exact Below.refl _ _ | refine Below.setCell ?_ (by simp <;> omega) _ | refine balloc ?_ _ | refine Below.drew ?_ | refine bdrewN ?_ _))
  rcases Int.lt_or_le 1099511627776 n with a2 | a2
  · clear h
    go_enter Try.func86, Try.ntmps86
    go_wp2
    refine bodyPost_ret (v := spr ((0, 0), 1)) (by rw [results_cell_tmp rfl]; go_simp) rfl ⟨rfl, ?_⟩
    (repeat' (first | exact Below.refl _ _ | refine Below.setCell ?_ (by simp <;> omega) _ | refine balloc ?_ _ | refine Below.drew ?_ | refine bdrewN ?_ _))
  rcases Int.lt_or_le s 1 with a3 | a3
  · clear h
    go_enter Try.func86, Try.ntmps86
    go_wp2
    refine bodyPost_ret (v := spr ((0, 0), 1)) (by rw [results_cell_tmp rfl]; go_simp) rfl ⟨rfl, ?_⟩
    (repeat' (first | exact Below.refl _ _ | refine Below.setCell ?_ (by simp <;> omega) _ | refine balloc ?_ _ | refine Below.drew ?_ | refine bdrewN ?_ _))
  · have a4 : decide (s ≤ 8) = false := decide_eq_false (by omega)
    clear h
    go_enter Try.func86, Try.ntmps86
    go_wp2
    refine bodyPost_ret (v := spr ((0, 0), 1)) (by rw [results_cell_tmp rfl]; go_simp) rfl ⟨rfl, ?_⟩
    (repeat' (first | exact Below.refl _ _ | refine Below.setCell ?_ (by simp <;> omega) _ | refine balloc ?_ _ | refine Below.drew ?_ | refine bdrewN ?_ _))
theorem inv_any (n s : Int) (w : World) :
    Calls Try.prog 86 #[.int .i64 n, .int .i64 s] w fun e w' => e = .returned (spr (invR n s)) ∧ Below w.heap.size w w' := by
  unfold invR
  split
  · rename_i h
    obtain ⟨x, rfl⟩ := Int.eq_ofNat_of_zero_le (show 0 ≤ n by omega)
    rw [Int.toNat_natCast]
    have hs : s = 1 ∨ s = 2 ∨ s = 3 ∨ s = 4 ∨ s = 5 ∨ s = 6 ∨ s = 7 ∨ s = 8 := by omega
    rcases hs with rfl | rfl | rfl | rfl | rfl | rfl | rfl | rfl
    · exact inv_1 x w (by omega) (by omega)
    · exact inv_2 x w (by omega) (by omega)
    · exact inv_3 x w (by omega) (by omega)
    · exact inv_4 x w (by omega) (by omega)
    · exact inv_5 x w (by omega) (by omega)
    · exact inv_6 x w (by omega) (by omega)
    · exact inv_7 x w (by omega) (by omega)
    · exact inv_8 x w (by omega) (by omega)
  · rename_i h; exact inv_no _ _ _ h
theorem QT3 (t n : Nat) : QT t n 3 = QT t (n * n * n) 1 := by
  show t / n / n / n = t / (n * n * n)
  rw [Nat.div_div_eq_div_mul, Nat.div_div_eq_div_mul, Nat.mul_assoc]
theorem QW3 (t n : Nat) (h : 1 ≤ n) : QW t n 3 = QW t (n * n * n) 1 := by
  show (((true && decide (t % n = 0)) && decide (t / n % n = 0)) && decide (t / n / n % n = 0)) = (true && decide (t % (n * n * n) = 0))
  rw [Bool.eq_iff_iff]
  simp only [Bool.true_and, Bool.and_eq_true, decide_eq_true_eq]
  have e1 : n ∣ t ↔ t % n = 0 := Nat.dvd_iff_mod_eq_zero
  constructor
  · rintro ⟨⟨c1, c2⟩, c3⟩
    have d1 := Nat.div_mul_cancel (Nat.dvd_of_mod_eq_zero c1)
    have d2 := Nat.div_mul_cancel (Nat.dvd_of_mod_eq_zero c2)
    have d3 := Nat.div_mul_cancel (Nat.dvd_of_mod_eq_zero c3)
    have : t = t / n / n / n * (n * n * n) := by rw [← Nat.mul_assoc, ← Nat.mul_assoc, d3, d2, d1]
    rw [this]; exact Nat.mul_mod_left _ _
  · intro c
    obtain ⟨q, rfl⟩ := Nat.dvd_of_mod_eq_zero c
    have f1 : n * n * n * q / n = n * n * q := by rw [show n * n * n * q = n * (n * n * q) by ac_rfl, Nat.mul_div_cancel_left _ h]
    have f2 : n * n * q / n = n * q := by rw [show n * n * q = n * (n * q) by ac_rfl, Nat.mul_div_cancel_left _ h]
    refine ⟨⟨?_, ?_⟩, ?_⟩
    · rw [show n * n * n * q = n * (n * n * q) by ac_rfl]; exact Nat.mul_mod_right _ _
    · rw [f1, show n * n * q = n * (n * q) by ac_rfl]; exact Nat.mul_mod_right _ _
    · rw [f1, f2]; exact Nat.mul_mod_right _ _
theorem below3 (t n : Nat) (h : 1 ≤ n) : belowR t n 3 = belowR t (n * n * n) 1 := by
  unfold belowR qUp; rw [QT3, QW3 t n h]
theorem below_far {t n : Nat} (h0 : 1 ≤ t) (h1 : t < 1152921504606846976) (h : 1048576 < n) : belowR t n 3 = Sp.told 0 1 := by
  have c : t < n * n * n := by
    have a := Nat.mul_le_mul (Nat.le_of_lt h) (Nat.le_of_lt h)
    have b := Nat.mul_le_mul a (Nat.le_of_lt h)
    omega
  have e : QT t n 3 = 0 := by rw [QT3]; exact Nat.div_eq_of_lt c
  have e2 : QW t n 3 = false := by
    rw [QW3 t n (by omega)]
    show (true && decide (t % (n * n * n) = 0)) = false
    rw [Nat.mod_eq_of_lt c]; simp; omega
  unfold belowR qUp
  rw [e, if_neg (by simp [e2])]; rfl
end Go.Proofs.Ytlegalibjkeccaa
