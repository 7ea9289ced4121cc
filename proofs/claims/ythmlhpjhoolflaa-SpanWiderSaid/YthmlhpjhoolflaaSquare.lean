/-
  The contracts of Square, in the program and in the document's answer.
-/
import Derived.Test.YthmlhpjhoolflaaPart
import Derived.Test.YthmlhpjhoolflaaOps
namespace Go.Proofs.Ythmlhpjhoolflaa
open Go.ChangeShapes Go.WideShapes Go.RowKit
attribute [local go_sem 1000000] run_min_mn run_max_mx
namespace Sp
/-- the span of the squares -/
def sqR (lo hi : Int) : R := if vldB lo hi then told (mulD (mx (mx 0 lo) (-hi)) (mx (mx 0 lo) (-hi))) (mulU (mx (-lo) hi) (mx (-lo) hi)) else ((0, 0), 1)
theorem mulD_neg (x : Int) : mulD (-x) (-x) = mulD x x := by unfold mulD; rw [Int.neg_mul_neg]
theorem mulU_negneg (x : Int) : mulU (-x) (-x) = mulU x x := by unfold mulU; rw [Int.neg_mul_neg]
theorem mulD_mono {x y : Int} (h0 : 0 ≤ x) (h : x ≤ y) : mulD x x ≤ mulD y y := by
  unfold mulD; exact fl_mono (by decide) (Int.mul_le_mul h h h0 (by omega))
theorem mulU_mono {x y : Int} (h0 : 0 ≤ x) (h : x ≤ y) : mulU x x ≤ mulU y y := by
  unfold mulU; exact ce_mono (by decide) (Int.mul_le_mul h h h0 (by omega))
theorem sq_hi {lo hi : Int} (h : lo ≤ hi) : mx (mulU lo lo) (mulU hi hi) = mulU (mx (-lo) hi) (mx (-lo) hi) := by
  rw [mx_eq, mx_eq]
  by_cases q : -lo ≤ hi
  · rw [show max (-lo) hi = hi by omega]
    have : mulU lo lo ≤ mulU hi hi := by
      rcases Int.lt_or_le lo 0 with k | k
      · rw [← mulU_negneg lo]; exact mulU_mono (by omega) q
      · exact mulU_mono k h
    omega
  · rw [show max (-lo) hi = -lo by omega, mulU_negneg]
    have : mulU hi hi ≤ mulU lo lo := by
      rw [← mulU_negneg lo]
      rcases Int.lt_or_le hi 0 with k | k
      · rw [← mulU_negneg hi]; exact mulU_mono (by omega) (by omega)
      · exact mulU_mono k (by omega)
    omega
theorem sq_lo1 {lo hi : Int} (h : lo ≤ hi) (k : 0 < lo) : mn (mulD lo lo) (mulD hi hi) = mulD (mx (mx 0 lo) (-hi)) (mx (mx 0 lo) (-hi)) := by
  rw [mn_eq, mx_eq, mx_eq, show max (max 0 lo) (-hi) = lo by omega]
  have := mulD_mono (by omega) h; omega
theorem sq_lo2 {lo hi : Int} (h : lo ≤ hi) (k : hi < 0) : mn (mulD lo lo) (mulD hi hi) = mulD (mx (mx 0 lo) (-hi)) (mx (mx 0 lo) (-hi)) := by
  rw [mn_eq, mx_eq, mx_eq, show max (max 0 lo) (-hi) = -hi by omega, mulD_neg, ← mulD_neg lo, ← mulD_neg hi]
  have := mulD_mono (x := -hi) (y := -lo) (by omega) (by omega); omega
theorem sq_lo3 {lo hi : Int} (h : lo ≤ 0) (k : 0 ≤ hi) : 0 = mulD (mx (mx 0 lo) (-hi)) (mx (mx 0 lo) (-hi)) := by
  rw [mx_eq, mx_eq, show max (max 0 lo) (-hi) = 0 by omega]; rfl
end Sp
theorem fx_of {x y : Int} (h : Sp.vldB x x = true) (k : Sp.vldB y y = true) : -1099511627776 ≤ x ∧ x ≤ 1099511627776 ∧ -1099511627776 ≤ y ∧ y ≤ 1099511627776 := by
  have := Sp.vld_iff.1 h
  have := Sp.vld_iff.1 k
  omega
theorem sq_yes (lo hi : Int) (w : World) (h : Sp.vldB lo hi = true) :
    Calls Try.prog 28 #[spv lo hi] w fun e w' => e = .returned (spr (Sp.told (Sp.mulD (Sp.mx (Sp.mx 0 lo) (-hi)) (Sp.mx (Sp.mx 0 lo) (-hi))) (Sp.mulU (Sp.mx (-lo) hi) (Sp.mx (-lo) hi)))) ∧ Below w.heap.size w w' := by
  have q := Sp.vld_iff.1 h
  have e1 := Sp.mx_eq (-lo) hi
  have e2 := Sp.mx_eq 0 lo
  have e3 := Sp.mx_eq (Sp.mx 0 lo) (-hi)
  have X0 : Hid (Fx (Sp.mx (Sp.mx 0 lo) (-hi)) (Sp.mx (Sp.mx 0 lo) (-hi))) := (by unfold Fx; omega : Fx (Sp.mx (Sp.mx 0 lo) (-hi)) (Sp.mx (Sp.mx 0 lo) (-hi)))
  have X1 : Hid (Fx (Sp.mx (-lo) hi) (Sp.mx (-lo) hi)) := (by unfold Fx; omega : Fx (Sp.mx (-lo) hi) (Sp.mx (-lo) hi))
  have b1 : Hid (-1099511627776 ≤ lo) := (by omega : -1099511627776 ≤ lo)
  have b2 : Hid (lo ≤ 1099511627776) := (by omega : lo ≤ 1099511627776)
  have b3 : Hid (-1099511627776 ≤ hi) := (by omega : -1099511627776 ≤ hi)
  have b4 : Hid (hi ≤ 1099511627776) := (by omega : hi ≤ 1099511627776)
  clear q e1 e2 e3
  go_enter Try.func28, Try.ntmps28
  go_wp2_with fail
  refine (valid_yes _ _ _ h).mono ?_
  rintro e w1 ⟨rfl, rfl⟩
  go_wp2_with fail
  refine (sizes_any _ _ _ b1.out b2.out b3.out b4.out).mono ?_
  rintro e w1 ⟨rfl, hb⟩
  have z0 := pair_below (pair_alloc (pair_new (w.alloc _) 0 0 _) _) hb
  simp only [World.size_alloc] at z0
  go_wp2_with fail
  refine (k_mul _ _ _ X0.out).mono ?_
  rintro e w1 ⟨rfl, rfl⟩
  go_wp2_with fail
  refine (k_mulU _ _ _ X1.out).mono ?_
  rintro e w1 ⟨rfl, rfl⟩
  go_wp2_with fail
  refine (least_any _ _ _).mono ?_
  rintro e w2 ⟨rfl, hb2⟩
  obtain ⟨g1, g2, g3, g4, g5⟩ := pair_below z0 hb2
  go_wp2
  refine bodyPost_ret (v := spr (Sp.told _ _)) (by rw [results_cell_tmp rfl]; go_simp) rfl ⟨rfl, ?_⟩
  (repeat' (first | exact Below.refl _ _ | refine bstep ?_ hb | refine bstep ?_ hb2 | refine Below.setCell ?_ (by simp <;> omega) _ | refine balloc ?_ _ | refine Below.drew ?_ | refine bdrewN ?_ _))
theorem sq_no (lo hi : Int) (w : World) (h : Sp.vldB lo hi = false) :
    Calls Try.prog 28 #[spv lo hi] w fun e w' => e = .returned (spr ((0, 0), 1)) ∧ Below w.heap.size w w' := by
  go_enter Try.func28, Try.ntmps28
  go_wp2_with fail
  refine (valid_no _ _ _ h).mono ?_
  rintro e w1 ⟨rfl, rfl⟩
  go_wp2
  refine bodyPost_ret (v := spr ((0, 0), 1)) (by rw [results_cell_tmp rfl]; go_simp) rfl ⟨rfl, ?_⟩
  (repeat' (first | exact Below.refl _ _ | refine Below.setCell ?_ (by simp <;> omega) _ | refine balloc ?_ _ | refine Below.drew ?_ | refine bdrewN ?_ _))
theorem sq_any (lo hi : Int) (w : World) :
    Calls Try.prog 28 #[spv lo hi] w fun e w' => e = .returned (spr (Sp.sqR lo hi)) ∧ Below w.heap.size w w' := by
  unfold Sp.sqR
  cases h : Sp.vldB lo hi
  · rw [if_neg (by decide)]; exact sq_no _ _ _ h
  · rw [if_pos rfl]; exact sq_yes _ _ _ h
set_option maxHeartbeats 800000 in
theorem rsq_a (lo hi : Int) (w : World) (h : Sp.vldB lo hi = true) (k : 0 < lo) :
    Calls Try.prog 29 #[spv lo hi] w fun e w' => e = .returned (spr (Sp.told (Sp.mn (Sp.mulD lo lo) (Sp.mulD hi hi)) (Sp.mx (Sp.mulU lo lo) (Sp.mulU hi hi)))) ∧ Below w.heap.size w w' := by
  have q := Sp.vld_iff.1 h
  have X0 : Hid (Sp.vldB lo lo = true) := (by rw [Sp.vld_iff]; omega : Sp.vldB lo lo = true)
  have X1 : Hid (Sp.vldB hi hi = true) := (by rw [Sp.vld_iff]; omega : Sp.vldB hi hi = true)
  clear q
  unfold Sp.mn Sp.mx
  by_cases c1 : Sp.mulU lo lo < Sp.mulU hi hi <;> by_cases c2 : Sp.mulD hi hi < Sp.mulD lo lo
  all_goals
    simp only [c1, c2, if_true, if_false]
    go_enter Try.func29, Try.ntmps29
    go_wp2_with fail
    refine (rvalid_yes _ _ _ h).mono ?_
    rintro e w1 ⟨rfl, rfl⟩
    go_wp2_with fail
    refine (times_any _ _ _ (fx_of X0.out X0.out)).mono ?_
    rintro e w1 ⟨rfl, rfl⟩
    go_wp2_with fail
    refine (times_any _ _ _ (fx_of X1.out X1.out)).mono ?_
    rintro e w1 ⟨rfl, rfl⟩
    go_wp2_with (go_at_call 61; fail)
    refine (told_any _ _ _).mono ?_
    rintro e w2 ⟨rfl, hb2⟩
    have g := pair_below (pair_alloc (pair_new (w.alloc _) 0 0 _) _) hb2
    simp only [World.size_alloc] at g
    obtain ⟨g1, g2, g3, g4, g5⟩ := g
    go_wp2
    refine bodyPost_ret (v := spr (Sp.told _ _)) (by rw [results_cell_tmp rfl]; go_simp) rfl ⟨rfl, ?_⟩
    (repeat' (first | exact Below.refl _ _ | refine bstep ?_ hb2 | refine Below.setCell ?_ (by simp <;> omega) _ | refine balloc ?_ _ | refine Below.drew ?_ | refine bdrewN ?_ _))
set_option maxHeartbeats 800000 in
theorem rsq_b (lo hi : Int) (w : World) (h : Sp.vldB lo hi = true) (k1 : lo ≤ 0) (k : hi < 0) :
    Calls Try.prog 29 #[spv lo hi] w fun e w' => e = .returned (spr (Sp.told (Sp.mn (Sp.mulD lo lo) (Sp.mulD hi hi)) (Sp.mx (Sp.mulU lo lo) (Sp.mulU hi hi)))) ∧ Below w.heap.size w w' := by
  have q := Sp.vld_iff.1 h
  have X0 : Hid (Sp.vldB lo lo = true) := (by rw [Sp.vld_iff]; omega : Sp.vldB lo lo = true)
  have X1 : Hid (Sp.vldB hi hi = true) := (by rw [Sp.vld_iff]; omega : Sp.vldB hi hi = true)
  clear q
  unfold Sp.mn Sp.mx
  by_cases c1 : Sp.mulU lo lo < Sp.mulU hi hi <;> by_cases c2 : Sp.mulD hi hi < Sp.mulD lo lo
  all_goals
    simp only [c1, c2, if_true, if_false]
    go_enter Try.func29, Try.ntmps29
    go_wp2_with fail
    refine (rvalid_yes _ _ _ h).mono ?_
    rintro e w1 ⟨rfl, rfl⟩
    go_wp2_with fail
    refine (times_any _ _ _ (fx_of X0.out X0.out)).mono ?_
    rintro e w1 ⟨rfl, rfl⟩
    go_wp2_with fail
    refine (times_any _ _ _ (fx_of X1.out X1.out)).mono ?_
    rintro e w1 ⟨rfl, rfl⟩
    go_wp2_with (go_at_call 61; fail)
    refine (told_any _ _ _).mono ?_
    rintro e w2 ⟨rfl, hb2⟩
    have g := pair_below (pair_alloc (pair_new (w.alloc _) 0 0 _) _) hb2
    simp only [World.size_alloc] at g
    obtain ⟨g1, g2, g3, g4, g5⟩ := g
    go_wp2
    refine bodyPost_ret (v := spr (Sp.told _ _)) (by rw [results_cell_tmp rfl]; go_simp) rfl ⟨rfl, ?_⟩
    (repeat' (first | exact Below.refl _ _ | refine bstep ?_ hb2 | refine Below.setCell ?_ (by simp <;> omega) _ | refine balloc ?_ _ | refine Below.drew ?_ | refine bdrewN ?_ _))
set_option maxHeartbeats 800000 in
theorem rsq_c (lo hi : Int) (w : World) (h : Sp.vldB lo hi = true) (k1 : lo ≤ 0) (k : 0 ≤ hi) :
    Calls Try.prog 29 #[spv lo hi] w fun e w' => e = .returned (spr (Sp.told 0 (Sp.mx (Sp.mulU lo lo) (Sp.mulU hi hi)))) ∧ Below w.heap.size w w' := by
  have q := Sp.vld_iff.1 h
  have X0 : Hid (Sp.vldB lo lo = true) := (by rw [Sp.vld_iff]; omega : Sp.vldB lo lo = true)
  have X1 : Hid (Sp.vldB hi hi = true) := (by rw [Sp.vld_iff]; omega : Sp.vldB hi hi = true)
  clear q
  unfold Sp.mx
  by_cases c1 : Sp.mulU lo lo < Sp.mulU hi hi <;> by_cases c2 : Sp.mulD hi hi < Sp.mulD lo lo
  all_goals
    simp only [c1, if_true, if_false]
    go_enter Try.func29, Try.ntmps29
    go_wp2_with fail
    refine (rvalid_yes _ _ _ h).mono ?_
    rintro e w1 ⟨rfl, rfl⟩
    go_wp2_with fail
    refine (times_any _ _ _ (fx_of X0.out X0.out)).mono ?_
    rintro e w1 ⟨rfl, rfl⟩
    go_wp2_with fail
    refine (times_any _ _ _ (fx_of X1.out X1.out)).mono ?_
    rintro e w1 ⟨rfl, rfl⟩
    go_wp2_with (go_at_call 61; fail)
    refine (told_any _ _ _).mono ?_
    rintro e w2 ⟨rfl, hb2⟩
    have g := pair_below (pair_alloc (pair_new (w.alloc _) 0 0 _) _) hb2
    simp only [World.size_alloc] at g
    obtain ⟨g1, g2, g3, g4, g5⟩ := g
    go_wp2
    refine bodyPost_ret (v := spr (Sp.told _ _)) (by rw [results_cell_tmp rfl]; go_simp) rfl ⟨rfl, ?_⟩
    (repeat' (first | exact Below.refl _ _ | refine bstep ?_ hb2 | refine Below.setCell ?_ (by simp <;> omega) _ | refine balloc ?_ _ | refine Below.drew ?_ | refine bdrewN ?_ _))
theorem rsq_yes (lo hi : Int) (w : World) (h : Sp.vldB lo hi = true) :
    Calls Try.prog 29 #[spv lo hi] w fun e w' => e = .returned (spr (Sp.told (Sp.mulD (Sp.mx (Sp.mx 0 lo) (-hi)) (Sp.mx (Sp.mx 0 lo) (-hi))) (Sp.mulU (Sp.mx (-lo) hi) (Sp.mx (-lo) hi)))) ∧ Below w.heap.size w w' := by
  have q := (Sp.vld_iff.1 h).2.1
  rw [← Sp.sq_hi q]
  rcases Int.lt_or_le 0 lo with k | k
  · rw [← Sp.sq_lo1 q k]; exact rsq_a _ _ _ h k
  rcases Int.lt_or_le hi 0 with k2 | k2
  · rw [← Sp.sq_lo2 q k2]; exact rsq_b _ _ _ h k k2
  · rw [← Sp.sq_lo3 k k2]; exact rsq_c _ _ _ h k k2
theorem rsq_no (lo hi : Int) (w : World) (h : Sp.vldB lo hi = false) :
    Calls Try.prog 29 #[spv lo hi] w fun e w' => e = .returned (spr ((0, 0), 1)) ∧ Below w.heap.size w w' := by
  go_enter Try.func29, Try.ntmps29
  go_wp2_with fail
  refine (rvalid_no _ _ _ h).mono ?_
  rintro e w1 ⟨rfl, rfl⟩
  go_wp2
  refine bodyPost_ret (v := spr ((0, 0), 1)) (by rw [results_cell_tmp rfl]; go_simp) rfl ⟨rfl, ?_⟩
  (repeat' (first | exact Below.refl _ _ | refine Below.setCell ?_ (by simp <;> omega) _ | refine balloc ?_ _ | refine Below.drew ?_ | refine bdrewN ?_ _))
theorem rsq_any (lo hi : Int) (w : World) :
    Calls Try.prog 29 #[spv lo hi] w fun e w' => e = .returned (spr (Sp.sqR lo hi)) ∧ Below w.heap.size w w' := by
  unfold Sp.sqR
  cases h : Sp.vldB lo hi
  · rw [if_neg (by decide)]; exact rsq_no _ _ _ h
  · rw [if_pos rfl]; exact rsq_yes _ _ _ h

end Go.Proofs.Ythmlhpjhoolflaa
