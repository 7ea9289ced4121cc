/-
  The contracts of Square, in the program and in the document's answer.
-/
import Derived.Test.YthpjjpfflpjpdabPart
import Derived.Test.YthpjjpfflpjpdabOps
namespace Go.Proofs.Ythpjjpfflpjpdab
open Go.ChangeShapes Go.WideShapes Go.RowKit
attribute [local go_sem 1000000] run_min_mn run_max_mx
namespace Sp
/-- the span of the squares -/
def sqR (lo hi : Int) : R := if vldB lo hi then told (mulD (mx (mx 0 lo) (-hi)) (mx (mx 0 lo) (-hi))) (mulU (mx (-lo) hi) (mx (-lo) hi)) else ((0, 0), 1)
theorem mulD_neg (x : Int) : mulD (-x) (-x) = mulD x x := by unfold mulD; rw [Int.neg_mul_neg]
theorem mulU_negneg (x : Int) : mulU (-x) (-x) = mulU x x := by unfold mulU; rw [Int.neg_mul_neg]
theorem mulD_mono {x y : Int} (h0 : 0 ≤ x) (h : x ≤ y) : mulD x x ≤ mulD y y := by
  unfold mulD; exact fl_mono (by decide) (Int.mul_le_mul h h h0 (by omega))
theorem mulU_mono {x y : Int} (h0 : 0 ≤ x) (h : x ≤ y) : mulU x x ≤ mulU y y := by
  unfold mulU; exact ce_mono (by decide) (Int.mul_le_mul h h h0 (by omega))
theorem sq_hi {lo hi : Int} (h : lo ≤ hi) : mx (mulU lo lo) (mulU hi hi) = mulU (mx (-lo) hi) (mx (-lo) hi) := by
  rw [mx_eq, mx_eq]
  by_cases q : -lo ≤ hi
  · rw [show max (-lo) hi = hi by omega]
    have : mulU lo lo ≤ mulU hi hi := by
      rcases Int.lt_or_le lo 0 with k | k
      · rw [← mulU_negneg lo]; exact mulU_mono (by omega) q
      · exact mulU_mono k h
    omega
  · rw [show max (-lo) hi = -lo by omega, mulU_negneg]
    have : mulU hi hi ≤ mulU lo lo := by
      rw [← mulU_negneg lo]
      rcases Int.lt_or_le hi 0 with k | k
      · rw [← mulU_negneg hi]; exact mulU_mono (by omega) (by omega)
      · exact mulU_mono k (by omega)
    omega
theorem sq_lo1 {lo hi : Int} (h : lo ≤ hi) (k : 0 < lo) : mn (mulD lo lo) (mulD hi hi) = mulD (mx (mx 0 lo) (-hi)) (mx (mx 0 lo) (-hi)) := by
  rw [mn_eq, mx_eq, mx_eq, show max (max 0 lo) (-hi) = lo by omega]
  have := mulD_mono (by omega) h; omega
theorem sq_lo2 {lo hi : Int} (h : lo ≤ hi) (k : hi < 0) : mn (mulD lo lo) (mulD hi hi) = mulD (mx (mx 0 lo) (-hi)) (mx (mx 0 lo) (-hi)) := by
  rw [mn_eq, mx_eq, mx_eq, show max (max 0 lo) (-hi) = -hi by omega, mulD_neg, ← mulD_neg lo, ← mulD_neg hi]
  have := mulD_mono (x := -hi) (y := -lo) (by omega) (by omega); omega
theorem sq_lo3 {lo hi : Int} (h : lo ≤ 0) (k : 0 ≤ hi) : 0 = mulD (mx (mx 0 lo) (-hi)) (mx (mx 0 lo) (-hi)) := by
  rw [mx_eq, mx_eq, show max (max 0 lo) (-hi) = 0 by omega]; rfl
end Sp
theorem fx_of {x y : Int} (h : Sp.vldB x x = true) (k : Sp.vldB y y = true) : -1099511627776 ≤ x ∧ x ≤ 1099511627776 ∧ -1099511627776 ≤ y ∧ y ≤ 1099511627776 := by
  have := Sp.vld_iff.1 h
  have := Sp.vld_iff.1 k
  omega
theorem sq_yes (lo hi : Int) (w : World) (h : Sp.vldB lo hi = true) :
    Calls Try.prog 17 #[spv lo hi] w fun e w' => e = .returned (spr (Sp.told (Sp.mulD (Sp.mx (Sp.mx 0 lo) (-hi)) (Sp.mx (Sp.mx 0 lo) (-hi))) (Sp.mulU (Sp.mx (-lo) hi) (Sp.mx (-lo) hi)))) ∧ Below w.heap.size w w' := by
  have q := Sp.vld_iff.1 h
  have e1 := Sp.mx_eq (-lo) hi
  have e2 := Sp.mx_eq 0 lo
  have e3 := Sp.mx_eq (Sp.mx 0 lo) (-hi)
  have X0 : Hid (Fx (Sp.mx (Sp.mx 0 lo) (-hi)) (Sp.mx (Sp.mx 0 lo) (-hi))) := (by unfold Fx; omega : Fx (Sp.mx (Sp.mx 0 lo) (-hi)) (Sp.mx (Sp.mx 0 lo) (-hi)))
  have X1 : Hid (Fx (Sp.mx (-lo) hi) (Sp.mx (-lo) hi)) := (by unfold Fx; omega : Fx (Sp.mx (-lo) hi) (Sp.mx (-lo) hi))
  have b1 : Hid (-1099511627776 ≤ lo) := (by omega : -1099511627776 ≤ lo)
  have b2 : Hid (lo ≤ 1099511627776) := (by omega : lo ≤ 1099511627776)
  have b3 : Hid (-1099511627776 ≤ hi) := (by omega : -1099511627776 ≤ hi)
  have b4 : Hid (hi ≤ 1099511627776) := (by omega : hi ≤ 1099511627776)
  clear q e1 e2 e3
  go_enter Try.func17, Try.ntmps17
  go_wp2_with fail
  refine (valid_yes _ _ _ h).mono ?_
  rintro e w1 ⟨rfl, rfl⟩
  go_wp2_with fail
  refine (sizes_any _ _ _ b1.out b2.out b3.out b4.out).mono ?_
  rintro e w1 ⟨rfl, hb⟩
  have z0 := pair_below (pair_alloc (pair_new (w.alloc _) 0 0 _) _) hb
  simp only [World.size_alloc] at z0
  go_wp2_with fail
  refine (k_mul _ _ _ X0.out).mono ?_
  rintro e w1 ⟨rfl, rfl⟩
  go_wp2_with fail
  refine (k_mulU _ _ _ X1.out).mono ?_
  rintro e w1 ⟨rfl, rfl⟩
  go_wp2_with fail
  refine (least_any _ _ _).mono ?_
  rintro e w2 ⟨rfl, hb2⟩
  obtain ⟨g1, g2, g3, g4, g5⟩ := pair_below z0 hb2
  go_wp2
  refine bodyPost_ret (v := spr (Sp.told _ _)) (by rw [results_cell_tmp rfl]; go_simp) rfl ⟨rfl, ?_⟩
  (repeat' (first | exact Below.refl _ _ | refine bstep ?_ hb | refine bstep ?_ hb2 | refine Below.setCell ?_ (by simp <;> omega) _ | refine balloc ?_ _ | refine Below.drew ?_ | refine bdrewN ?_ _))
theorem sq_no (lo hi : Int) (w : World) (h : Sp.vldB lo hi = false) :
    Calls Try.prog 17 #[spv lo hi] w fun e w' => e = .returned (spr ((0, 0), 1)) ∧ Below w.heap.size w w' := by
  go_enter Try.func17, Try.ntmps17
  go_wp2_with fail
  refine (valid_no _ _ _ h).mono ?_
  rintro e w1 ⟨rfl, rfl⟩
  go_wp2
  refine bodyPost_ret (v := spr ((0, 0), 1)) (by rw [results_cell_tmp rfl]; go_simp) rfl ⟨rfl, ?_⟩
  (repeat' (first | exact Below.refl _ _ | refine Below.setCell ?_ (by simp <;> omega) _ | refine balloc ?_ _ | refine Below.drew ?_ | refine bdrewN ?_ _))
theorem sq_any (lo hi : Int) (w : World) :
    Calls Try.prog 17 #[spv lo hi] w fun e w' => e = .returned (spr (Sp.sqR lo hi)) ∧ Below w.heap.size w w' := by
  unfold Sp.sqR
  cases h : Sp.vldB lo hi
  · rw [if_neg (by decide)]; exact sq_no _ _ _ h
  · rw [if_pos rfl]; exact sq_yes _ _ _ h
end Go.Proofs.Ythpjjpfflpjpdab
