/-
  Plain arithmetic for TopSpans: a quotient and the product with the inverse meet.
-/
import Derived.Test.YthpjjpfflpjpdabTopNum
namespace Go.Proofs.Ythpjjpfflpjpdab
namespace Sp
theorem fl_mul {n d : Int} (h : 0 < d) : fl n d * d ≤ n := by rw [fl_pos h]; exact Int.ediv_mul_le n (by omega)
theorem ce_mul {n d : Int} (h : 0 < d) : n ≤ ce n d * d := by
  unfold ce
  have := fl_mul (n := -n) h
  rw [Int.neg_mul]; omega
theorem fl_mulN {n d : Int} (h : d < 0) : fl n d * -d ≤ -n := by
  rw [← fl_negneg n d (by omega)]; exact fl_mul (by omega)
theorem ce_mulN {n d : Int} (h : d < 0) : -n ≤ ce n d * -d := by
  rw [← ce_negneg n d (by omega)]; exact ce_mul (by omega)
theorem div_point {al ah cl ch : Int} (h : (divR al ah cl ch).2 = 0) :
    (0 < cl ∧ (divR al ah cl ch).1.1 * cl ≤ al * 1048576 ∧ al * 1048576 ≤ (divR al ah cl ch).1.2 * cl) ∨
    (cl < 0 ∧ (divR al ah cl ch).1.1 * -cl ≤ -(al * 1048576) ∧ -(al * 1048576) ≤ (divR al ah cl ch).1.2 * -cl) := by
  unfold divR at *
  split at h
  · rename_i v
    rw [if_pos v]
    split at h
    · exact absurd h (by decide)
    · rename_i z
      rw [if_neg z, (told_ok h).1]
      have a := (mn4_le (fl (al * 1048576) cl) (fl (al * 1048576) ch) (fl (ah * 1048576) cl) (fl (ah * 1048576) ch)).1
      have b := (mx4_ge (ce (al * 1048576) cl) (ce (al * 1048576) ch) (ce (ah * 1048576) cl) (ce (ah * 1048576) ch)).1
      simp only [Bool.and_eq_true] at v
      have vc := vld_iff.1 v.2
      by_cases c : 0 < cl
      · left
        exact ⟨c, Int.le_trans (Int.mul_le_mul_of_nonneg_right a (by omega)) (fl_mul c), Int.le_trans (ce_mul c) (Int.mul_le_mul_of_nonneg_right b (by omega))⟩
      · right
        have c' : cl < 0 := by omega
        exact ⟨c', Int.le_trans (Int.mul_le_mul_of_nonneg_right a (by omega)) (fl_mulN c'), Int.le_trans (ce_mulN c') (Int.mul_le_mul_of_nonneg_right b (by omega))⟩
  · exact absurd h (by decide)
theorem mul_point {al ah bl bh : Int} (h : (mulR al ah bl bh).2 = 0) :
    (mulR al ah bl bh).1.1 * 1048576 ≤ al * bl ∧ (mulR al ah bl bh).1.1 * 1048576 ≤ al * bh ∧ al * bl ≤ (mulR al ah bl bh).1.2 * 1048576 ∧ al * bh ≤ (mulR al ah bl bh).1.2 * 1048576 := by
  unfold mulR at *
  split at h
  · rename_i v
    rw [if_pos v, (told_ok h).1]
    have a := mn4_le (mulD al bl) (mulD al bh) (mulD ah bl) (mulD ah bh)
    have b := mx4_ge (mulU al bl) (mulU al bh) (mulU ah bl) (mulU ah bh)
    have d1 := mulD_le al bl
    have d2 := mulD_le al bh
    have u1 := mulU_ge al bl
    have u2 := mulU_ge al bh
    refine ⟨?_, ?_, ?_, ?_⟩ <;> dsimp only <;> omega
  · exact absurd h (by decide)
theorem core {c al K dL dH iL iH nL nH X : Int} (hc : 0 < c) (hX : X * 1048576 = al * K) (d1 : dL * c ≤ X) (d2 : X ≤ dH * c) (i1 : iL * c ≤ K) (i2 : K ≤ iH * c)
    (n1 : nL * 1048576 ≤ al * iL) (n2 : nL * 1048576 ≤ al * iH) (n3 : al * iL ≤ nH * 1048576) (n4 : al * iH ≤ nH * 1048576) : dL ≤ nH ∧ nL ≤ dH := by
  have m (x y : Int) (h : x ≤ y) : x * c ≤ y * c := Int.mul_le_mul_of_nonneg_right h (by omega)
  have k1 := m _ _ n1
  have k2 := m _ _ n2
  have k3 := m _ _ n3
  have k4 := m _ _ n4
  rw [Int.mul_right_comm] at k1 k2
  rw [Int.mul_right_comm nH] at k3 k4
  rw [Int.mul_assoc] at k3 k4
  rw [Int.mul_assoc al] at k1 k2
  have q : nL * c * 1048576 ≤ al * K ∧ al * K ≤ nH * c * 1048576 := by
    by_cases h : 0 ≤ al
    · have y1 := Int.mul_le_mul_of_nonneg_left i1 h
      have y2 := Int.mul_le_mul_of_nonneg_left i2 h
      omega
    · have y1 := Int.mul_le_mul_of_nonpos_left (a := al) (by omega) i1
      have y2 := Int.mul_le_mul_of_nonpos_left (a := al) (by omega) i2
      omega
  exact ⟨Int.le_of_mul_le_mul_right (by omega : dL * c ≤ nH * c) hc, Int.le_of_mul_le_mul_right (by omega : nL * c ≤ dH * c) hc⟩
/-- a quotient and the product with the inverse -/
theorem inverse_meets {al ah cl ch : Int} (e1 : (divR al ah cl ch).2 = 0) (e2 : (divR 1048576 1048576 cl ch).2 = 0) (e3 : (mulR al ah (divR 1048576 1048576 cl ch).1.1 (divR 1048576 1048576 cl ch).1.2).2 = 0) :
    (divR al ah cl ch).1.1 ≤ (mulR al ah (divR 1048576 1048576 cl ch).1.1 (divR 1048576 1048576 cl ch).1.2).1.2 ∧ (mulR al ah (divR 1048576 1048576 cl ch).1.1 (divR 1048576 1048576 cl ch).1.2).1.1 ≤ (divR al ah cl ch).1.2 := by
  have n := mul_point e3
  rcases div_point e1 with ⟨c, d1, d2⟩ | ⟨c, d1, d2⟩
  · rcases div_point e2 with ⟨_, i1, i2⟩ | ⟨c', _, _⟩
    · exact core c (by rw [Int.mul_assoc]) d1 d2 i1 i2 n.1 n.2.1 n.2.2.1 n.2.2.2
    · omega
  · rcases div_point e2 with ⟨c', _, _⟩ | ⟨_, i1, i2⟩
    · omega
    · exact core (by omega) (by rw [Int.mul_neg, Int.neg_mul, Int.mul_assoc]) d1 d2 i1 i2 n.1 n.2.1 n.2.2.1 n.2.2.2
end Sp

end Go.Proofs.Ythpjjpfflpjpdab
