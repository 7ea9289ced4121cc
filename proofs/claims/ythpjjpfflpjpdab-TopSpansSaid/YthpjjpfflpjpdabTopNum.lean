/-
  Plain arithmetic for TopSpans: two ways to the same number meet in a point that both enclose.
-/
import Derived.Test.YthpjjpfflpjpdabSquare
import Derived.Test.YthpjjpfflpjpdabScale2
import Derived.Test.YthpjjpfflpjpdabNumDiv
namespace Go.Proofs.Ythpjjpfflpjpdab
namespace Sp
theorem told_ok {p q : Int} (h : (told p q).2 = 0) : told p q = ((p, q), 0) ∧ vldB p q = true := by
  unfold told at *
  split at h
  · rename_i u; rw [if_pos u]; exact ⟨rfl, u⟩
  · exact absurd h (by decide)
theorem sq_point {lo hi u : Int} (h : (sqR lo hi).2 = 0) (h1 : lo ≤ u) (h2 : u ≤ hi) : (sqR lo hi).1.1 * 1048576 ≤ u * u ∧ u * u ≤ (sqR lo hi).1.2 * 1048576 := by
  unfold sqR at *
  split at h
  · rename_i v
    rw [if_pos v]
    have t := told_ok h
    rw [t.1]
    have a := mulD_le (mx (mx 0 lo) (-hi)) (mx (mx 0 lo) (-hi))
    have b := mulU_ge (mx (-lo) hi) (mx (-lo) hi)
    have m0 : 0 ≤ mx (mx 0 lo) (-hi) := by rw [mx_eq, mx_eq]; omega
    have M1 : u ≤ mx (-lo) hi := by rw [mx_eq]; omega
    have M2 : -u ≤ mx (-lo) hi := by rw [mx_eq]; omega
    by_cases c : 0 ≤ u
    · have m1 : mx (mx 0 lo) (-hi) ≤ u := by rw [mx_eq, mx_eq]; omega
      have x1 := Int.mul_le_mul m1 m1 m0 c
      have x2 := Int.mul_le_mul M1 M1 c (by omega)
      exact ⟨by simpa using Int.le_trans a x1, by simpa using Int.le_trans x2 b⟩
    · have m1 : mx (mx 0 lo) (-hi) ≤ -u := by rw [mx_eq, mx_eq]; omega
      have x1 := Int.mul_le_mul m1 m1 m0 (by omega)
      have x2 := Int.mul_le_mul M2 M2 (by omega) (by omega)
      rw [Int.neg_mul_neg] at x1 x2
      exact ⟨by simpa using Int.le_trans a x1, by simpa using Int.le_trans x2 b⟩
  · exact absurd h (by decide)
end Sp
theorem scale_two {lo hi : Int} (h : (scaleR lo hi 2).2 = 0) : (scaleR lo hi 2).1.1 = lo * 2 ∧ (scaleR lo hi 2).1.2 = hi * 2 := by
  unfold scaleR at *
  split at h
  · rename_i v
    rw [if_pos v, (Sp.told_ok h).1]
    have := Sp.vld_iff.1 v.1
    constructor
    · show Sp.mn _ _ = _
      rw [Sp.mn_eq]; omega
    · show Sp.mx _ _ = _
      rw [Sp.mx_eq]; omega
  · exact absurd h (by decide)
/-- the square of a sum and the binomial -/
theorem binomial {al ah bl bh : Int} (ha : al ≤ ah) (hb : bl ≤ bh) (e1 : (Sp.sqR (al + bl) (ah + bh)).2 = 0) (e2 : (Sp.sqR al ah).2 = 0) (e3 : (Sp.sqR bl bh).2 = 0) (e4 : (Sp.mulR al ah bl bh).2 = 0)
    (e5 : (scaleR (Sp.mulR al ah bl bh).1.1 (Sp.mulR al ah bl bh).1.2 2).2 = 0) :
    (Sp.sqR (al + bl) (ah + bh)).1.1 ≤ (Sp.sqR al ah).1.2 + (scaleR (Sp.mulR al ah bl bh).1.1 (Sp.mulR al ah bl bh).1.2 2).1.2 + (Sp.sqR bl bh).1.2 ∧
    (Sp.sqR al ah).1.1 + (scaleR (Sp.mulR al ah bl bh).1.1 (Sp.mulR al ah bl bh).1.2 2).1.1 + (Sp.sqR bl bh).1.1 ≤ (Sp.sqR (al + bl) (ah + bh)).1.2 := by
  have x := Sp.sq_point (u := al + bl) e1 (Int.le_refl _) (by omega)
  have p := Sp.sq_point (u := al) e2 (Int.le_refl _) ha
  have q := Sp.sq_point (u := bl) e3 (Int.le_refl _) hb
  have t := scale_two e5
  rw [t.1, t.2]
  rcases Sp.mulR_cases al ah bl bh with h | ⟨_, _, _, _, m1, _, m2, _⟩
  · exact absurd e4 h
  · have E : (al + bl) * (al + bl) = al * al + 2 * (al * bl) + bl * bl := by
      rw [Int.add_mul, Int.mul_add, Int.mul_add, Int.mul_comm bl al]; omega
    rw [E] at x
    omega

end Go.Proofs.Ythpjjpfflpjpdab
