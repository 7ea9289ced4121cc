/-
  Pairs of triangles: the farthest and the nearest points, the rim.
-/
import Derived.Test.YtjigcgpcglfjfaaFg54
namespace Go.Proofs.Ytjigcgpcglfjfaa
open Go.ChangeShapes Go.WideShapes Go.RowKit
open Sh
/-- the farthest points of two triangles, and the gap of their boxes -/
def FF (p q : P9) : Int := fG (P3F p) (P3F q) 3 3
def NN (p q : P9) : Int := nG (loN (P3F p) 3) (hiN (P3F p) 3) (loN (P3F q) 3) (hiN (P3F q) 3)
theorem ff_ge (p q : P9) {i j : Nat} (hi : i < 3) (hj : j < 3) : sq (sub (P3F p i) (P3F q j)) ≤ FF p q := by
  unfold FF
  simp only [fG, fI, Sp.mx_eq]
  match i, j, hi, hj with
  | 0, 0, _, _ => omega
  | 0, 1, _, _ => omega
  | 0, 2, _, _ => omega
  | 1, 0, _, _ => omega
  | 1, 1, _, _ => omega
  | 1, 2, _, _ => omega
  | 2, 0, _, _ => omega
  | 2, 1, _, _ => omega
  | 2, 2, _, _ => omega
theorem ff_le {p q : P9} {F : Int} (h : ∀ i, i < 3 → ∀ j, j < 3 → sq (sub (P3F p i) (P3F q j)) ≤ F) : FF p q ≤ F := by
  have n0 := sq_nn (sub (P3F p 0) (P3F q 0))
  have a0 := h 0 (by decide) 0 (by decide)
  have a1 := h 0 (by decide) 1 (by decide)
  have a2 := h 0 (by decide) 2 (by decide)
  have b0 := h 1 (by decide) 0 (by decide)
  have b1 := h 1 (by decide) 1 (by decide)
  have b2 := h 1 (by decide) 2 (by decide)
  have c0 := h 2 (by decide) 0 (by decide)
  have c1 := h 2 (by decide) 1 (by decide)
  have c2 := h 2 (by decide) 2 (by decide)
  clear h
  unfold FF
  simp only [fG, fI, Sp.mx_eq]
  omega
theorem sq_sw (a b : P3) : sq (sub a b) = sq (sub b a) := by
  simp only [sq, dot, sub]
  grind
theorem ff_sym (p q : P9) : FF p q = FF q p :=
  Int.le_antisymm (ff_le fun i hi j hj => by rw [sq_sw]; exact ff_ge q p hj hi) (ff_le fun i hi j hj => by rw [sq_sw]; exact ff_ge p q hj hi)
theorem gp_sym (al ah bl bh : Int) : gp al ah bl bh = gp bl bh al ah := by
  unfold gp
  simp only [Sp.mx_eq]
  omega
theorem nn_sym (p q : P9) : NN p q = NN q p := by
  unfold NN nG gp3
  rw [gp_sym (loN (P3F p) 3).1, gp_sym (loN (P3F p) 3).2.1, gp_sym (loN (P3F p) 3).2.2]
theorem gp_nn (al ah bl bh : Int) : 0 ≤ gp al ah bl bh := by
  unfold gp
  simp only [Sp.mx_eq]
  omega
theorem sq_mono1 {g d : Int} (g0 : 0 ≤ g) (h : g ≤ d ∨ g ≤ -d) : g * g ≤ d * d := by
  rcases h with h | h
  · exact Int.mul_le_mul h h g0 (by omega)
  · have := Int.mul_le_mul h h g0 (by omega : 0 ≤ -d)
    rwa [Int.neg_mul_neg] at this
theorem gp_le {al ah bl bh a b : Int} (h1 : al ≤ a) (h2 : a ≤ ah) (h3 : bl ≤ b) (h4 : b ≤ bh) : gp al ah bl bh ≤ a - b ∨ gp al ah bl bh ≤ -(a - b) := by
  unfold gp
  simp only [Sp.mx_eq]
  omega
theorem lo_le (p : P9) : (loN (P3F p) 3).1 ≤ p.1.1 ∧ (loN (P3F p) 3).2.1 ≤ p.1.2.1 ∧ (loN (P3F p) 3).2.2 ≤ p.1.2.2 := by
  show (mn3 (mn3 (mn3 p.1 p.1) p.2.1) p.2.2).1 ≤ _ ∧ (mn3 (mn3 (mn3 p.1 p.1) p.2.1) p.2.2).2.1 ≤ _ ∧ (mn3 (mn3 (mn3 p.1 p.1) p.2.1) p.2.2).2.2 ≤ _
  simp only [mn3, Sp.mn_eq]
  omega
theorem hi_ge (p : P9) : p.1.1 ≤ (hiN (P3F p) 3).1 ∧ p.1.2.1 ≤ (hiN (P3F p) 3).2.1 ∧ p.1.2.2 ≤ (hiN (P3F p) 3).2.2 := by
  show _ ≤ (mx3 (mx3 (mx3 p.1 p.1) p.2.1) p.2.2).1 ∧ _ ≤ (mx3 (mx3 (mx3 p.1 p.1) p.2.1) p.2.2).2.1 ∧ _ ≤ (mx3 (mx3 (mx3 p.1 p.1) p.2.1) p.2.2).2.2
  simp only [mx3, Sp.mx_eq]
  omega
theorem nn_ff (p q : P9) : NN p q ≤ FF p q := by
  refine Int.le_trans ?_ (ff_ge p q (i := 0) (j := 0) (by decide) (by decide))
  obtain ⟨l1, l2, l3⟩ := lo_le p
  obtain ⟨h1, h2, h3⟩ := hi_ge p
  obtain ⟨m1, m2, m3⟩ := lo_le q
  obtain ⟨g1, g2, g3⟩ := hi_ge q
  have a := sq_mono1 (gp_nn _ _ _ _) (gp_le l1 h1 m1 g1)
  have b := sq_mono1 (gp_nn _ _ _ _) (gp_le l2 h2 m2 g2)
  have c := sq_mono1 (gp_nn _ _ _ _) (gp_le l3 h3 m3 g3)
  show sq (gp3 _ _ _ _) ≤ sq (sub p.1 q.1)
  simp only [sq, dot, gp3, sub]
  omega
theorem nn_nn (p q : P9) : 0 ≤ NN p q := sq_nn _
theorem rs_ff (p q : P9) : ((rS p : Nat) : Int) ≤ 3 * FF p q := rS_far (t := p) (p := q.1) (ff_ge p q (i := 0) (j := 0) (by decide) (by decide)) (ff_ge p q (i := 1) (j := 0) (by decide) (by decide)) (ff_ge p q (i := 2) (j := 0) (by decide) (by decide))
/-- the low end of what is that far is not above the rim -/
theorem lw_rim {S : Nat} {f s : Int} (S1 : 1 ≤ S) (S2 : S ≤ 60000) (s1 : 1 ≤ s) (s2 : s ≤ 8) (h : (S : Int) ≤ 3 * f) (f2 : f ≤ 1099511627776) : (kV false f s).1.1 ≤ ((rimN S s : Nat) : Int) := by
  have f1 : 1 ≤ f := by omega
  obtain ⟨r, u, e, er, _, _⟩ := invR_val f1 f2 s1 s2
  show (invR f s).1.1 ≤ _
  rw [e]
  show (r : Int) ≤ _
  obtain ⟨l1, l2, l3⟩ := rL_bd S1 S2 s1 s2
  have q := (Rt.isq_spec (s.toNat * 1048576 * (s.toNat * 1048576) / f.toNat)).1
  rw [← er] at q
  have q2 : r * r * f.toNat ≤ s.toNat * 1048576 * (s.toNat * 1048576) := Nat.le_trans (Nat.mul_le_mul_right _ q) (Nat.div_mul_le_self _ _)
  have q3 : (r : Int) * r * f ≤ 1099511627776 * s * s := by
    have c : ((r * r * f.toNat : Nat) : Int) ≤ ((s.toNat * 1048576 * (s.toNat * 1048576) : Nat) : Int) := Int.ofNat_le.2 q2
    rw [Int.natCast_mul, Int.natCast_mul, Int.natCast_mul, Int.natCast_mul, show ((s.toNat : Nat) : Int) = s by omega, show ((f.toNat : Nat) : Int) = f by omega] at c
    have e : s * ((1048576 : Nat) : Int) * (s * ((1048576 : Nat) : Int)) = 1099511627776 * s * s := by
      show s * 1048576 * (s * 1048576) = _
      grind
    omega
  have q4 : (r : Int) * r * S ≤ (r : Int) * r * (3 * f) := Int.mul_le_mul_of_nonneg_left h (by rw [← Int.natCast_mul]; omega)
  have e4 : (r : Int) * r * (3 * f) = 3 * ((r : Int) * r * f) := by grind
  have hW : rW s = 1099511627776 * s * s * 3217 := rfl
  have wb := rW_bd s1 s2
  have key : (r : Int) * r ≤ ((rL S s : Nat) : Int) := by
    rw [l1]
    apply Int.le_ediv_of_mul_le (by omega)
    have e5 : (r : Int) * r * (128 * (S : Int)) = 128 * ((r : Int) * r * S) := by grind
    omega
  have key2 : r * r ≤ rL S s := by
    have : ((r * r : Nat) : Int) ≤ ((rL S s : Nat) : Int) := by rw [Int.natCast_mul]; exact key
    omega
  have c := csq_le.1 (Nat.le_refl (Rt.csq (rL S s)))
  have : r ≤ Rt.csq (rL S s) := by
    apply Nat.le_of_not_gt
    intro g
    have := Nat.mul_le_mul g g
    have e : (Rt.csq (rL S s)).succ * (Rt.csq (rL S s)).succ = Rt.csq (rL S s) * Rt.csq (rL S s) + 2 * Rt.csq (rL S s) + 1 := by grind
    omega
  exact Int.ofNat_le.2 this
/-- parts against the whole, in the finer grid -/
theorem tm9_cl (R : Int → P3 → Prop) (cl : ∀ h a b, R (2 * h) a → R (2 * h) b → R h (add a b)) {t q : P9} {D : Int} (hq : q ∈ cutP D.toNat t) (h1 : R (scl D) t.1) (h2 : R (scl D) t.2.1) (h3 : R (scl D) t.2.2) : R 1 q.1 ∧ R 1 q.2.1 ∧ R 1 q.2.2 := by
  refine cut_closed R cl D.toNat 1 t ?_ q hq
  rw [Int.mul_one]
  exact ⟨h1, h2, h3⟩
theorem ff_part (p : P9) {t q : P9} {D : Int} (hq : q ∈ cutP D.toNat t) : FF p q ≤ FF p (tm9 (scl D) t) := by
  refine ff_le fun i hi j hj => ?_
  have z := tm9_cl (fun m x => sq (sub (P3F p i) (tim m x)) ≤ FF p (tm9 (scl D) t)) (far_closed _ _) hq (ff_ge p (tm9 (scl D) t) hi (j := 0) (by decide)) (ff_ge p (tm9 (scl D) t) hi (j := 1) (by decide)) (ff_ge p (tm9 (scl D) t) hi (j := 2) (by decide))
  simp only [tim_one] at z
  match j, hj with
  | 0, _ => exact z.1
  | 1, _ => exact z.2.1
  | 2, _ => exact z.2.2
theorem gp_mono {al ah bl bh bl' bh' : Int} (h1 : bl ≤ bl') (h2 : bh' ≤ bh) : gp al ah bl bh ≤ gp al ah bl' bh' := by
  unfold gp
  simp only [Sp.mx_eq]
  omega
theorem btw_box (T : P9) : Btw (loN (P3F T) 3) (hiN (P3F T) 3) 1 T.1 ∧ Btw (loN (P3F T) 3) (hiN (P3F T) 3) 1 T.2.1 ∧ Btw (loN (P3F T) 3) (hiN (P3F T) 3) 1 T.2.2 := by
  show Btw (mn3 (mn3 (mn3 T.1 T.1) T.2.1) T.2.2) (mx3 (mx3 (mx3 T.1 T.1) T.2.1) T.2.2) 1 T.1 ∧ Btw (mn3 (mn3 (mn3 T.1 T.1) T.2.1) T.2.2) (mx3 (mx3 (mx3 T.1 T.1) T.2.1) T.2.2) 1 T.2.1 ∧ Btw (mn3 (mn3 (mn3 T.1 T.1) T.2.1) T.2.2) (mx3 (mx3 (mx3 T.1 T.1) T.2.1) T.2.2) 1 T.2.2
  simp only [Btw, mn3, mx3, Sp.mn_eq, Sp.mx_eq]
  omega
theorem btw_tim {lo hi : P3} {m : Int} {x : P3} (h : Btw lo hi 1 (tim m x)) : Btw lo hi m x := by
  simp only [Btw, tim, Int.one_mul] at h ⊢
  exact h
theorem btw_lo {lo hi : P3} {q : P9} (h : Btw lo hi 1 q.1 ∧ Btw lo hi 1 q.2.1 ∧ Btw lo hi 1 q.2.2) : (lo.1 ≤ (loN (P3F q) 3).1 ∧ lo.2.1 ≤ (loN (P3F q) 3).2.1 ∧ lo.2.2 ≤ (loN (P3F q) 3).2.2) ∧ (hiN (P3F q) 3).1 ≤ hi.1 ∧ (hiN (P3F q) 3).2.1 ≤ hi.2.1 ∧ (hiN (P3F q) 3).2.2 ≤ hi.2.2 := by
  show (_ ≤ (mn3 (mn3 (mn3 q.1 q.1) q.2.1) q.2.2).1 ∧ _ ≤ (mn3 (mn3 (mn3 q.1 q.1) q.2.1) q.2.2).2.1 ∧ _ ≤ (mn3 (mn3 (mn3 q.1 q.1) q.2.1) q.2.2).2.2) ∧ (mx3 (mx3 (mx3 q.1 q.1) q.2.1) q.2.2).1 ≤ _ ∧ (mx3 (mx3 (mx3 q.1 q.1) q.2.1) q.2.2).2.1 ≤ _ ∧ (mx3 (mx3 (mx3 q.1 q.1) q.2.1) q.2.2).2.2 ≤ _
  simp only [Btw, Int.one_mul] at h
  simp only [mn3, mx3, Sp.mn_eq, Sp.mx_eq]
  omega
theorem nn_part (p : P9) {t q : P9} {D : Int} (hq : q ∈ cutP D.toNat t) : NN p (tm9 (scl D) t) ≤ NN p q := by
  obtain ⟨b1, b2, b3⟩ := btw_box (tm9 (scl D) t)
  have z := btw_lo (tm9_cl (Btw (loN (P3F (tm9 (scl D) t)) 3) (hiN (P3F (tm9 (scl D) t)) 3)) (btw_closed _ _) hq (btw_tim b1) (btw_tim b2) (btw_tim b3))
  obtain ⟨⟨l1, l2, l3⟩, h1, h2, h3⟩ := z
  have a := gp_mono (al := (loN (P3F p) 3).1) (ah := (hiN (P3F p) 3).1) l1 h1
  have b := gp_mono (al := (loN (P3F p) 3).2.1) (ah := (hiN (P3F p) 3).2.1) l2 h2
  have c := gp_mono (al := (loN (P3F p) 3).2.2) (ah := (hiN (P3F p) 3).2.2) l3 h3
  have a' := sq_mono1 (gp_nn _ _ _ _) (.inl a)
  have b' := sq_mono1 (gp_nn _ _ _ _) (.inl b)
  have c' := sq_mono1 (gp_nn _ _ _ _) (.inl c)
  show sq (gp3 _ _ _ _) ≤ sq (gp3 _ _ _ _)
  simp only [sq, dot, gp3]
  omega

end Go.Proofs.Ytjigcgpcglfjfaa
