/-
  Plain facts: the spans of means and solid angles at the next depth lie within those at this one.
-/
import Derived.Test.YtjigcgpcglfjfaaFg35
namespace Go.Proofs.Ytjigcgpcglfjfaa
open Go.ChangeShapes Go.WideShapes Go.RowKit
open Sh
theorem scl_next {D : Int} (d0 : 0 ≤ D) (d2 : D ≤ 2) : scl (D + 1) = 2 * scl D ∧ 1 ≤ scl D ∧ 2 * scl D ≤ 8 := by
  have hd : D = 0 ∨ D = 1 ∨ D = 2 := by omega
  rcases hd with rfl | rfl | rfl <;> decide
theorem tim_next (s : Int) (x : P3) : tim (2 * s) x = tim 2 (tim s x) := Prod.ext (Int.mul_assoc 2 s x.1) (Prod.ext (Int.mul_assoc 2 s x.2.1) (Int.mul_assoc 2 s x.2.2))
theorem sm_le9 {f g : Nat → Int} : ∀ {n : Nat}, (∀ k, k < n → f k ≤ g k) → sm f n ≤ sm g n
  | 0, _ => Int.le_refl _
  | n + 1, e => by
    have := sm_le9 (n := n) fun k hk => e k (by omega)
    have := e n (by omega)
    show sm f n + f n ≤ sm g n + g n
    omega
theorem cutP_mem {t q : P9} {D : Int} (h : q ∈ cutP D.toNat t) : ∃ k, k < ptn D ∧ q = ptk t D k := by
  obtain ⟨k, hk, e⟩ := List.getElem_of_mem h
  have hl : (cutP D.toNat t).length = ptn D := cutP_len _ _
  refine ⟨k, by omega, ?_⟩
  unfold ptk
  rw [List.getD_eq_getElem?_getD, List.getElem?_eq_getElem hk]
  exact e.symm
theorem mem_cutP {t : P9} {D : Int} {k : Nat} (hk : k < ptn D) : ptk t D k ∈ cutP D.toNat t := by
  unfold ptk
  have hl : k < (cutP D.toNat t).length := by rw [cutP_len]; exact hk
  rw [List.getD_eq_getElem?_getD, List.getElem?_eq_getElem hl]
  exact List.getElem_mem hl
/-- what the mean is when there is one -/
theorem mnF_val {c : Bool} {t : P9} {x : P3} {D : Int} (z : (mnF c t x D).2 = 0) : anyz (ptd t D x) (ptn D) = false ∧ mnF c t x D = ((sm (mLo c t D x) (ptn D) / (ptn D : Int), (sm (mHi c t D x) (ptn D) + (ptn D : Int) - 1) / (ptn D : Int)), 0) := by
  unfold mnF at z ⊢
  cases nz : anyz (ptd t D x) (ptn D) with
  | true => rw [nz] at z; simp at z
  | false => simp
theorem mean_ord {c : Bool} {t : P9} {x : P3} {D : Int} (h : snc t x D = 0) (z : (mnF c t x D).2 = 0) : (mnF c t x D).1.1 ≤ (mnF c t x D).1.2 := by
  obtain ⟨hB, hx, d0, d3⟩ := snc_ok h
  obtain ⟨sw, s1, s2⟩ := scl_vals d0 d3
  have hy := tim_bd hx s1 s2
  obtain ⟨nz, e⟩ := mnF_val z
  rw [e]
  have le : sm (mLo c t D x) (ptn D) ≤ sm (mHi c t D x) (ptn D) := sm_le9 fun k hk => by
    have z1 := anyz_no nz k hk
    have z2 : 0 ≤ ptd t D x k := near_nn _ _
    have z3 : ptd t D x k ≤ ptf t D x k := near_far _ _
    have z4 : ptf t D x k ≤ 19660800 := far_bd9 (ptk_bd9 hB d0 d3 hk) hy
    exact kV_mono c (by omega) z3 (by omega) s1 s2
  have hn := (ptn_vals d0 d3).1
  have hd : D.toNat = 0 ∨ D.toNat = 1 ∨ D.toNat = 2 ∨ D.toNat = 3 := by omega
  have hv : ptn D = 1 ∨ ptn D = 4 ∨ ptn D = 16 ∨ ptn D = 64 := by
    unfold ptn
    rcases hd with e | e | e | e <;> rw [e] <;> decide
  show sm (mLo c t D x) (ptn D) / (ptn D : Int) ≤ (sm (mHi c t D x) (ptn D) + (ptn D : Int) - 1) / (ptn D : Int)
  generalize sm (mLo c t D x) (ptn D) = a at *
  generalize sm (mHi c t D x) (ptn D) = b at *
  rcases hv with e | e | e | e <;> rw [e] <;> omega
theorem mean_fine {c : Bool} {t : P9} {x : P3} {D : Int} (h : snc t x D = 0) (d2 : D ≤ 2) (z : (mnF c t x D).2 = 0) : (mnF c t x (D + 1)).2 = 0 ∧ (mnF c t x D).1.1 ≤ (mnF c t x (D + 1)).1.1 ∧ (mnF c t x (D + 1)).1.2 ≤ (mnF c t x D).1.2 := by
  obtain ⟨hB, hx, d0, d3⟩ := snc_ok h
  obtain ⟨sn, s1, s2⟩ := scl_next d0 d2
  obtain ⟨nz, e⟩ := mnF_val z
  have hy := tim_bd hx s1 (by omega)
  have hy' := tim_bd hx (s := scl (D + 1)) (by omega) (by omega)
  have eN : (D + 1).toNat = D.toNat + 1 := by omega
  have cut : cutP (D + 1).toNat t = (cutP D.toNat t).flatMap qrs := by rw [eN, cutP_last]
  have ey : tim (scl (D + 1)) x = tim 2 (tim (scl D) x) := by rw [sn, tim_next]
  have fact : ∀ q ∈ cutP D.toNat t, (1 ≤ nearN q (tim (scl D) x) ∧ nearN q (tim (scl D) x) ≤ farN q (tim (scl D) x) ∧ farN q (tim (scl D) x) ≤ 19660800) ∧ ∀ r ∈ qrs q, (4 * nearN q (tim (scl D) x) ≤ nearN r (tim (scl (D + 1)) x) ∧ nearN r (tim (scl (D + 1)) x) ≤ farN r (tim (scl (D + 1)) x) ∧ farN r (tim (scl (D + 1)) x) ≤ 19660800 ∧ farN r (tim (scl (D + 1)) x) ≤ 4 * farN q (tim (scl D) x)) := fun q hq => by
    obtain ⟨k, hk, rfl⟩ := cutP_mem hq
    have z1 : ptd t D x k ≠ 0 := anyz_no nz k hk
    have z2 : 0 ≤ ptd t D x k := near_nn _ _
    have z3 : ptd t D x k ≤ ptf t D x k := near_far _ _
    have z4 : ptf t D x k ≤ 19660800 := far_bd9 (ptk_bd9 hB d0 d3 hk) hy
    have b1 : 1 ≤ nearN (ptk t D k) (tim (scl D) x) := by show 1 ≤ ptd t D x k; omega
    refine ⟨⟨b1, z3, z4⟩, fun r hr => ?_⟩
    have sr := qrs_sum _ r hr
    have n4 := near_fine sr (tim (scl D) x)
    have f4 := far_fine sr (tim (scl D) x)
    rw [← ey] at n4 f4
    have mr : r ∈ cutP (D + 1).toNat t := by
      rw [cut]
      exact List.mem_flatMap.2 ⟨_, hq, hr⟩
    obtain ⟨j, hj, rfl⟩ := cutP_mem mr
    exact ⟨n4, near_far _ _, far_bd9 (ptk_bd9 hB (by omega) (by omega) hj) hy', f4⟩
  have nz' : anyz (ptd t (D + 1) x) (ptn (D + 1)) = false := by
    cases w : anyz (ptd t (D + 1) x) (ptn (D + 1)) with
    | false => rfl
    | true =>
      exfalso
      have key : ∀ n, n ≤ ptn (D + 1) → anyz (ptd t (D + 1) x) n = false := fun n => by
        induction n with
        | zero => intro _; rfl
        | succ n ih =>
          intro hn
          refine anyz_next (ih (by omega)) ?_
          have mq : ptk t (D + 1) n ∈ cutP (D + 1).toNat t := mem_cutP (by omega)
          rw [cut] at mq
          obtain ⟨q, hq, hr⟩ := List.mem_flatMap.1 mq
          have f := fact q hq
          have g := f.2 _ hr
          show nearN (ptk t (D + 1) n) (tim (scl (D + 1)) x) ≠ 0
          omega
      rw [key _ (Nat.le_refl _)] at w
      cases w
  have e' : mnF c t x (D + 1) = ((sm (mLo c t (D + 1) x) (ptn (D + 1)) / (ptn (D + 1) : Int), (sm (mHi c t (D + 1) x) (ptn (D + 1)) + (ptn (D + 1) : Int) - 1) / (ptn (D + 1) : Int)), 0) := by
    unfold mnF
    rw [nz']
    simp
  have sl : 4 * sm (mLo c t D x) (ptn D) ≤ sm (mLo c t (D + 1) x) (ptn (D + 1)) := by
    have a := sm_cut (fun q => (kV c (farN q (tim (scl D) x)) (scl D)).1.1) t D
    have b := sm_cut (fun q => (kV c (farN q (tim (scl (D + 1)) x)) (scl (D + 1))).1.1) t (D + 1)
    rw [cut] at b
    have f := sL_fine (g := fun q => (kV c (farN q (tim (scl D) x)) (scl D)).1.1) (g' := fun q => (kV c (farN q (tim (scl (D + 1)) x)) (scl (D + 1))).1.1) (cutP D.toNat t) fun q hq r hr => by
      have g := fact q hq
      have k := g.2 r hr
      rw [sn] at k ⊢
      exact kV_lo c (by omega) (by omega) (by omega) (by omega) s1 s2 k.2.2.2
    have a' : sm (mLo c t D x) (ptn D) = _ := a
    have b' : sm (mLo c t (D + 1) x) (ptn (D + 1)) = _ := b
    rw [a', b']
    exact f
  have su : sm (mHi c t (D + 1) x) (ptn (D + 1)) ≤ 4 * sm (mHi c t D x) (ptn D) := by
    have a := sm_cut (fun q => (kV c (nearN q (tim (scl D) x)) (scl D)).1.2) t D
    have b := sm_cut (fun q => (kV c (nearN q (tim (scl (D + 1)) x)) (scl (D + 1))).1.2) t (D + 1)
    rw [cut] at b
    have f := sL_fine' (g := fun q => (kV c (nearN q (tim (scl D) x)) (scl D)).1.2) (g' := fun q => (kV c (nearN q (tim (scl (D + 1)) x)) (scl (D + 1))).1.2) (cutP D.toNat t) fun q hq r hr => by
      have g := fact q hq
      have k := g.2 r hr
      rw [sn] at k ⊢
      exact kV_hi c (by omega) (by omega) (by omega) (by omega) s1 s2 k.1
    have a' : sm (mHi c t D x) (ptn D) = _ := a
    have b' : sm (mHi c t (D + 1) x) (ptn (D + 1)) = _ := b
    rw [a', b']
    exact f
  rw [e, e']
  refine ⟨rfl, ?_⟩
  show sm (mLo c t D x) (ptn D) / (ptn D : Int) ≤ sm (mLo c t (D + 1) x) (ptn (D + 1)) / (ptn (D + 1) : Int) ∧ (sm (mHi c t (D + 1) x) (ptn (D + 1)) + (ptn (D + 1) : Int) - 1) / (ptn (D + 1) : Int) ≤ (sm (mHi c t D x) (ptn D) + (ptn D : Int) - 1) / (ptn D : Int)
  have pn : (ptn D = 1 ∧ ptn (D + 1) = 4) ∨ (ptn D = 4 ∧ ptn (D + 1) = 16) ∨ (ptn D = 16 ∧ ptn (D + 1) = 64) := by
    have hd : D = 0 ∨ D = 1 ∨ D = 2 := by omega
    rcases hd with rfl | rfl | rfl
    · exact Or.inl ⟨by decide, by decide⟩
    · exact Or.inr (Or.inl ⟨by decide, by decide⟩)
    · exact Or.inr (Or.inr ⟨by decide, by decide⟩)
  generalize sm (mLo c t D x) (ptn D) = a at *
  generalize sm (mHi c t D x) (ptn D) = b at *
  generalize sm (mLo c t (D + 1) x) (ptn (D + 1)) = a' at *
  generalize sm (mHi c t (D + 1) x) (ptn (D + 1)) = b' at *
  rcases pn with ⟨u, v⟩ | ⟨u, v⟩ | ⟨u, v⟩ <;> rw [u, v] <;> omega
/-- the answer at the next depth: within the one at this depth, or refused -/
def FinR (r s : Sp.R) : Prop := r.2 = 0 → s.2 ≠ 1 → s.2 = 0 ∧ Sp.vldB r.1.1 r.1.2 = true ∧ Sp.vldB s.1.1 s.1.2 = true ∧ r.1.1 ≤ s.1.1 ∧ s.1.2 ≤ r.1.2
theorem meF_0 {c : Bool} {t : P9} {x : P3} {D : Int} (h : (meF c t x D).2 = 0) : snc t x D = 0 ∧ meF c t x D = mnF c t x D := by
  have hs : snc t x D = 0 := Classical.byContradiction fun k => by
    unfold meF at h
    rw [if_neg k] at h
    exact k h
  unfold meF
  rw [if_pos hs]
  exact ⟨hs, rfl⟩
theorem snc_next {t : P9} {x : P3} {D : Int} (h : snc t x D = 0) : (D ≤ 2 ∧ snc t x (D + 1) = 0) ∨ snc t x (D + 1) = 1 := by
  unfold snc at h ⊢
  by_cases z : pcode t.1 t.2.1 t.2.2 = 0
  · rw [if_pos z] at h ⊢
    obtain ⟨h1, h2, h3⟩ := akc_ok h
    unfold akc
    rw [inP_iff.2 h1]
    by_cases d : D ≤ 2
    · exact Or.inl ⟨d, by rw [rngB_iff.2 ⟨by omega, by omega⟩]; rfl⟩
    · refine Or.inr ?_
      rw [rngB_not.2 (by omega)]
      rfl
  · rw [if_neg z] at h
    exact absurd h z
theorem meF_fine (c : Bool) (t : P9) (x : P3) (D : Int) : FinR (meF c t x D) (meF c t x (D + 1)) := fun h k => by
  obtain ⟨hs, e⟩ := meF_0 h
  rcases snc_next hs with ⟨d2, hs'⟩ | hs'
  · have e' : meF c t x (D + 1) = mnF c t x (D + 1) := by unfold meF; rw [if_pos hs']
    rw [e] at h
    have f := mean_fine hs d2 h
    have o := mean_ord hs h
    have o' := mean_ord hs' f.1
    have b := mnF_bd hs h
    have b' := mnF_bd hs' f.1
    rw [e, e']
    exact ⟨f.1, Sp.vld_iff.2 ⟨by omega, o, by omega⟩, Sp.vld_iff.2 ⟨by omega, o', by omega⟩, f.2.1, f.2.2⟩
  · exfalso
    apply k
    unfold meF
    rw [if_neg (by rw [hs']; decide)]
    exact hs'
theorem mul_ord {a b h : Int} (hab : a ≤ b) : Sp.mn (a * h) (b * h) = (if 0 ≤ h then a * h else b * h) ∧ Sp.mx (a * h) (b * h) = (if 0 ≤ h then b * h else a * h) := by
  rw [Sp.mn_eq, Sp.mx_eq]
  by_cases k : 0 ≤ h
  · rw [if_pos k, if_pos k]
    have := Int.mul_le_mul_of_nonneg_right hab k
    omega
  · rw [if_neg k, if_neg k]
    have := Int.mul_le_mul_of_nonpos_right hab (show h ≤ 0 by omega)
    omega
theorem scale_fine {a b a' b' h : Int} (v : Sp.vldB a b = true) (v' : Sp.vldB a' b' = true) (l : a ≤ a') (u : b' ≤ b) (z : (scaleR a b h).2 = 0) : (scaleR a' b' h).2 = 0 ∧ Sp.vldB (scaleR a b h).1.1 (scaleR a b h).1.2 = true ∧ Sp.vldB (scaleR a' b' h).1.1 (scaleR a' b' h).1.2 = true ∧ (scaleR a b h).1.1 ≤ (scaleR a' b' h).1.1 ∧ (scaleR a' b' h).1.2 ≤ (scaleR a b h).1.2 := by
  have o := (Sp.vld_iff.1 v).2.1
  have o' := (Sp.vld_iff.1 v').2.1
  unfold scaleR at z ⊢
  by_cases k : Sp.vldB a b = true ∧ -1099511627776 ≤ h ∧ h ≤ 1099511627776
  · rw [if_pos k] at z ⊢
    rw [if_pos (⟨v', k.2⟩ : Sp.vldB a' b' = true ∧ -1099511627776 ≤ h ∧ h ≤ 1099511627776)]
    rw [(mul_ord o).1, (mul_ord o).2] at z ⊢
    rw [(mul_ord o').1, (mul_ord o').2]
    have key : ∀ p q p' q' : Int, (Sp.told p q).2 = 0 → p ≤ p' → p' ≤ q' → q' ≤ q → (Sp.told p' q').2 = 0 ∧ Sp.vldB (Sp.told p q).1.1 (Sp.told p q).1.2 = true ∧ Sp.vldB (Sp.told p' q').1.1 (Sp.told p' q').1.2 = true ∧ (Sp.told p q).1.1 ≤ (Sp.told p' q').1.1 ∧ (Sp.told p' q').1.2 ≤ (Sp.told p q).1.2 := fun p q p' q' zz h1 h2 h3 => by
      have vv : Sp.vldB p q = true := Classical.byContradiction fun n => by
        unfold Sp.told at zz
        rw [if_neg n] at zz
        exact absurd zz (by decide)
      have w := Sp.vld_iff.1 vv
      have vv' : Sp.vldB p' q' = true := Sp.vld_iff.2 ⟨by omega, h2, by omega⟩
      rw [Sp.told_yes vv, Sp.told_yes vv']
      exact ⟨rfl, vv, vv', h1, h3⟩
    by_cases g : 0 ≤ h
    · rw [if_pos g, if_pos g] at z ⊢
      rw [if_pos g, if_pos g]
      exact key _ _ _ _ z (Int.mul_le_mul_of_nonneg_right l g) (Int.mul_le_mul_of_nonneg_right o' g) (Int.mul_le_mul_of_nonneg_right u g)
    · rw [if_neg g, if_neg g] at z ⊢
      rw [if_neg g, if_neg g]
      have g' : h ≤ 0 := by omega
      exact key _ _ _ _ z (Int.mul_le_mul_of_nonpos_right u g') (Int.mul_le_mul_of_nonpos_right o' g') (Int.mul_le_mul_of_nonpos_right l g')
  · rw [if_neg k] at z
    exact absurd z (by decide)
theorem part_fine {p q p' q' : Int} (v : Sp.vldB p q = true) (v' : Sp.vldB p' q' = true) (l : p ≤ p') (u : q' ≤ q) : (partR p q 2).2 = 0 ∧ (partR p' q' 2).2 = 0 ∧ Sp.vldB (partR p q 2).1.1 (partR p q 2).1.2 = true ∧ Sp.vldB (partR p' q' 2).1.1 (partR p' q' 2).1.2 = true ∧ (partR p q 2).1.1 ≤ (partR p' q' 2).1.1 ∧ (partR p' q' 2).1.2 ≤ (partR p q 2).1.2 := by
  have w := Sp.vld_iff.1 v
  have w' := Sp.vld_iff.1 v'
  unfold partR
  rw [if_pos ⟨v, by decide, by decide⟩, if_pos ⟨v', by decide, by decide⟩]
  have e : ∀ n : Int, Sp.fl n 2 = n / 2 := fun n => by unfold Sp.fl; rw [if_pos (by decide)]
  have e' : ∀ n : Int, Sp.ce n 2 = -((-n) / 2) := fun n => by unfold Sp.ce; rw [e]
  have vv : Sp.vldB (Sp.fl p 2) (Sp.ce q 2) = true := by rw [e, e']; exact Sp.vld_iff.2 ⟨by omega, by omega, by omega⟩
  have vv' : Sp.vldB (Sp.fl p' 2) (Sp.ce q' 2) = true := by rw [e, e']; exact Sp.vld_iff.2 ⟨by omega, by omega, by omega⟩
  rw [Sp.told_yes vv, Sp.told_yes vv']
  refine ⟨rfl, rfl, vv, vv', ?_, ?_⟩
  · show Sp.fl p 2 ≤ Sp.fl p' 2
    rw [e, e]; omega
  · show Sp.ce q' 2 ≤ Sp.ce q 2
    rw [e', e']; omega
theorem angF_fine (t : P9) (x : P3) (D : Int) : FinR (angF t x D) (angF t x (D + 1)) := fun h k => by
  have f := meF_fine true t x D
  unfold angF angR at h k ⊢
  by_cases m : (meF true t x D).2 = 0
  · rw [if_pos m] at h ⊢
    have k1 : (meF true t x (D + 1)).2 ≠ 1 := fun e => by
      rw [if_neg (by rw [e]; decide)] at k
      exact k e
    obtain ⟨m', v, v', l, u⟩ := f m k1
    rw [if_pos m']
    by_cases s : (scaleR (meF true t x D).1.1 (meF true t x D).1.2 (hgt t x)).2 = 0
    · rw [if_pos s] at h ⊢
      obtain ⟨s', w, w', l', u'⟩ := scale_fine v v' l u s
      rw [if_pos s']
      have p := part_fine w w' l' u'
      exact ⟨p.2.1, p.2.2.1, p.2.2.2.1, p.2.2.2.2.1, p.2.2.2.2.2⟩
    · rw [if_neg s] at h
      exact absurd h s
  · rw [if_neg m] at h
    exact absurd h m

end Go.Proofs.Ytjigcgpcglfjfaa
