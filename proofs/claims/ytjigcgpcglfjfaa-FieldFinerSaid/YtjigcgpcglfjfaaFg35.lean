/-
  Plain facts: cutting a panel finer never makes the means over it wider.
-/
import Derived.Test.YtjigcgpcglfjfaaFgMf
import Derived.Test.YtjigcgpcglfjfaaFg28
namespace Go.Proofs.Ytjigcgpcglfjfaa
open Go.ChangeShapes Go.WideShapes Go.RowKit
open Sh
theorem qUp1_min {t n u : Nat} (n1 : 1 ≤ n) (h : t ≤ u * u * n) : qUp t n 1 ≤ u := by
  have e1 : QT t n 1 = t / n := rfl
  have e2 : QW t n 1 = decide (t % n = 0) := by show (true && decide (t % n = 0)) = _; simp
  unfold qUp
  rw [e1, e2]
  have dm := Nat.div_add_mod t n
  have ml := Nat.mod_lt t n1
  by_cases z : t % n = 0
  · rw [if_pos (by simpa using z)]
    have le : t / n ≤ u * u := Nat.div_le_of_le_mul (by rw [Nat.mul_comm]; exact h)
    unfold Rt.csq
    have hs := (Rt.isq_spec (t / n)).1
    have il : Rt.isq (t / n) ≤ u := Classical.byContradiction fun c => by
      have := Nat.mul_le_mul (show u + 1 ≤ Rt.isq (t / n) by omega) (show u + 1 ≤ Rt.isq (t / n) by omega)
      have e : (u + 1) * (u + 1) = u * u + 2 * u + 1 := by rw [Nat.add_mul, Nat.mul_add]; omega
      omega
    split
    · exact il
    · rename_i ne
      rcases Nat.lt_or_ge (Rt.isq (t / n)) u with c | c
      · exact c
      · have : Rt.isq (t / n) = u := by omega
        rw [this] at hs ne
        omega
  · rw [if_neg (by simpa using z)]
    have lt : t / n < u * u := Classical.byContradiction fun c => by
      have := Nat.mul_le_mul_right n (show u * u ≤ t / n by omega)
      rw [Nat.mul_comm (t / n) n] at this
      omega
    exact Rt.isq_lt lt
theorem qUp1_ok {t n : Nat} (n1 : 1 ≤ n) : t ≤ qUp t n 1 * qUp t n 1 * n := by
  have e1 : QT t n 1 = t / n := rfl
  have e2 : QW t n 1 = decide (t % n = 0) := by show (true && decide (t % n = 0)) = _; simp
  unfold qUp
  rw [e1, e2]
  have dm := Nat.div_add_mod t n
  have ml := Nat.mod_lt t n1
  obtain ⟨hs1, hs2⟩ := Rt.isq_spec (t / n)
  by_cases z : t % n = 0
  · rw [if_pos (by simpa using z)]
    have key : t / n ≤ Rt.csq (t / n) * Rt.csq (t / n) := by
      unfold Rt.csq
      split
      · rename_i e; omega
      · omega
    have := Nat.mul_le_mul_right n key
    rw [Nat.mul_comm (t / n) n] at this
    omega
  · rw [if_neg (by simpa using z)]
    have := Nat.mul_le_mul_right n (show t / n + 1 ≤ (Rt.isq (t / n) + 1) * (Rt.isq (t / n) + 1) from hs2)
    rw [Nat.add_mul, Nat.mul_comm (t / n) n, Nat.one_mul] at this
    omega
theorem qUp_cube {t n : Nat} (n1 : 1 ≤ n) : qUp t n 3 = qUp t (n * n * n) 1 := by
  unfold qUp
  rw [QT3, QW3 t n n1]
/-- finer by c: the least number above -/
theorem qUp1_fine {t n t' n' c : Nat} (n1 : 1 ≤ n) (n1' : 1 ≤ n') (ht : t' = c * t) (hn : c * n ≤ n') : qUp t' n' 1 ≤ qUp t n 1 := by
  refine qUp1_min n1' ?_
  have h := qUp1_ok (t := t) n1
  subst ht
  refine Nat.le_trans (Nat.mul_le_mul_left c h) ?_
  have e : c * (qUp t n 1 * qUp t n 1 * n) = qUp t n 1 * qUp t n 1 * (c * n) := by rw [Nat.mul_left_comm]
  rw [e]
  exact Nat.mul_le_mul_left _ hn
theorem QT1_fine {t n t' n' c : Nat} (n1' : 1 ≤ n') (c1 : 1 ≤ c) (ht : t' = c * t) (hn : n' ≤ c * n) : QT t n 1 ≤ QT t' n' 1 := by
  show t / n ≤ t' / n'
  subst ht
  rw [← Nat.mul_div_mul_left t n (show 0 < c from c1)]
  exact Nat.div_le_div_left hn n1'
theorem told_inv {a b p q : Int} (h : Sp.told a b = ((p, q), 0)) : a = p ∧ b = q := by
  unfold Sp.told at h
  by_cases v : Sp.vldB a b = true
  · rw [if_pos v] at h
    exact ⟨(Prod.mk.inj (Prod.mk.inj h).1).1, (Prod.mk.inj (Prod.mk.inj h).1).2⟩
  · rw [if_neg v] at h
    exact absurd (Prod.mk.inj h).2 (by decide)
theorem kVf_eq {m k : Int} (m1 : 1 ≤ m) (m2 : m ≤ 1099511627776) (k1 : 1 ≤ k) (k2 : k ≤ 8) : (kV false m k).1.1 = (Rt.isq (QT ((k.toNat * 1048576) * (k.toNat * 1048576)) m.toNat 1) : Nat) ∧ (kV false m k).1.2 = (qUp ((k.toNat * 1048576) * (k.toNat * 1048576)) m.toNat 1 : Nat) := by
  obtain ⟨r, u, e, _, _⟩ := kV_val false m1 m2 k1 k2
  have d : kV false m k = Sp.told ((Rt.isq (QT ((k.toNat * 1048576) * (k.toNat * 1048576)) m.toNat 1) : Nat) : Int) ((qUp ((k.toNat * 1048576) * (k.toNat * 1048576)) m.toNat 1 : Nat) : Int) := by
    rw [kv_no]
    unfold invR
    rw [if_pos ⟨m1, m2, k1, k2⟩]
    rfl
  have t := told_inv (d.symm.trans e)
  rw [e]
  exact ⟨t.1.symm, t.2.symm⟩
theorem kVt_eq {m k : Int} (m1 : 1 ≤ m) (m2 : m ≤ 1099511627776) (k1 : 1 ≤ k) (k2 : k ≤ 8) : (kV true m k).1.1 = (Rt.isq (QT ((k.toNat * k.toNat * k.toNat * 1048576) * (k.toNat * k.toNat * k.toNat * 1048576)) (m.toNat * m.toNat * m.toNat) 1) : Nat) ∧ (kV true m k).1.2 = (qUp ((k.toNat * k.toNat * k.toNat * 1048576) * (k.toNat * k.toNat * k.toNat * 1048576)) (m.toNat * m.toNat * m.toNat) 1 : Nat) := by
  obtain ⟨r, u, e, _, _⟩ := kV_val true m1 m2 k1 k2
  have d : kV true m k = Sp.told ((Rt.isq (QT ((k.toNat * k.toNat * k.toNat * 1048576) * (k.toNat * k.toNat * k.toNat * 1048576)) m.toNat 3) : Nat) : Int) ((qUp ((k.toNat * k.toNat * k.toNat * 1048576) * (k.toNat * k.toNat * k.toNat * 1048576)) m.toNat 3 : Nat) : Int) := by
    unfold kV
    rw [if_pos rfl]
    unfold cubeR
    rw [if_pos ⟨m1, m2, k1, k2⟩]
    rfl
  rw [QT3, qUp_cube (by omega)] at d
  have t := told_inv (d.symm.trans e)
  rw [e]
  exact ⟨t.1.symm, t.2.symm⟩
theorem cube_le {a b c : Nat} (h : a ≤ c * b) : a * a * a ≤ c * c * c * (b * b * b) := by
  have h1 := Nat.mul_le_mul (Nat.mul_le_mul h h) h
  have e : c * b * (c * b) * (c * b) = c * c * c * (b * b * b) := by
    simp only [Nat.mul_left_comm, Nat.mul_comm]
  rw [e] at h1
  exact h1
theorem cube_ge {a b c : Nat} (h : c * b ≤ a) : c * c * c * (b * b * b) ≤ a * a * a := by
  have h1 := Nat.mul_le_mul (Nat.mul_le_mul h h) h
  have e : c * b * (c * b) * (c * b) = c * c * c * (b * b * b) := by
    simp only [Nat.mul_left_comm, Nat.mul_comm]
  rw [e] at h1
  exact h1
theorem kV_lo (c : Bool) {m m' k : Int} (m1 : 1 ≤ m) (m2 : m ≤ 1099511627776) (m1' : 1 ≤ m') (m2' : m' ≤ 1099511627776) (k1 : 1 ≤ k) (k2 : 2 * k ≤ 8) (h : m' ≤ 4 * m) : (kV c m k).1.1 ≤ (kV c m' (2 * k)).1.1 := by
  have hk : (2 * k).toNat = 2 * k.toNat := by omega
  have hm : m'.toNat ≤ 4 * m.toNat := by omega
  have hm1 : 1 ≤ m'.toNat := by omega
  generalize hK : k.toNat = K at *
  cases c
  · rw [(kVf_eq m1 m2 k1 (by omega)).1, (kVf_eq m1' m2' (by omega) k2).1, hk, hK]
    have := isq_mono8 (QT1_fine (t := K * 1048576 * (K * 1048576)) (t' := 2 * K * 1048576 * (2 * K * 1048576)) (c := 4) hm1 (by decide) (by
      simp only [Nat.mul_assoc, Nat.mul_left_comm]) hm)
    omega
  · rw [(kVt_eq m1 m2 k1 (by omega)).1, (kVt_eq m1' m2' (by omega) k2).1, hk, hK]
    have h3 := cube_le hm
    have n3 : 1 ≤ m'.toNat * m'.toNat * m'.toNat := Nat.mul_le_mul (Nat.mul_le_mul hm1 hm1) hm1
    have := isq_mono8 (QT1_fine (t := K * K * K * 1048576 * (K * K * K * 1048576)) (t' := 2 * K * (2 * K) * (2 * K) * 1048576 * (2 * K * (2 * K) * (2 * K) * 1048576)) (c := 64) n3 (by decide) (by
      simp only [Nat.mul_assoc, Nat.mul_left_comm]) h3)
    omega
theorem kV_hi (c : Bool) {m m' k : Int} (m1 : 1 ≤ m) (m2 : m ≤ 1099511627776) (m1' : 1 ≤ m') (m2' : m' ≤ 1099511627776) (k1 : 1 ≤ k) (k2 : 2 * k ≤ 8) (h : 4 * m ≤ m') : (kV c m' (2 * k)).1.2 ≤ (kV c m k).1.2 := by
  have hk : (2 * k).toNat = 2 * k.toNat := by omega
  have hm : 4 * m.toNat ≤ m'.toNat := by omega
  have hm1 : 1 ≤ m'.toNat := by omega
  have hm0 : 1 ≤ m.toNat := by omega
  generalize hK : k.toNat = K at *
  cases c
  · rw [(kVf_eq m1 m2 k1 (by omega)).2, (kVf_eq m1' m2' (by omega) k2).2, hk, hK]
    have := qUp1_fine (t := K * 1048576 * (K * 1048576)) (t' := 2 * K * 1048576 * (2 * K * 1048576)) (c := 4) hm0 hm1 (by
      simp only [Nat.mul_assoc, Nat.mul_left_comm]) hm
    omega
  · rw [(kVt_eq m1 m2 k1 (by omega)).2, (kVt_eq m1' m2' (by omega) k2).2, hk, hK]
    have h3 := cube_ge hm
    have n3 : 1 ≤ m'.toNat * m'.toNat * m'.toNat := Nat.mul_le_mul (Nat.mul_le_mul hm1 hm1) hm1
    have n0 : 1 ≤ m.toNat * m.toNat * m.toNat := Nat.mul_le_mul (Nat.mul_le_mul hm0 hm0) hm0
    have := qUp1_fine (t := K * K * K * 1048576 * (K * K * K * 1048576)) (t' := 2 * K * (2 * K) * (2 * K) * 1048576 * (2 * K * (2 * K) * (2 * K) * 1048576)) (c := 64) n0 n3 (by
      simp only [Nat.mul_assoc, Nat.mul_left_comm]) h3
    omega
/-- corners of a quarter are sums of two corners -/
def Sum2 (t : P9) (u : P3) : Prop := ∃ i j, i < 3 ∧ j < 3 ∧ u = add (P3F t i) (P3F t j)
def SumT (t q : P9) : Prop := Sum2 t q.1 ∧ Sum2 t q.2.1 ∧ Sum2 t q.2.2
theorem sum2_ab (t : P9) (i j : Nat) (hi : i < 3) (hj : j < 3) : Sum2 t (add (P3F t i) (P3F t j)) := ⟨i, j, hi, hj, rfl⟩
theorem tim2_sum (a : P3) : tim 2 a = add a a := Prod.ext (show 2 * a.1 = a.1 + a.1 by omega) (Prod.ext (show 2 * a.2.1 = a.2.1 + a.2.1 by omega) (show 2 * a.2.2 = a.2.2 + a.2.2 by omega))
theorem qrs_sum (t q : P9) (h : q ∈ qrs t) : SumT t q := by
  have z0 : Sum2 t (tim 2 t.1) := by rw [tim2_sum]; exact sum2_ab t 0 0 (by decide) (by decide)
  have z1 : Sum2 t (tim 2 t.2.1) := by rw [tim2_sum]; exact sum2_ab t 1 1 (by decide) (by decide)
  have z2 : Sum2 t (tim 2 t.2.2) := by rw [tim2_sum]; exact sum2_ab t 2 2 (by decide) (by decide)
  have y0 : Sum2 t (add t.1 t.2.1) := sum2_ab t 0 1 (by decide) (by decide)
  have y1 : Sum2 t (add t.2.1 t.2.2) := sum2_ab t 1 2 (by decide) (by decide)
  have y2 : Sum2 t (add t.2.2 t.1) := sum2_ab t 2 0 (by decide) (by decide)
  unfold qrs at h
  simp only [List.mem_cons, List.not_mem_nil, or_false] at h
  rcases h with rfl | rfl | rfl | rfl
  · exact ⟨z0, y0, y2⟩
  · exact ⟨y0, z1, y1⟩
  · exact ⟨y2, y1, z2⟩
  · exact ⟨y0, y1, y2⟩
theorem gap_fine {n a b c l h : Int} (_hl : l ≤ a ∧ l ≤ b ∧ l ≤ c) (_hh : a ≤ h ∧ b ≤ h ∧ c ≤ h) {a' b' c' : Int} (h1 : 2 * l ≤ a' ∧ a' ≤ 2 * h) (h2 : 2 * l ≤ b' ∧ b' ≤ 2 * h) (h3 : 2 * l ≤ c' ∧ c' ≤ 2 * h) (el : l = lo3' a b c) (eh : h = hi3' a b c) :
    0 ≤ gapN n (lo3' a b c) (hi3' a b c) ∧ 2 * gapN n (lo3' a b c) (hi3' a b c) ≤ gapN (2 * n) (lo3' a' b' c') (hi3' a' b' c') := by
  rw [← el, ← eh]
  unfold gapN lo3' hi3'
  simp only [Sp.mn_eq, Sp.mx_eq]
  omega
theorem lo3_le (a b c : Int) : (lo3' a b c ≤ a ∧ lo3' a b c ≤ b ∧ lo3' a b c ≤ c) ∧ a ≤ hi3' a b c ∧ b ≤ hi3' a b c ∧ c ≤ hi3' a b c := by
  unfold lo3' hi3'
  simp only [Sp.mn_eq, Sp.mx_eq]
  omega
theorem sum2_in {t : P9} {u : P3} (h : Sum2 t u) : (2 * lo3' t.1.1 t.2.1.1 t.2.2.1 ≤ u.1 ∧ u.1 ≤ 2 * hi3' t.1.1 t.2.1.1 t.2.2.1) ∧ (2 * lo3' t.1.2.1 t.2.1.2.1 t.2.2.2.1 ≤ u.2.1 ∧ u.2.1 ≤ 2 * hi3' t.1.2.1 t.2.1.2.1 t.2.2.2.1) ∧ 2 * lo3' t.1.2.2 t.2.1.2.2 t.2.2.2.2 ≤ u.2.2 ∧ u.2.2 ≤ 2 * hi3' t.1.2.2 t.2.1.2.2 t.2.2.2.2 := by
  obtain ⟨i, j, hi, hj, rfl⟩ := h
  have key : ∀ i, i < 3 → (lo3' t.1.1 t.2.1.1 t.2.2.1 ≤ (P3F t i).1 ∧ (P3F t i).1 ≤ hi3' t.1.1 t.2.1.1 t.2.2.1) ∧ (lo3' t.1.2.1 t.2.1.2.1 t.2.2.2.1 ≤ (P3F t i).2.1 ∧ (P3F t i).2.1 ≤ hi3' t.1.2.1 t.2.1.2.1 t.2.2.2.1) ∧ lo3' t.1.2.2 t.2.1.2.2 t.2.2.2.2 ≤ (P3F t i).2.2 ∧ (P3F t i).2.2 ≤ hi3' t.1.2.2 t.2.1.2.2 t.2.2.2.2 := fun i hi => by
    have x := lo3_le t.1.1 t.2.1.1 t.2.2.1
    have y := lo3_le t.1.2.1 t.2.1.2.1 t.2.2.2.1
    have z := lo3_le t.1.2.2 t.2.1.2.2 t.2.2.2.2
    match i, hi with
    | 0, _ => exact ⟨⟨x.1.1, x.2.1⟩, ⟨y.1.1, y.2.1⟩, z.1.1, z.2.1⟩
    | 1, _ => exact ⟨⟨x.1.2.1, x.2.2.1⟩, ⟨y.1.2.1, y.2.2.1⟩, z.1.2.1, z.2.2.1⟩
    | 2, _ => exact ⟨⟨x.1.2.2, x.2.2.2⟩, ⟨y.1.2.2, y.2.2.2⟩, z.1.2.2, z.2.2.2⟩
  have a := key i hi
  have b := key j hj
  simp only [add]
  omega
theorem sq_4 {a b : Int} (h0 : 0 ≤ a) (h : 2 * a ≤ b) : 4 * (a * a) ≤ b * b := by
  have := Int.mul_le_mul h h (by omega) (by omega)
  have e : 2 * a * (2 * a) = 4 * (a * a) := by rw [Int.mul_assoc, Int.mul_left_comm a 2 a, ← Int.mul_assoc]; omega
  rw [e] at this
  exact this
theorem near_fine {t q : P9} (h : SumT t q) (y : P3) : 4 * nearN t y ≤ nearN q (tim 2 y) := by
  rw [← gapP_sq, ← gapP_sq]
  have i0 := sum2_in h.1
  have i1 := sum2_in h.2.1
  have i2 := sum2_in h.2.2
  have g0 := gap_fine (n := y.1) (lo3_le t.1.1 t.2.1.1 t.2.2.1).1 (lo3_le t.1.1 t.2.1.1 t.2.2.1).2 i0.1 i1.1 i2.1 rfl rfl
  have g1 := gap_fine (n := y.2.1) (lo3_le t.1.2.1 t.2.1.2.1 t.2.2.2.1).1 (lo3_le t.1.2.1 t.2.1.2.1 t.2.2.2.1).2 i0.2.1 i1.2.1 i2.2.1 rfl rfl
  have g2 := gap_fine (n := y.2.2) (lo3_le t.1.2.2 t.2.1.2.2 t.2.2.2.2).1 (lo3_le t.1.2.2 t.2.1.2.2 t.2.2.2.2).2 i0.2.2 i1.2.2 i2.2.2 rfl rfl
  have s0 := sq_4 g0.1 g0.2
  have s1 := sq_4 g1.1 g1.2
  have s2 := sq_4 g2.1 g2.2
  show 4 * (_ * _ + _ * _ + _ * _) ≤ _ * _ + _ * _ + _ * _
  show 4 * (gapN y.1 _ _ * gapN y.1 _ _ + gapN y.2.1 _ _ * gapN y.2.1 _ _ + gapN y.2.2 _ _ * gapN y.2.2 _ _) ≤ gapN (2 * y.1) _ _ * gapN (2 * y.1) _ _ + gapN (2 * y.2.1) _ _ * gapN (2 * y.2.1) _ _ + gapN (2 * y.2.2) _ _ * gapN (2 * y.2.2) _ _
  omega
theorem par2 (a b : Int) : (a + b) * (a + b) ≤ 2 * (a * a) + 2 * (b * b) := by
  have h := sq_pos' (a - b)
  have e1 : (a + b) * (a + b) = a * a + 2 * (a * b) + b * b := by rw [Int.add_mul, Int.mul_add, Int.mul_add, Int.mul_comm b a]; omega
  have e2 : (a - b) * (a - b) = a * a - 2 * (a * b) + b * b := by rw [Int.sub_mul, Int.mul_sub, Int.mul_sub, Int.mul_comm b a]; omega
  rw [e2] at h
  rw [e1]
  omega
theorem far_corner (t : P9) (y : P3) : ∀ i, i < 3 → sq (sub (P3F t i) y) ≤ farN t y := fun i hi => by
  have key : ∀ a b c : Int, a ≤ hi3' a b c ∧ b ≤ hi3' a b c ∧ c ≤ hi3' a b c := fun a b c => (lo3_le a b c).2
  have k := key (sq (sub t.1 y)) (sq (sub t.2.1 y)) (sq (sub t.2.2 y))
  match i, hi with
  | 0, _ => exact k.1
  | 1, _ => exact k.2.1
  | 2, _ => exact k.2.2
theorem sum2_far {t : P9} {u : P3} (h : Sum2 t u) (y : P3) : sq (sub u (tim 2 y)) ≤ 4 * farN t y := by
  obtain ⟨i, j, hi, hj, rfl⟩ := h
  have a := far_corner t y i hi
  have b := far_corner t y j hj
  generalize P3F t i = p at *
  generalize P3F t j = q at *
  have x := par2 (p.1 - y.1) (q.1 - y.1)
  have z := par2 (p.2.1 - y.2.1) (q.2.1 - y.2.1)
  have v := par2 (p.2.2 - y.2.2) (q.2.2 - y.2.2)
  have a' : (p.1 - y.1) * (p.1 - y.1) + (p.2.1 - y.2.1) * (p.2.1 - y.2.1) + (p.2.2 - y.2.2) * (p.2.2 - y.2.2) ≤ farN t y := a
  have b' : (q.1 - y.1) * (q.1 - y.1) + (q.2.1 - y.2.1) * (q.2.1 - y.2.1) + (q.2.2 - y.2.2) * (q.2.2 - y.2.2) ≤ farN t y := b
  show (p.1 + q.1 - 2 * y.1) * (p.1 + q.1 - 2 * y.1) + (p.2.1 + q.2.1 - 2 * y.2.1) * (p.2.1 + q.2.1 - 2 * y.2.1) + (p.2.2 + q.2.2 - 2 * y.2.2) * (p.2.2 + q.2.2 - 2 * y.2.2) ≤ 4 * farN t y
  rw [show p.1 + q.1 - 2 * y.1 = (p.1 - y.1) + (q.1 - y.1) by omega, show p.2.1 + q.2.1 - 2 * y.2.1 = (p.2.1 - y.2.1) + (q.2.1 - y.2.1) by omega, show p.2.2 + q.2.2 - 2 * y.2.2 = (p.2.2 - y.2.2) + (q.2.2 - y.2.2) by omega]
  omega
theorem far_fine {t q : P9} (h : SumT t q) (y : P3) : farN q (tim 2 y) ≤ 4 * farN t y := by
  have a := sum2_far h.1 y
  have b := sum2_far h.2.1 y
  have c := sum2_far h.2.2 y
  show hi3' _ _ _ ≤ _
  unfold hi3'
  simp only [Sp.mx_eq]
  omega
theorem sL_fine {g g' : P9 → Int} : ∀ (l : List P9), (∀ t ∈ l, ∀ q ∈ qrs t, g t ≤ g' q) → 4 * sL g l ≤ sL g' (l.flatMap qrs)
  | [], _ => by show 4 * (0 : Int) ≤ 0; decide
  | t :: l, h => by
    have ih := sL_fine l fun t ht q hq => h t (List.mem_cons_of_mem _ ht) q hq
    rw [List.flatMap_cons, sL_app]
    have e : sL g (t :: l) = g t + sL g l := rfl
    have e' : sL g' (qrs t) = g' (qr0 t) + (g' (qr1 t) + (g' (qr2 t) + (g' (qr3 t) + 0))) := rfl
    have k := h t (List.mem_cons_self ..)
    have k0 := k (qr0 t) (by unfold qrs; simp)
    have k1 := k (qr1 t) (by unfold qrs; simp)
    have k2 := k (qr2 t) (by unfold qrs; simp)
    have k3 := k (qr3 t) (by unfold qrs; simp)
    rw [e, e']
    omega
theorem sL_fine' {g g' : P9 → Int} : ∀ (l : List P9), (∀ t ∈ l, ∀ q ∈ qrs t, g' q ≤ g t) → sL g' (l.flatMap qrs) ≤ 4 * sL g l
  | [], _ => by show (0 : Int) ≤ 4 * 0; decide
  | t :: l, h => by
    have ih := sL_fine' l fun t ht q hq => h t (List.mem_cons_of_mem _ ht) q hq
    rw [List.flatMap_cons, sL_app]
    have e : sL g (t :: l) = g t + sL g l := rfl
    have e' : sL g' (qrs t) = g' (qr0 t) + (g' (qr1 t) + (g' (qr2 t) + (g' (qr3 t) + 0))) := rfl
    have k := h t (List.mem_cons_self ..)
    have k0 := k (qr0 t) (by unfold qrs; simp)
    have k1 := k (qr1 t) (by unfold qrs; simp)
    have k2 := k (qr2 t) (by unfold qrs; simp)
    have k3 := k (qr3 t) (by unfold qrs; simp)
    rw [e, e']
    omega

end Go.Proofs.Ytjigcgpcglfjfaa
