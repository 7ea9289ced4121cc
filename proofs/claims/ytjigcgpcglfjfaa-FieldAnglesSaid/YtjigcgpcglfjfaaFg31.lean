/-
  Plain facts: a panel whose corners are exchanged has the same means and the opposite solid angle.
-/
import Derived.Test.YtjigcgpcglfjfaaFg30
namespace Go.Proofs.Ytjigcgpcglfjfaa
open Go.ChangeShapes Go.WideShapes Go.RowKit
open Sh
/-- a panel with corners exchanged, in two ways -/
def exT2 (t : P9) : P9 := (t.1, t.2.2, t.2.1)
def exT3 (t : P9) : P9 := (t.2.2, t.2.1, t.1)
def Sym (g : P9 → Int) : Prop := ∀ t, g (exT2 t) = g t ∧ g (exT3 t) = g t
/-- a sum over a list of panels -/
def sL (g : P9 → Int) (l : List P9) : Int := (l.map g).foldr (· + ·) 0
theorem sL_app (g : P9 → Int) (l m : List P9) : sL g (l ++ m) = sL g l + sL g m := by
  unfold sL
  induction l with
  | nil => simp
  | cons a l ih => simp only [List.cons_append, List.map_cons, List.foldr_cons, ih]; omega
theorem sm_take (g : P9 → Int) (l : List P9) : ∀ n, n ≤ l.length → sm (fun k => g (l.getD k ((0, 0, 0), (0, 0, 0), (0, 0, 0)))) n = sL g (l.take n)
  | 0, _ => rfl
  | n + 1, h => by
    have hl : n < l.length := h
    show sm _ n + g (l.getD n _) = _
    rw [sm_take g l n (by omega), List.take_add_one, List.getElem?_eq_getElem hl, sL_app, List.getD_eq_getElem?_getD, List.getElem?_eq_getElem hl]
    show _ + g l[n] = _ + (g l[n] + 0)
    omega
theorem sm_cut (g : P9 → Int) (t : P9) (D : Int) : sm (fun k => g (ptk t D k)) (ptn D) = sL g (cutP D.toNat t) := by
  have e := sm_take g (cutP D.toNat t) (ptn D) (by rw [cutP_len]; exact Nat.le_refl _)
  rw [List.take_of_length_le (by rw [cutP_len]; exact Nat.le_refl _)] at e
  exact e
theorem sL_qrs (g : P9 → Int) (d : Nat) (t : P9) : sL g (cutP (d + 1) t) = sL g (cutP d (qr0 t)) + sL g (cutP d (qr1 t)) + sL g (cutP d (qr2 t)) + sL g (cutP d (qr3 t)) := by
  rw [cutP_flat]
  show sL g (cutP d (qr0 t) ++ (cutP d (qr1 t) ++ (cutP d (qr2 t) ++ (cutP d (qr3 t) ++ [])))) = _
  rw [List.append_nil, sL_app, sL_app, sL_app]
  omega
theorem add_sw (a b : P3) : add a b = add b a := Prod.ext (Int.add_comm _ _) (Prod.ext (Int.add_comm _ _) (Int.add_comm _ _))
theorem qr_e (t : P9) : qr0 (exT2 t) = exT2 (qr0 t) ∧ qr1 (exT2 t) = exT2 (qr2 t) ∧ qr2 (exT2 t) = exT2 (qr1 t) ∧ qr3 (exT2 t) = exT3 (qr3 t) := by
  obtain ⟨a, b, c⟩ := t
  simp only [qr0, qr1, qr2, qr3, exT2, exT3]
  rw [add_sw c a, add_sw b a, add_sw c b]
  exact ⟨rfl, rfl, rfl, rfl⟩
theorem qr_r (t : P9) : qr0 (exT3 t) = exT3 (qr2 t) ∧ qr1 (exT3 t) = exT3 (qr1 t) ∧ qr2 (exT3 t) = exT3 (qr0 t) ∧ qr3 (exT3 t) = exT2 (exT3 (exT2 (qr3 t))) := by
  obtain ⟨a, b, c⟩ := t
  simp only [qr0, qr1, qr2, qr3, exT2, exT3]
  rw [add_sw c a, add_sw b a, add_sw c b]
  exact ⟨rfl, rfl, rfl, rfl⟩
theorem sL_sym {g : P9 → Int} (hg : Sym g) : ∀ d, Sym (fun t => sL g (cutP d t))
  | 0 => fun t => by
    show g (exT2 t) + 0 = g t + 0 ∧ g (exT3 t) + 0 = g t + 0
    rw [(hg t).1, (hg t).2]
    exact ⟨rfl, rfl⟩
  | d + 1 => fun t => by
    have ih := sL_sym hg d
    have e := fun q => (ih q).1
    have r := fun q => (ih q).2
    dsimp only at e r ⊢
    obtain ⟨e0, e1, e2, e3⟩ := qr_e t
    obtain ⟨r0, r1, r2, r3⟩ := qr_r t
    rw [sL_qrs g d (exT2 t), sL_qrs g d (exT3 t), sL_qrs g d t, e0, e1, e2, e3, r0, r1, r2, r3]
    simp only [e, r]
    omega
theorem nst_e (n a b c : Int) : nst n a c b = nst n a b c ∧ nst n c b a = nst n a b c := by
  have h1 : lo3' a c b = lo3' a b c ∧ lo3' c b a = lo3' a b c := by unfold lo3'; simp only [Sp.mn_eq]; omega
  have h2 : hi3' a c b = hi3' a b c ∧ hi3' c b a = hi3' a b c := by unfold hi3'; simp only [Sp.mx_eq]; omega
  unfold nst
  rw [h1.1, h1.2, h2.1, h2.2]
  exact ⟨rfl, rfl⟩
theorem nearN_sym (y : P3) : Sym (fun t => nearN t y) := fun t => by
  have k : ∀ a b : P3, a = b → sq (sub y a) = sq (sub y b) := fun a b h => by rw [h]
  exact ⟨k _ _ (Prod.ext (nst_e _ _ _ _).1 (Prod.ext (nst_e _ _ _ _).1 (nst_e _ _ _ _).1)), k _ _ (Prod.ext (nst_e _ _ _ _).2 (Prod.ext (nst_e _ _ _ _).2 (nst_e _ _ _ _).2))⟩
theorem farN_sym (y : P3) : Sym (fun t => farN t y) := fun t => by
  show hi3' _ _ _ = hi3' _ _ _ ∧ hi3' _ _ _ = hi3' _ _ _
  unfold hi3'
  simp only [Sp.mx_eq, exT2, exT3]
  omega
/-- how many of the first numbers are 0 -/
theorem anyz_sm (f : Nat → Int) : ∀ n, 0 ≤ sm (fun k => if f k = 0 then 1 else 0) n ∧ (anyz f n = true ↔ 0 < sm (fun k => if f k = 0 then 1 else 0) n)
  | 0 => ⟨Int.le_refl _, by constructor <;> intro h <;> cases h⟩
  | n + 1 => by
    obtain ⟨h1, h2⟩ := anyz_sm f n
    show 0 ≤ sm (fun k => if f k = 0 then 1 else 0) n + (if f n = 0 then 1 else 0) ∧ ((anyz f n || f n == 0) = true ↔ 0 < sm (fun k => if f k = 0 then 1 else 0) n + (if f n = 0 then 1 else 0))
    by_cases z : f n = 0
    · rw [if_pos z, z]
      refine ⟨by omega, ⟨fun _ => by omega, fun _ => by simp⟩⟩
    · rw [if_neg z, beq_eq_false_iff_ne.2 z, Bool.or_false]
      refine ⟨by omega, ?_⟩
      rw [h2]
      constructor <;> intro h <;> omega
theorem sm_exch {g : P9 → Int} (hg : Sym g) (t : P9) (D : Int) : sm (fun k => g (ptk (exT2 t) D k)) (ptn D) = sm (fun k => g (ptk t D k)) (ptn D) := by
  rw [sm_cut, sm_cut]
  exact (sL_sym hg D.toNat t).1
theorem bool_eq {a b : Bool} (h : a = true ↔ b = true) : a = b := by
  cases a <;> cases b <;> simp at h ⊢
theorem anyz_exch (t : P9) (x : P3) (D : Int) : anyz (ptd (exT2 t) D x) (ptn D) = anyz (ptd t D x) (ptn D) := by
  refine bool_eq ?_
  rw [(anyz_sm _ _).2, (anyz_sm _ _).2]
  have e := sm_exch (g := fun q => if nearN q (tim (scl D) x) = 0 then 1 else 0) (fun q => by
    have a := (nearN_sym (tim (scl D) x) q).1
    have b := (nearN_sym (tim (scl D) x) q).2
    dsimp only at a b ⊢
    rw [a, b]
    exact ⟨rfl, rfl⟩) t D
  show 0 < sm (fun k => if nearN (ptk (exT2 t) D k) (tim (scl D) x) = 0 then 1 else 0) (ptn D) ↔ 0 < sm (fun k => if nearN (ptk t D k) (tim (scl D) x) = 0 then 1 else 0) (ptn D)
  rw [e]
theorem mnF_exch (c : Bool) (t : P9) (x : P3) (D : Int) : mnF c (exT2 t) x D = mnF c t x D := by
  have el := sm_exch (g := fun q => (kV c (farN q (tim (scl D) x)) (scl D)).1.1) (fun q => by
    have a := (farN_sym (tim (scl D) x) q).1
    have b := (farN_sym (tim (scl D) x) q).2
    dsimp only at a b ⊢
    rw [a, b]
    exact ⟨rfl, rfl⟩) t D
  have eh := sm_exch (g := fun q => (kV c (nearN q (tim (scl D) x)) (scl D)).1.2) (fun q => by
    have a := (nearN_sym (tim (scl D) x) q).1
    have b := (nearN_sym (tim (scl D) x) q).2
    dsimp only at a b ⊢
    rw [a, b]
    exact ⟨rfl, rfl⟩) t D
  have el' : sm (mLo c (exT2 t) D x) (ptn D) = sm (mLo c t D x) (ptn D) := el
  have eh' : sm (mHi c (exT2 t) D x) (ptn D) = sm (mHi c t D x) (ptn D) := eh
  unfold mnF
  rw [anyz_exch, el', eh']
theorem nrm_exch (a b c : P3) : nrm a c b = tim (-1) (nrm a b c) := by
  obtain ⟨a1, a2, a3⟩ := a
  obtain ⟨b1, b2, b3⟩ := b
  obtain ⟨c1, c2, c3⟩ := c
  simp only [nrm, vec, sub, tim, Prod.mk.injEq]
  refine ⟨by grind, by grind, by grind⟩
theorem pcode_exch (a b c : P3) : pcode a c b = pcode a b c := by
  unfold pcode
  have e : (inP 64 a && inP 64 c && inP 64 b) = (inP 64 a && inP 64 b && inP 64 c) := by rw [Bool.and_assoc, Bool.and_assoc, Bool.and_comm (inP 64 c)]
  have n : nrm a c b = (0, 0, 0) ↔ nrm a b c = (0, 0, 0) := by
    rw [nrm_exch]
    generalize nrm a b c = v
    obtain ⟨v1, v2, v3⟩ := v
    simp only [tim, Prod.mk.injEq]
    constructor <;> (rintro ⟨h1, h2, h3⟩; exact ⟨by omega, by omega, by omega⟩)
  rw [e]
  by_cases z : nrm a b c = (0, 0, 0)
  · rw [if_pos z, if_pos (n.2 z)]
  · rw [if_neg z, if_neg (fun h => z (n.1 h))]
theorem snc_exch (t : P9) (x : P3) (D : Int) : snc (exT2 t) x D = snc t x D := by
  unfold snc
  show (if pcode t.1 t.2.2 t.2.1 = 0 then _ else pcode t.1 t.2.2 t.2.1) = _
  rw [pcode_exch]
theorem meF_exch (c : Bool) (t : P9) (x : P3) (D : Int) : meF c (exT2 t) x D = meF c t x D := by
  unfold meF
  rw [snc_exch, mnF_exch]
theorem hgt_exch (t : P9) (x : P3) : hgt (exT2 t) x = -hgt t x := by
  obtain ⟨⟨a1, a2, a3⟩, ⟨b1, b2, b3⟩, c1, c2, c3⟩ := t
  obtain ⟨x1, x2, x3⟩ := x
  simp only [hgt, exT2, dot, vec, sub]
  grind
def negR (r : Sp.R) : Sp.R := ((-r.1.2, -r.1.1), r.2)
theorem vld_neg (a b : Int) : Sp.vldB (-b) (-a) = Sp.vldB a b := by
  refine bool_eq ?_
  rw [Sp.vld_iff, Sp.vld_iff]
  constructor <;> (rintro ⟨h1, h2, h3⟩; exact ⟨by omega, by omega, by omega⟩)
theorem told_neg (a b : Int) : Sp.told (-b) (-a) = negR (Sp.told a b) := by
  unfold Sp.told
  rw [vld_neg]
  by_cases h : Sp.vldB a b = true
  · rw [if_pos h, if_pos h]; rfl
  · rw [if_neg h, if_neg h]; rfl
theorem scaleR_neg (lo hi h : Int) : scaleR lo hi (-h) = negR (scaleR lo hi h) := by
  unfold scaleR
  by_cases k : Sp.vldB lo hi = true ∧ -1099511627776 ≤ h ∧ h ≤ 1099511627776
  · rw [if_pos k, if_pos ⟨k.1, by omega, by omega⟩, ← told_neg]
    rw [Int.mul_neg, Int.mul_neg]
    generalize lo * h = p
    generalize hi * h = q
    have e1 : Sp.mn (-p) (-q) = -Sp.mx p q := by rw [Sp.mn_eq, Sp.mx_eq]; omega
    have e2 : Sp.mx (-p) (-q) = -Sp.mn p q := by rw [Sp.mn_eq, Sp.mx_eq]; omega
    rw [e1, e2]
  · rw [if_neg k, if_neg (fun y => k ⟨y.1, by omega, by omega⟩)]; rfl
theorem partR_neg (p q : Int) : partR (-q) (-p) 2 = negR (partR p q 2) := by
  unfold partR
  rw [vld_neg]
  by_cases k : Sp.vldB p q = true ∧ (1 : Int) ≤ 2 ∧ (2 : Int) ≤ 1099511627776
  · rw [if_pos k, if_pos k, ← told_neg]
    have e1 : Sp.fl (-q) 2 = -Sp.ce q 2 := by unfold Sp.ce; omega
    have e2 : Sp.ce (-p) 2 = -Sp.fl p 2 := by unfold Sp.ce; rw [Int.neg_neg]
    rw [e1, e2]
  · rw [if_neg k, if_neg k]; rfl
theorem angR_neg (m : Sp.R) (h : Int) : angR m (-h) = negR (angR m h) := by
  unfold angR
  rw [scaleR_neg]
  generalize scaleR m.1.1 m.1.2 h = s
  obtain ⟨⟨p, q⟩, c⟩ := s
  by_cases z : m.2 = 0
  · rw [if_pos z, if_pos z]
    show (if c = 0 then partR (-q) (-p) 2 else ((0, 0), c)) = negR (if c = 0 then partR p q 2 else ((0, 0), c))
    by_cases y : c = 0
    · rw [if_pos y, if_pos y, partR_neg]
    · rw [if_neg y, if_neg y]; rfl
  · rw [if_neg z, if_neg z]; rfl
theorem angF_exch (t : P9) (x : P3) (D : Int) : angF (exT2 t) x D = negR (angF t x D) := by
  unfold angF
  rw [meF_exch, hgt_exch, angR_neg]
theorem told_bd (a b : Int) : (-1099511627776 ≤ (Sp.told a b).1.1 ∧ (Sp.told a b).1.1 ≤ 1099511627776) ∧ -1099511627776 ≤ (Sp.told a b).1.2 ∧ (Sp.told a b).1.2 ≤ 1099511627776 := by
  unfold Sp.told
  by_cases h : Sp.vldB a b = true
  · rw [if_pos h]
    have := Sp.vld_iff.1 h
    show (-1099511627776 ≤ a ∧ a ≤ 1099511627776) ∧ -1099511627776 ≤ b ∧ b ≤ 1099511627776
    omega
  · rw [if_neg h]
    exact ⟨⟨by decide, by decide⟩, by decide, by decide⟩
theorem angF_bd (t : P9) (x : P3) (D : Int) : (-1099511627776 ≤ (angF t x D).1.1 ∧ (angF t x D).1.1 ≤ 1099511627776) ∧ -1099511627776 ≤ (angF t x D).1.2 ∧ (angF t x D).1.2 ≤ 1099511627776 := by
  have z : ∀ c : Int, (-1099511627776 ≤ (((0, 0), c) : Sp.R).1.1 ∧ (((0, 0), c) : Sp.R).1.1 ≤ 1099511627776) ∧ -1099511627776 ≤ (((0, 0), c) : Sp.R).1.2 ∧ (((0, 0), c) : Sp.R).1.2 ≤ 1099511627776 := fun c => by
    show ((-1099511627776 : Int) ≤ 0 ∧ (0 : Int) ≤ 1099511627776) ∧ (-1099511627776 : Int) ≤ 0 ∧ (0 : Int) ≤ 1099511627776
    decide
  unfold angF angR
  split
  · split
    · unfold partR
      split
      · exact told_bd _ _
      · exact z _
    · exact z _
  · exact z _

end Go.Proofs.Ytjigcgpcglfjfaa
