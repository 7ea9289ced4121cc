/-
  Plain facts of the means over panels: groups of points, their far and near distances, sums rounded.
-/
import Derived.Test.YtjigcgpcglfjfaaSoMc
namespace Go.Proofs.Ytjigcgpcglfjfaa
open Go.ChangeShapes Go.WideShapes Go.RowKit
open Sh
/-- the corners of a triangle, by number -/
def P3F (t : P9) (k : Nat) : P3 := if k = 0 then t.1 else if k = 1 then t.2.1 else t.2.2
def mn3 (a b : P3) : P3 := (Sp.mn a.1 b.1, Sp.mn a.2.1 b.2.1, Sp.mn a.2.2 b.2.2)
def mx3 (a b : P3) : P3 := (Sp.mx a.1 b.1, Sp.mx a.2.1 b.2.1, Sp.mx a.2.2 b.2.2)
/-- the box of the first points -/
def loN (P : Nat → P3) : Nat → P3
  | 0 => P 0
  | k + 1 => mn3 (loN P k) (P k)
def hiN (P : Nat → P3) : Nat → P3
  | 0 => P 0
  | k + 1 => mx3 (hiN P k) (P k)
/-- the greatest squared distance of points -/
def fI (p : P3) (Q : Nat → P3) : Nat → Int → Int
  | 0, a => a
  | j + 1, a => Sp.mx (fI p Q j a) (sq (sub p (Q j)))
def fG (P Q : Nat → P3) (m : Nat) : Nat → Int
  | 0 => 0
  | i + 1 => fI (P i) Q m (fG P Q m i)
/-- the gap of intervals, and the squared distance of boxes -/
def gp (al ah bl bh : Int) : Int := Sp.mx (Sp.mx 0 (bl - ah)) (al - bh)
def gp3 (al ah bl bh : P3) : P3 := (gp al.1 ah.1 bl.1 bh.1, gp al.2.1 ah.2.1 bl.2.1 bh.2.1, gp al.2.2 ah.2.2 bl.2.2 bh.2.2)
def nG (al ah bl bh : P3) : Int := sq (gp3 al ah bl bh)
theorem sq_nn (a : P3) : 0 ≤ sq a := by
  have h1 := sq_pos' a.1
  have h2 := sq_pos' a.2.1
  have h3 := sq_pos' a.2.2
  show 0 ≤ a.1 * a.1 + a.2.1 * a.2.1 + a.2.2 * a.2.2
  omega
theorem fG_one (t : P9) (y : P3) : fG (P3F t) (fun _ => y) 1 3 = farN t y := by
  have a := sq_nn (sub t.1 y)
  show Sp.mx (Sp.mx (Sp.mx 0 (sq (sub t.1 y))) (sq (sub t.2.1 y))) (sq (sub t.2.2 y)) = Sp.mx (Sp.mx (sq (sub t.1 y)) (sq (sub t.2.1 y))) (sq (sub t.2.2 y))
  simp only [Sp.mx_eq]
  omega
theorem nG_one (t : P9) (y : P3) : nG (loN (P3F t) 3) (hiN (P3F t) 3) y y = nearN t y := by
  rw [← gapP_sq]
  unfold nG
  refine congrArg sq ?_
  have key : ∀ a b c n : Int, gp (Sp.mn (Sp.mn (Sp.mn a a) b) c) (Sp.mx (Sp.mx (Sp.mx a a) b) c) n n = gapN n (lo3' a b c) (hi3' a b c) := fun a b c n => by
    unfold gp gapN lo3' hi3'
    simp only [Sp.mn_eq, Sp.mx_eq]
    omega
  exact Prod.ext (key _ _ _ _) (Prod.ext (key _ _ _ _) (key _ _ _ _))
/-- what is asked of a distance -/
def kV (c : Bool) (n s : Int) : Sp.R := if c then cubeR n s else invR n s
theorem cubeT (T m : Nat) (h1 : T ≤ 288230376151711744) : Rt.isq (QT T m 3) ≤ qUp T m 3 ∧ qUp T m 3 ≤ 536870913 := by
  have h2 := QT_le T m 3
  have hq : qUp T m 3 = Rt.isq (QT T m 3) ∨ qUp T m 3 = Rt.isq (QT T m 3) + 1 := by
    unfold qUp Rt.csq
    split
    · split
      · exact Or.inl rfl
      · exact Or.inr rfl
    · exact Or.inr rfl
  have h3 : Rt.isq (QT T m 3) ≤ 536870912 := by
    have hs := (Rt.isq_spec (QT T m 3)).1
    refine Classical.byContradiction fun c => ?_
    have := Nat.mul_le_mul (show 536870913 ≤ Rt.isq (QT T m 3) by omega) (show 536870913 ≤ Rt.isq (QT T m 3) by omega)
    omega
  omega
theorem cubeK (k : Nat) (hk : k ≤ 8) : k * k * k * 1048576 * (k * k * k * 1048576) ≤ 288230376151711744 := by
  have h0 : k * k * k ≤ 512 := Nat.mul_le_mul (Nat.mul_le_mul hk hk) hk
  have h2 : k * k * k * 1048576 ≤ 536870912 := by omega
  exact Nat.mul_le_mul h2 h2
theorem cubeR_val {m k : Int} (m1 : 1 ≤ m) (m2 : m ≤ 1099511627776) (k1 : 1 ≤ k) (k2 : k ≤ 8) : ∃ r u : Nat, cubeR m k = (((r : Int), (u : Int)), 0) ∧ r ≤ u ∧ u ≤ 536870913 ∧ r = Rt.isq (QT (k.toNat * k.toNat * k.toNat * 1048576 * (k.toNat * k.toNat * k.toNat * 1048576)) m.toNat 3) := by
  have z := cubeT _ m.toNat (cubeK k.toNat (by omega))
  refine ⟨_, qUp (k.toNat * k.toNat * k.toNat * 1048576 * (k.toNat * k.toNat * k.toNat * 1048576)) m.toNat 3, ?_, z.1, z.2, rfl⟩
  unfold cubeR
  rw [if_pos ⟨m1, m2, k1, k2⟩]
  unfold belowR
  revert z
  generalize Rt.isq (QT (k.toNat * k.toNat * k.toNat * 1048576 * (k.toNat * k.toNat * k.toNat * 1048576)) m.toNat 3) = r
  generalize qUp (k.toNat * k.toNat * k.toNat * 1048576 * (k.toNat * k.toNat * k.toNat * 1048576)) m.toNat 3 = u
  intro z
  rw [Sp.told_yes (Sp.vld_iff.2 ⟨by omega, by omega, by omega⟩)]
theorem kV_val (c : Bool) {m k : Int} (m1 : 1 ≤ m) (m2 : m ≤ 1099511627776) (k1 : 1 ≤ k) (k2 : k ≤ 8) : ∃ r u : Nat, kV c m k = (((r : Int), (u : Int)), 0) ∧ r ≤ u ∧ u ≤ 536870913 := by
  cases c
  · obtain ⟨r, u, e, _, h1, h2⟩ := invR_val m1 m2 k1 k2
    exact ⟨r, u, e, h1, by omega⟩
  · obtain ⟨r, u, e, h1, h2, _⟩ := cubeR_val m1 m2 k1 k2
    exact ⟨r, u, e, h1, h2⟩
theorem QT_anti (T : Nat) {m n : Nat} (h : m ≤ n) (h0 : 0 < m) : ∀ k, QT T n k ≤ QT T m k
  | 0 => Nat.le_refl _
  | k + 1 => by
    show QT T n k / n ≤ QT T m k / m
    exact Nat.le_trans (Nat.div_le_div_right (QT_anti T h h0 k)) (Nat.div_le_div_left h h0)
theorem kV_mono (c : Bool) {m f k : Int} (m1 : 1 ≤ m) (mf : m ≤ f) (f2 : f ≤ 1099511627776) (k1 : 1 ≤ k) (k2 : k ≤ 8) : (kV c f k).1.1 ≤ (kV c m k).1.2 := by
  cases c
  · exact invR_mono m1 mf f2 k1 k2
  · obtain ⟨r, u, e, _, _, er⟩ := cubeR_val (by omega : 1 ≤ f) f2 k1 k2
    obtain ⟨r', u', e', h', _, er'⟩ := cubeR_val m1 (by omega) k1 k2
    show (cubeR f k).1.1 ≤ (cubeR m k).1.2
    rw [e, e']
    have : r ≤ r' := by
      rw [er, er']
      exact isq_mono8 (QT_anti _ (by omega) (by omega) 3)
    show (r : Int) ≤ (u' : Int)
    omega
/-- is one of the first numbers 0? -/
def anyz (f : Nat → Int) : Nat → Bool
  | 0 => false
  | k + 1 => anyz f k || f k == 0
theorem anyz_no {f : Nat → Int} : ∀ {n : Nat}, anyz f n = false → ∀ k, k < n → f k ≠ 0
  | 0, _, k, h => absurd h (Nat.not_lt_zero k)
  | n + 1, h, k, hk => by
    have h : (anyz f n || f n == 0) = false := h
    rw [Bool.or_eq_false_iff] at h
    by_cases e : k = n
    · subst e; exact beq_eq_false_iff_ne.1 h.2
    · exact anyz_no h.1 k (by omega)
theorem anyz_hit {f : Nat → Int} {k : Nat} (h : f k = 0) : ∀ {n : Nat}, k < n → anyz f n = true
  | 0, hk => absurd hk (Nat.not_lt_zero k)
  | n + 1, hk => by
    show (anyz f n || f n == 0) = true
    by_cases e : k = n
    · subst e; rw [h]; simp
    · rw [anyz_hit h (n := n) (by omega)]; rfl
theorem anyz_next {f : Nat → Int} {k : Nat} (e : anyz f k = false) (h : f k ≠ 0) : anyz f (k + 1) = false := by
  show (anyz f k || f k == 0) = false
  rw [e, beq_eq_false_iff_ne.2 h]; rfl
/-- the mean over a panel -/
def ptd (t : P9) (d : Int) (x : P3) (k : Nat) : Int := nearN (ptk t d k) (tim (scl d) x)
def ptf (t : P9) (d : Int) (x : P3) (k : Nat) : Int := farN (ptk t d k) (tim (scl d) x)
def mLo (c : Bool) (t : P9) (d : Int) (x : P3) (k : Nat) : Int := (kV c (ptf t d x k) (scl d)).1.1
def mHi (c : Bool) (t : P9) (d : Int) (x : P3) (k : Nat) : Int := (kV c (ptd t d x k) (scl d)).1.2
def mnF (c : Bool) (t : P9) (x : P3) (d : Int) : Sp.R := if anyz (ptd t d x) (ptn d) = true then ((0, 0), 10) else ((sm (mLo c t d x) (ptn d) / (ptn d : Int), (sm (mHi c t d x) (ptn d) + (ptn d : Int) - 1) / (ptn d : Int)), 0)
/-- the errors of a point and a depth, and of a panel ahead of them -/
def akc (x : P3) (d : Int) : Int := if inP 256 x && rngB d 0 3 then 0 else 1
def snc (t : P9) (x : P3) (d : Int) : Int := if pcode t.1 t.2.1 t.2.2 = 0 then akc x d else pcode t.1 t.2.1 t.2.2
def meF (c : Bool) (t : P9) (x : P3) (d : Int) : Sp.R := if snc t x d = 0 then mnF c t x d else ((0, 0), snc t x d)
theorem akc_ok {x : P3} {d : Int} (h : akc x d = 0) : BdP 256 x ∧ 0 ≤ d ∧ d ≤ 3 := by
  unfold akc at h
  cases e : (inP 256 x && rngB d 0 3) with
  | true => rw [Bool.and_eq_true] at e; exact ⟨inP_iff.1 e.1, rngB_iff.1 e.2⟩
  | false => rw [e] at h; simp at h
theorem pcode_64 {t : P9} (h : pcode t.1 t.2.1 t.2.2 = 0) : BdT 64 t := by
  unfold pcode at h
  cases e : (inP 64 t.1 && inP 64 t.2.1 && inP 64 t.2.2) with
  | true =>
    rw [Bool.and_eq_true, Bool.and_eq_true] at e
    exact ⟨inP_iff.1 e.1.1, inP_iff.1 e.1.2, inP_iff.1 e.2⟩
  | false => rw [e] at h; simp at h
theorem snc_ok {t : P9} {x : P3} {d : Int} (h : snc t x d = 0) : BdT 64 t ∧ BdP 256 x ∧ 0 ≤ d ∧ d ≤ 3 := by
  unfold snc at h
  by_cases z : pcode t.1 t.2.1 t.2.2 = 0
  · rw [if_pos z] at h
    exact ⟨pcode_64 z, akc_ok h⟩
  · rw [if_neg z] at h
    exact absurd h z

end Go.Proofs.Ytjigcgpcglfjfaa
