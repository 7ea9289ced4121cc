/-
  Numbers of pairs: a panel's normal and the distance of any point, parts of a panel.
-/
import Derived.Test.YtjigcgpcglfjfaaFg52
namespace Go.Proofs.Ytjigcgpcglfjfaa
open Go.ChangeShapes Go.WideShapes Go.RowKit
open Sh
theorem cr_le (A B : P3) : sq (vec A B) ≤ sq A * sq B := by
  have e : sq (vec A B) + dot A B * dot A B = sq A * sq B := by
    simp only [sq, vec, dot]
    grind
  have h : 0 ≤ dot A B * dot A B := by
    have := sq_pos' (dot A B)
    exact this
  omega
theorem ad3_sq (x y z : Int) : (x + y + z) * (x + y + z) ≤ 3 * (x * x + y * y + z * z) := by
  have h1 := sq_pos' (x - y)
  have h2 := sq_pos' (y - z)
  have h3 := sq_pos' (z - x)
  grind
theorem nrm_sum (a b c p : P3) : nrm a b c = add (add (vec (sub a p) (sub b p)) (vec (sub b p) (sub c p))) (vec (sub c p) (sub a p)) := by
  simp only [nrm, vec, add, sub]
  refine Prod.ext ?_ (Prod.ext ?_ ?_) <;> grind
theorem add3_sq (X Y Z : P3) : sq (add (add X Y) Z) ≤ 3 * (sq X + sq Y + sq Z) := by
  have h1 := ad3_sq X.1 Y.1 Z.1
  have h2 := ad3_sq X.2.1 Y.2.1 Z.2.1
  have h3 := ad3_sq X.2.2 Y.2.2 Z.2.2
  simp only [sq, dot, add]
  omega
theorem mul_leF {x y F : Int} (x0 : 0 ≤ x) (y0 : 0 ≤ y) (xF : x ≤ F) (yF : y ≤ F) : x * y ≤ F * F := Int.mul_le_mul xF yF y0 (by omega)
theorem nrm_far {t : P9} {p : P3} {F : Int} (h1 : sq (sub t.1 p) ≤ F) (h2 : sq (sub t.2.1 p) ≤ F) (h3 : sq (sub t.2.2 p) ≤ F) : sq (nrm t.1 t.2.1 t.2.2) ≤ 9 * (F * F) := by
  rw [nrm_sum t.1 t.2.1 t.2.2 p]
  have n1 := sq_nn (sub t.1 p)
  have n2 := sq_nn (sub t.2.1 p)
  have n3 := sq_nn (sub t.2.2 p)
  have a := add3_sq (vec (sub t.1 p) (sub t.2.1 p)) (vec (sub t.2.1 p) (sub t.2.2 p)) (vec (sub t.2.2 p) (sub t.1 p))
  have b1 := cr_le (sub t.1 p) (sub t.2.1 p)
  have b2 := cr_le (sub t.2.1 p) (sub t.2.2 p)
  have b3 := cr_le (sub t.2.2 p) (sub t.1 p)
  have c1 := mul_leF n1 n2 h1 h2
  have c2 := mul_leF n2 n3 h2 h3
  have c3 := mul_leF n3 n1 h3 h1
  omega
theorem rS_far {t : P9} {p : P3} {F : Int} (h1 : sq (sub t.1 p) ≤ F) (h2 : sq (sub t.2.1 p) ≤ F) (h3 : sq (sub t.2.2 p) ≤ F) : ((rS t : Nat) : Int) ≤ 3 * F := by
  have h := nrm_far h1 h2 h3
  have F0 : 0 ≤ F := by have := sq_nn (sub t.1 p); omega
  have e : dot (nrm t.1 t.2.1 t.2.2) (nrm t.1 t.2.1 t.2.2) = sq (nrm t.1 t.2.1 t.2.2) := rfl
  have q := (Rt.isq_spec (dot (nrm t.1 t.2.1 t.2.2) (nrm t.1 t.2.1 t.2.2)).toNat).1
  have n0 := sq_nn (nrm t.1 t.2.1 t.2.2)
  have q' : ((rS t : Nat) : Int) * ((rS t : Nat) : Int) ≤ sq (nrm t.1 t.2.1 t.2.2) := by
    rw [← e]
    have : ((rS t * rS t : Nat) : Int) ≤ ((dot (nrm t.1 t.2.1 t.2.2) (nrm t.1 t.2.1 t.2.2)).toNat : Int) := Int.ofNat_le.2 q
    rw [Int.natCast_mul] at this
    omega
  apply Int.le_of_not_gt
  intro c
  have m := Int.mul_le_mul (show 3 * F + 1 ≤ ((rS t : Nat) : Int) by omega) (show 3 * F + 1 ≤ ((rS t : Nat) : Int) by omega) (by omega) (by omega)
  have e2 : (3 * F + 1) * (3 * F + 1) = 9 * (F * F) + 6 * F + 1 := by grind
  omega
theorem nrm_qr (t : P9) {q : P9} (h : q ∈ qrs t) : nrm q.1 q.2.1 q.2.2 = nrm t.1 t.2.1 t.2.2 := by
  simp only [qrs, List.mem_cons, List.not_mem_nil, or_false] at h
  rcases h with h | h | h | h <;> (subst h; simp only [qr0, qr1, qr2, qr3, nrm, vec, add, sub, tim]; refine Prod.ext ?_ (Prod.ext ?_ ?_) <;> grind)
theorem nrm_cut : ∀ (d : Nat) (t : P9) {q : P9}, q ∈ cutP d t → nrm q.1 q.2.1 q.2.2 = nrm t.1 t.2.1 t.2.2
  | 0, t, q, h => by
    simp only [cutP, List.mem_singleton] at h
    rw [h]
  | d + 1, t, q, h => by
    rw [cutP_last, List.mem_flatMap] at h
    obtain ⟨r, h1, h2⟩ := h
    rw [nrm_qr r h2, nrm_cut d t h1]
theorem rS_cut {d : Nat} {t q : P9} (h : q ∈ cutP d t) : rS q = rS t := by
  unfold rS
  rw [nrm_cut d t h]
/-- what holds of a panel's corners holds of its parts' -/
theorem cut_closed (R : Int → P3 → Prop) (cl : ∀ h a b, R (2 * h) a → R (2 * h) b → R h (add a b)) : ∀ (d : Nat) (m : Int) (t : P9), R (2 ^ d * m) t.1 ∧ R (2 ^ d * m) t.2.1 ∧ R (2 ^ d * m) t.2.2 → ∀ q ∈ cutP d t, R m q.1 ∧ R m q.2.1 ∧ R m q.2.2
  | 0, m, t, h, q, hq => by
    simp only [cutP, List.mem_singleton] at hq
    subst hq
    simpa using h
  | d + 1, m, t, h, q, hq => by
    rw [cutP_last, List.mem_flatMap] at hq
    obtain ⟨r, h1, h2⟩ := hq
    have e : (2 : Int) ^ (d + 1) * m = 2 ^ d * (2 * m) := by rw [Int.pow_succ]; grind
    rw [e] at h
    obtain ⟨x, y, z⟩ := cut_closed R cl d (2 * m) t h r h1
    have w : ∀ a : P3, tim 2 a = add a a := fun a => Prod.ext (show 2 * a.1 = a.1 + a.1 by omega) (Prod.ext (show 2 * a.2.1 = a.2.1 + a.2.1 by omega) (show 2 * a.2.2 = a.2.2 + a.2.2 by omega))
    simp only [qrs, List.mem_cons, List.not_mem_nil, or_false] at h2
    rcases h2 with h | h | h | h <;> (subst h; simp only [qr0, qr1, qr2, qr3, w]; refine ⟨cl _ _ _ ?_ ?_, cl _ _ _ ?_ ?_, cl _ _ _ ?_ ?_⟩ <;> assumption)
theorem half_sq (x y : Int) : (x + y) * (x + y) ≤ 2 * (x * x) + 2 * (y * y) := by
  have := sq_pos' (x - y)
  grind
theorem far_closed (p : P3) (F : Int) (h : Int) (a b : P3) (ha : sq (sub p (tim (2 * h) a)) ≤ F) (hb : sq (sub p (tim (2 * h) b)) ≤ F) : sq (sub p (tim h (add a b))) ≤ F := by
  have e : 4 * sq (sub p (tim h (add a b))) ≤ 2 * sq (sub p (tim (2 * h) a)) + 2 * sq (sub p (tim (2 * h) b)) := by
    have h1 := half_sq (p.1 - 2 * h * a.1) (p.1 - 2 * h * b.1)
    have h2 := half_sq (p.2.1 - 2 * h * a.2.1) (p.2.1 - 2 * h * b.2.1)
    have h3 := half_sq (p.2.2 - 2 * h * a.2.2) (p.2.2 - 2 * h * b.2.2)
    have e (u v w : Int) : 4 * ((u - h * (v + w)) * (u - h * (v + w))) = (u - 2 * h * v + (u - 2 * h * w)) * (u - 2 * h * v + (u - 2 * h * w)) := by grind
    have e1 := e p.1 a.1 b.1
    have e2 := e p.2.1 a.2.1 b.2.1
    have e3 := e p.2.2 a.2.2 b.2.2
    simp only [sq, dot, sub, tim, add]
    omega
  omega
/-- between two corners, coordinate by coordinate -/
def Btw (lo hi : P3) (m : Int) (x : P3) : Prop := (lo.1 ≤ m * x.1 ∧ m * x.1 ≤ hi.1) ∧ (lo.2.1 ≤ m * x.2.1 ∧ m * x.2.1 ≤ hi.2.1) ∧ lo.2.2 ≤ m * x.2.2 ∧ m * x.2.2 ≤ hi.2.2
theorem btw_closed (lo hi : P3) (h : Int) (a b : P3) (ha : Btw lo hi (2 * h) a) (hb : Btw lo hi (2 * h) b) : Btw lo hi h (add a b) := by
  obtain ⟨⟨a1, a2⟩, ⟨a3, a4⟩, a5, a6⟩ := ha
  obtain ⟨⟨b1, b2⟩, ⟨b3, b4⟩, b5, b6⟩ := hb
  have e (u v : Int) : 2 * (h * (u + v)) = 2 * h * u + 2 * h * v := by grind
  have e1 := e a.1 b.1
  have e2 := e a.2.1 b.2.1
  have e3 := e a.2.2 b.2.2
  refine ⟨⟨?_, ?_⟩, ⟨?_, ?_⟩, ?_, ?_⟩ <;> (simp only [add]; omega)

end Go.Proofs.Ytjigcgpcglfjfaa
