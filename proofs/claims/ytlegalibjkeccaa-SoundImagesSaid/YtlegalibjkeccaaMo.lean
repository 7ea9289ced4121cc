/-
  Plain arithmetic of moments: which are valid, their sums, shifts and multiples; no program in sight.
-/
import Derived.Test.YtlegalibjkeccaaPts
namespace Go.Proofs.Ytlegalibjkeccaa
namespace Sh

/-- the eleven numbers of moments -/
structure Mo where
  c : Int
  t : Int
  d : P3
  s0 : Int
  s1 : Int
  s2 : Int
  s3 : Int
  s4 : Int
  s5 : Int
def rngB (n lo hi : Int) : Bool := decide (lo ≤ n ∧ n ≤ hi)
theorem rngB_iff {n lo hi : Int} : rngB n lo hi = true ↔ lo ≤ n ∧ n ≤ hi := by unfold rngB; simp
theorem rngB_not {n lo hi : Int} : rngB n lo hi = false ↔ ¬ (lo ≤ n ∧ n ≤ hi) := by unfold rngB; simp
/-- are the numbers within the bounds? -/
def mok (m : Mo) : Prop :=
  (0 ≤ m.t ∧ m.t ≤ 1048576) ∧ (-m.t ≤ m.c ∧ m.c ≤ m.t) ∧ BdP 1073741824 m.d ∧
  (-17179869184 ≤ m.s0 ∧ m.s0 ≤ 17179869184) ∧ (-17179869184 ≤ m.s1 ∧ m.s1 ≤ 17179869184) ∧ (-17179869184 ≤ m.s2 ∧ m.s2 ≤ 17179869184) ∧
  (-17179869184 ≤ m.s3 ∧ m.s3 ≤ 17179869184) ∧ (-17179869184 ≤ m.s4 ∧ m.s4 ≤ 17179869184) ∧ (-17179869184 ≤ m.s5 ∧ m.s5 ≤ 17179869184)
instance (m : Mo) : Decidable (mok m) := by unfold mok BdP; exact inferInstance
def mokB (m : Mo) : Bool := decide (mok m)
theorem mokB_iff {m : Mo} : mokB m = true ↔ mok m := by unfold mokB; simp
theorem mokB_not {m : Mo} : mokB m = false ↔ ¬ mok m := by unfold mokB; simp
def mcode (m : Mo) : Int := if mokB m then 0 else 1
theorem mcode_ok {m : Mo} (h : mokB m = true) : mcode m = 0 := by unfold mcode; rw [if_pos h]
theorem mcode_no {m : Mo} (h : mokB m = false) : mcode m = 1 := by unfold mcode; rw [h]; rfl
theorem mcode_not {m : Mo} (h : ¬ mok m) : mcode m = 1 := mcode_no (mokB_not.2 h)
theorem mcode_mok {m : Mo} (h : mok m) : mcode m = 0 := mcode_ok (mokB_iff.2 h)
def mzero : Mo := ⟨0, 0, (0, 0, 0), 0, 0, 0, 0, 0, 0⟩
/-- a result, or the error -/
def mtold (m : Mo) : Mo := if mokB m then m else mzero
def mlarge (m : Mo) : Int := if mokB m then 0 else 4
def madd (a b : Mo) : Mo := ⟨a.c + b.c, a.t + b.t, add a.d b.d, a.s0 + b.s0, a.s1 + b.s1, a.s2 + b.s2, a.s3 + b.s3, a.s4 + b.s4, a.s5 + b.s5⟩
theorem madd_comm (a b : Mo) : madd a b = madd b a := by
  unfold madd add
  simp only [Int.add_comm]
def mscale (k : Int) (m : Mo) : Mo := ⟨m.c, m.t, tim k m.d, m.s0 * (k * k), m.s1 * (k * k), m.s2 * (k * k), m.s3 * (k * k), m.s4 * (k * k), m.s5 * (k * k)⟩
/-- an element of the second moments, shifted -/
def sh2 (c s di dj ti tj : Int) : Int := s + (12 * c * ti * tj - 4 * (di * tj + ti * dj))
def mshift (m : Mo) (t : P3) : Mo :=
  ⟨m.c, m.t, (m.d.1 - 3 * m.c * t.1, m.d.2.1 - 3 * m.c * t.2.1, m.d.2.2 - 3 * m.c * t.2.2),
   sh2 m.c m.s0 m.d.1 m.d.1 t.1 t.1, sh2 m.c m.s1 m.d.1 m.d.2.1 t.1 t.2.1, sh2 m.c m.s2 m.d.1 m.d.2.2 t.1 t.2.2,
   sh2 m.c m.s3 m.d.2.1 m.d.2.1 t.2.1 t.2.1, sh2 m.c m.s4 m.d.2.1 m.d.2.2 t.2.1 t.2.2, sh2 m.c m.s5 m.d.2.2 m.d.2.2 t.2.2 t.2.2⟩
def neg (t : P3) : P3 := (-t.1, -t.2.1, -t.2.2)
theorem sh2_back (c s di dj ti tj : Int) : sh2 c (sh2 c s di dj ti tj) (di - 3 * c * ti) (dj - 3 * c * tj) (-ti) (-tj) = s := by
  unfold sh2
  have e1 : 12 * c * -ti * -tj = 12 * (c * ti * tj) := by
    rw [Int.mul_neg, Int.mul_neg (12 * c) ti, Int.neg_mul, Int.neg_neg, Int.mul_assoc 12 c ti, Int.mul_assoc 12 (c * ti) tj]
  have e2 : 12 * c * ti * tj = 12 * (c * ti * tj) := by
    rw [Int.mul_assoc 12 c ti, Int.mul_assoc 12 (c * ti) tj]
  have e3 : (di - 3 * c * ti) * -tj = 3 * (c * ti * tj) - di * tj := by
    rw [Int.mul_neg, Int.sub_mul, Int.mul_assoc 3 c ti, Int.mul_assoc 3 (c * ti) tj]; omega
  have e4 : -ti * (dj - 3 * c * tj) = 3 * (c * ti * tj) - ti * dj := by
    rw [Int.neg_mul, Int.mul_sub, Int.mul_assoc 3 c tj, Int.mul_left_comm ti 3, ← Int.mul_assoc ti c tj, Int.mul_comm ti c]; omega
  rw [e1, e2, e3, e4]
  omega
theorem mshift_back (m : Mo) (t : P3) : mshift (mshift m t) (neg t) = m := by
  obtain ⟨c, tt, ⟨x, y, z⟩, s0, s1, s2, s3, s4, s5⟩ := m
  obtain ⟨t1, t2, t3⟩ := t
  have k : ∀ d u : Int, d - 3 * c * u - 3 * c * -u = d := fun d u => by rw [Int.mul_neg]; omega
  unfold mshift neg
  simp only [sh2_back, k]
def mtrace (m : Mo) : Int := m.s0 + m.s3 + m.s5
/-- the smallest order whose moments are not all 0 -/
def mneut (m : Mo) : Int :=
  if m.c ≠ 0 then 0 else if m.d ≠ (0, 0, 0) then 1 else if m.s0 ≠ 0 ∨ m.s1 ≠ 0 ∨ m.s2 ≠ 0 ∨ m.s3 ≠ 0 ∨ m.s4 ≠ 0 ∨ m.s5 ≠ 0 then 2 else 3

/-- a charged panel -/
abbrev Ch := (P3 × P3 × P3) × Int
def chcode (q : Ch) : Int := if pcode q.1.1 q.1.2.1 q.1.2.2 = 0 then (if rngB q.2 (-100) 100 then 0 else 1) else pcode q.1.1 q.1.2.1 q.1.2.2
/-- the first error of the first n charged panels -/
def chcodes (Q : Nat → Ch) : Nat → Int
  | 0 => 0
  | n + 1 => if chcodes Q n = 0 then chcode (Q n) else chcodes Q n
/-- the error of charged panels -/
def ccode (n : Nat) (Q : Nat → Ch) : Int := if 96 < n then 4 else chcodes Q n
/-- the error of charged panels and a center -/
def ocode (n : Nat) (Q : Nat → Ch) (p : P3) : Int := if ccode n Q = 0 then (if inP 64 p then 0 else 1) else ccode n Q
theorem chcodes_hit {Q : Nat → Ch} {n k : Nat} (hk : k < n) (h0 : chcodes Q k = 0) (h : chcode (Q k) ≠ 0) : chcodes Q n = chcode (Q k) := by
  induction n with
  | zero => omega
  | succ n ih =>
    show (if chcodes Q n = 0 then chcode (Q n) else chcodes Q n) = _
    by_cases e : k = n
    · subst e; rw [if_pos h0]
    · have := ih (by omega)
      rw [if_neg (by rw [this]; exact h), this]
theorem chcodes_next {Q : Nat → Ch} {k : Nat} (h0 : chcodes Q k = 0) (h : chcode (Q k) = 0) : chcodes Q (k + 1) = 0 := by
  show (if chcodes Q k = 0 then chcode (Q k) else chcodes Q k) = 0
  rw [if_pos h0, h]
theorem chcodes_all {Q : Nat → Ch} {n : Nat} (h : chcodes Q n = 0) : ∀ k, k < n → chcode (Q k) = 0 := by
  induction n with
  | zero => intro k hk; omega
  | succ n ih =>
    have e : (if chcodes Q n = 0 then chcode (Q n) else chcodes Q n) = 0 := h
    by_cases z : chcodes Q n = 0
    · rw [if_pos z] at e
      intro k hk
      by_cases q : k = n
      · subst q; exact e
      · exact ih z k (by omega)
    · rw [if_neg z] at e; exact absurd e z
theorem chcode_panel {q : Ch} (h : pcode q.1.1 q.1.2.1 q.1.2.2 ≠ 0) : chcode q = pcode q.1.1 q.1.2.1 q.1.2.2 := by unfold chcode; rw [if_neg h]
theorem chcode_far {q : Ch} (h : pcode q.1.1 q.1.2.1 q.1.2.2 = 0) (k : rngB q.2 (-100) 100 = false) : chcode q = 1 := by unfold chcode; rw [if_pos h, k]; rfl
theorem chcode_ok {q : Ch} (h : pcode q.1.1 q.1.2.1 q.1.2.2 = 0) (k : rngB q.2 (-100) 100 = true) : chcode q = 0 := by unfold chcode; rw [if_pos h, k]; rfl
theorem chcode_ok' {q : Ch} (h : chcode q = 0) : (BdP 64 q.1.1 ∧ BdP 64 q.1.2.1 ∧ BdP 64 q.1.2.2) ∧ -100 ≤ q.2 ∧ q.2 ≤ 100 := by
  unfold chcode at h
  by_cases z : pcode q.1.1 q.1.2.1 q.1.2.2 = 0
  · rw [if_pos z] at h
    cases k : rngB q.2 (-100) 100 with
    | false => rw [k] at h; cases h
    | true =>
      refine ⟨?_, rngB_iff.1 k⟩
      unfold pcode at z
      cases e : inP 64 q.1.1 && inP 64 q.1.2.1 && inP 64 q.1.2.2 with
      | false => rw [e] at z; cases z
      | true =>
        simp only [Bool.and_eq_true] at e
        exact ⟨inP_iff.1 e.1.1, inP_iff.1 e.1.2, inP_iff.1 e.2⟩
  · rw [if_neg z] at h; exact absurd h z
def absI (n : Int) : Int := if n < 0 then -n else n
/-- the sum of the corners as they are seen from the center -/
def sum3 (a b c : P3) : P3 := add (add a b) c
/-- the product of two coordinates, over the corners and their sum -/
def pr2 (f g : P3 → Int) (a b c : P3) : Int := f (sum3 a b c) * g (sum3 a b c) + f a * g a + f b * g b + f c * g c
/-- what a charged panel adds -/
def gat (p : P3) (q : Ch) : Mo :=
  let a := sub q.1.1 p; let b := sub q.1.2.1 p; let c := sub q.1.2.2 p
  ⟨q.2, absI q.2, tim q.2 (sum3 a b c), q.2 * pr2 (·.1) (·.1) a b c, q.2 * pr2 (·.1) (·.2.1) a b c, q.2 * pr2 (·.1) (·.2.2) a b c, q.2 * pr2 (·.2.1) (·.2.1) a b c, q.2 * pr2 (·.2.1) (·.2.2) a b c, q.2 * pr2 (·.2.2) (·.2.2) a b c⟩
/-- the moments of the first n charged panels -/
def mof (p : P3) (Q : Nat → Ch) : Nat → Mo
  | 0 => mzero
  | n + 1 => madd (mof p Q n) (gat p (Q n))
def sq (a : P3) : Int := dot a a
def mxI (a b : Int) : Int := if a < b then b else a
/-- the greatest squared distance of a corner -/
def far2 (p : P3) (Q : Nat → Ch) : Nat → Int
  | 0 => 0
  | n + 1 => mxI (mxI (mxI (far2 p Q n) (sq (sub (Q n).1.1 p))) (sq (sub (Q n).1.2.1 p))) (sq (sub (Q n).1.2.2 p))
end Sh
end Go.Proofs.Ytlegalibjkeccaa
