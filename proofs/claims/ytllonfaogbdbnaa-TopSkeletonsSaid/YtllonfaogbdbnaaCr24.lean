/-
  Plain arithmetic of the greatest residual; how large the numbers of a choice are.
-/
import Derived.Test.YtllonfaogbdbnaaCr23
import Derived.Test.YtllonfaogbdbnaaCrMinors
namespace Go.Proofs.Ytllonfaogbdbnaa
open Go.ChangeShapes Go.WideShapes Go.RowKit
open Cr
theorem setB_full {l : List Int} {n : Int} (h : setB l n = true) (e : (l.length : Int) = n) : ∀ k, k < l.length → at_ l k = k := by
  have up := setB_up h
  have down : ∀ d k, k < l.length → d + k + 1 = l.length → at_ l k + (d : Int) ≤ n - 1 := by
    intro d
    induction d with
    | zero => intro k hk _; have := setB1_of (setB_of h hk); omega
    | succ d ih =>
      intro k hk hd
      have h1 := ih (k + 1) (by omega) (by omega)
      have h2 := (setB1_of (setB_of h (k := k + 1) (by omega))).2.2 (by omega)
      rw [show k + 1 - 1 = k from rfl] at h2
      omega
  intro k hk
  have h1 := up k hk
  have h2 := down (l.length - 1 - k) k hk (by omega)
  omega
theorem setB_all {l : List Int} {n : Nat} (h : setB l n = true) (e : l.length = n) {i : Int} (hi : 0 ≤ i ∧ i < n) : l.contains i = true := by
  have z := setB_full h (by omega) i.toNat (by omega)
  exact cont_hit (k := i.toNat) (by omega) (by omega)
/-- a choice whose lists are sets -/
structure ChS (w : World) (A : Option Addr) (n m : Nat) (M : List (List Int)) (R C : Option Addr) (K : Nat) (rows cols : List Int) : Prop where
  cho : Cho w A n m M R C K rows cols
  sr : setB rows n = true
  sc : setB cols m = true
theorem chs_of {w : World} {A R C : Option Addr} {M : List (List Int)} {rows cols : List Int} (h : Arg w A M R C rows cols) (k : kcode M rows cols = 0) :
    ChS w A M.length (rw_ M 0).length M R C rows.length rows cols := by
  refine ⟨(cho_of h k).1, ?_, ?_⟩
  · have := (kcode_cases k).2
    unfold chB at this
    simp only [Bool.and_eq_true] at this
    exact this.1.2
  · have := (kcode_cases k).2
    unfold chB at this
    simp only [Bool.and_eq_true] at this
    exact this.2
theorem fB5 {n : Nat} (h : n ≤ 5) : fB n ≤ 1200000000000 := by
  match n, h with
  | 0, _ => decide
  | 1, _ => decide
  | 2, _ => decide
  | 3, _ => decide
  | 4, _ => decide
  | 5, _ => decide
theorem fB6 {n : Nat} (h : n ≤ 6) : fB n ≤ 720000000000000 := by
  match n, h with
  | 0, _ => decide
  | 1, _ => decide
  | 2, _ => decide
  | 3, _ => decide
  | 4, _ => decide
  | 5, _ => decide
  | 6, _ => decide
section
variable {w : World} {A R C : Option Addr} {n m K : Nat} {M : List (List Int)} {rows cols : List Int} {i j : Int}
/-- the bordered determinant is small; if it is not 0 the minor is smaller still -/
theorem bord6 (h : ChS w A n m M R C K rows cols) (hi : 0 ≤ i ∧ i < n) (hj : 0 ≤ j ∧ j < m) : -720000000000000 ≤ bord M rows cols i j ∧ bord M rows cols i j ≤ 720000000000000 ∧ (bord M rows cols i j ≠ 0 → K ≤ 5) := by
  have c := h.cho
  unfold bord
  split
  · refine ⟨by decide, by decide, fun z => absurd rfl z⟩
  · rename_i hn
    simp only [Bool.or_eq_true, not_or] at hn
    have lr := (under_of h.sr).2
    have hk : K ≤ 5 := by
      rcases Nat.lt_or_ge K n with hlt | hge
      · have := c.hn; omega
      · exfalso
        have kr := c.kr
        exact hn.1 (setB_all h.sr (by omega) hi)
    have b := detR_bd c.sq (under_app c.ur hi) (under_app c.uc hj) (K := K + 1) (by rw [List.length_append, c.kr]; rfl) (by rw [List.length_append, c.kc]; rfl)
    have l := fB6 (n := K + 1) (by omega)
    exact ⟨by omega, by omega, fun _ => hk⟩
theorem detC6 (h : ChS w A n m M R C K rows cols) : -720000000000000 ≤ detR M rows cols ∧ detR M rows cols ≤ 720000000000000 ∧ (K ≤ 5 → -1200000000000 ≤ detR M rows cols ∧ detR M rows cols ≤ 1200000000000) := by
  have c := h.cho
  have b := detR_bd c.sq c.ur c.uc c.kr c.kc
  have l := fB6 (n := K) c.h6
  exact ⟨by omega, by omega, fun hk => by have := fB5 (n := K) hk; omega⟩
end
/-- the greater of two -/
def mxI (x y : Int) : Int := if y > x then y else x
theorem mxI_le {x y : Int} : x ≤ mxI x y := by unfold mxI; split <;> omega
theorem mxI_le' {x y : Int} : y ≤ mxI x y := by unfold mxI; split <;> omega
theorem mxI_bd {x y B : Int} (h1 : x ≤ B) (h2 : y ≤ B) : mxI x y ≤ B := by unfold mxI; split <;> omega
theorem run_max_mxI (P : Program) (w : World) (ts : Array TypeId) (t : TypeId) (x y : Int) : (Builtin.max_ ts t #[.int .i64 x, .int .i64 y]).run P w = .ok (.int .i64 (mxI x y)) w := by
  unfold mxI; exact run_max_int2 ..
attribute [go_sem 900000] run_max_mxI
/-- the greatest of a and the first n -/
def mxs (f : Nat → Int) (a : Int) : Nat → Int
  | 0 => a
  | k + 1 => mxI (mxs f a k) (f k)
theorem mxs_base {f : Nat → Int} {a : Int} : ∀ n, a ≤ mxs f a n
  | 0 => Int.le_refl _
  | n + 1 => Int.le_trans (mxs_base n) mxI_le
theorem mxs_ge {f : Nat → Int} {a : Int} : ∀ {n k : Nat}, k < n → f k ≤ mxs f a n
  | n + 1, k, h => by
    unfold mxs
    by_cases e : k = n
    · subst e; exact mxI_le'
    · exact Int.le_trans (mxs_ge (n := n) (by omega)) mxI_le
theorem mxs_bd {f : Nat → Int} {a B : Int} (ha : a ≤ B) : ∀ {n : Nat}, (∀ k, k < n → f k ≤ B) → mxs f a n ≤ B
  | 0, _ => ha
  | n + 1, h => mxI_bd (mxs_bd ha fun k hk => h k (by omega)) (h n (by omega))
theorem mxs_at {f : Nat → Int} {a : Int} : ∀ {n : Nat}, mxs f a n = a ∨ ∃ k, k < n ∧ mxs f a n = f k
  | 0 => .inl rfl
  | n + 1 => by
    unfold mxs mxI
    split
    · exact .inr ⟨n, by omega, rfl⟩
    · rcases mxs_at (f := f) (a := a) (n := n) with e | ⟨k, hk, e⟩
      · exact .inl e
      · exact .inr ⟨k, by omega, e⟩
/-- the greatest absolute value of a bordered determinant in the first k rows -/
def wsr (M : List (List Int)) (rows cols : List Int) (m : Nat) : Nat → Int
  | 0 => 0
  | i + 1 => mxs (fun j => absI (bord M rows cols i j)) (wsr M rows cols m i) m
def wst (M : List (List Int)) (rows cols : List Int) : Int := wsr M rows cols (rw_ M 0).length M.length
theorem absI_nn (x : Int) : 0 ≤ absI x := by unfold absI; split <;> omega
theorem wsr_nn (M : List (List Int)) (rows cols : List Int) (m : Nat) : ∀ i, 0 ≤ wsr M rows cols m i
  | 0 => Int.le_refl _
  | i + 1 => Int.le_trans (wsr_nn M rows cols m i) (mxs_base m)
theorem wsr_ge (M : List (List Int)) (rows cols : List Int) (m : Nat) {j : Nat} (hj : j < m) : ∀ {n i : Nat}, i < n → absI (bord M rows cols i j) ≤ wsr M rows cols m n
  | n + 1, i, h => by
    unfold wsr
    by_cases e : i = n
    · subst e; exact mxs_ge (f := fun j : Nat => absI (bord M rows cols i j)) hj
    · exact Int.le_trans (wsr_ge M rows cols m hj (n := n) (by omega)) (mxs_base m)
theorem wsr_at (M : List (List Int)) (rows cols : List Int) (m : Nat) : ∀ n, wsr M rows cols m n = 0 ∨ ∃ i j : Nat, i < n ∧ j < m ∧ wsr M rows cols m n = absI (bord M rows cols i j)
  | 0 => .inl rfl
  | n + 1 => by
    rcases mxs_at (f := fun j : Nat => absI (bord M rows cols n j)) (a := wsr M rows cols m n) (n := m) with e | ⟨k, hk, e⟩
    · rcases wsr_at M rows cols m n with e' | ⟨i, j, hi, hj, e'⟩
      · exact .inl (by show mxs _ _ m = 0; rw [e, e'])
      · exact .inr ⟨i, j, by omega, hj, by show mxs _ _ m = _; rw [e, e']⟩
    · exact .inr ⟨n, k, by omega, hk, e⟩
theorem wst6 {w : World} {A R C : Option Addr} {M : List (List Int)} {rows cols : List Int} (h : ChS w A M.length (rw_ M 0).length M R C rows.length rows cols) :
    0 ≤ wst M rows cols ∧ wst M rows cols ≤ 720000000000000 ∧ (wst M rows cols ≠ 0 → rows.length ≤ 5) := by
  refine ⟨wsr_nn _ _ _ _ _, ?_, ?_⟩
  · rcases wsr_at M rows cols (rw_ M 0).length M.length with e | ⟨i, j, hi, hj, e⟩
    · unfold wst; rw [e]; decide
    · unfold wst; rw [e]
      have b := bord6 h (i := i) (j := j) (by omega) (by omega)
      exact (absI_bd b.1 b.2.1).2
  · intro z
    rcases wsr_at M rows cols (rw_ M 0).length M.length with e | ⟨i, j, hi, hj, e⟩
    · exact absurd e z
    · have b := bord6 h (i := i) (j := j) (by omega) (by omega)
      refine b.2.2 fun e0 => z ?_
      unfold wst; rw [e, e0]; rfl
/-- what Worst answers -/
def wrs (M : List (List Int)) (rows cols : List Int) : (Int × Int) × Int := if (dvz M rows cols).2 = 0 then (ratq (wst M rows cols) (absI (detR M rows cols)), 0) else ((0, 0), (dvz M rows cols).2)

end Go.Proofs.Ytllonfaogbdbnaa
