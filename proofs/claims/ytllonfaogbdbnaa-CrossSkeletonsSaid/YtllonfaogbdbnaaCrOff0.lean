/-
  The contract of AtMost at great products; the walk of CrossOff.
-/
import Derived.Test.YtllonfaogbdbnaaCrProd
namespace Go.Proofs.Ytllonfaogbdbnaa
open Go.ChangeShapes Go.WideShapes Go.RowKit
open Cr
theorem hl_le {a b : Nat} : (a / 18446744073709551616 < b / 18446744073709551616 → a ≤ b) ∧ (b / 18446744073709551616 < a / 18446744073709551616 → ¬ a ≤ b) ∧ (a / 18446744073709551616 = b / 18446744073709551616 → (a ≤ b ↔ a % 18446744073709551616 ≤ b % 18446744073709551616)) := by
  refine ⟨fun h => by omega, fun h => by omega, fun h => by omega⟩
theorem absI_natAbs (x : Int) : absI x = (x.natAbs : Int) := by unfold absI; split <;> omega
theorem absI_mul (x y : Int) : absI (x * y) = absI x * absI y := by
  rw [absI_natAbs, absI_natAbs, absI_natAbs, Int.natAbs_mul, Int.natCast_mul]
theorem absI_add (x y : Int) : absI (x + y) ≤ absI x + absI y := by
  rw [absI_natAbs, absI_natAbs, absI_natAbs]; omega
/-- the sum is no greater than the greatest residual times the sum of the absolute values -/
theorem lsum_le {M : List (List Int)} {rows cols x : List Int} {i : Nat} (hi : i < M.length) : ∀ {k : Nat}, k ≤ (rw_ M 0).length → absI (lsum M rows cols (i : Int) x k) ≤ wst M rows cols * asum x k
  | 0, _ => by
    show absI 0 ≤ wst M rows cols * 0
    rw [Int.mul_zero]; decide
  | k + 1, hk => by
    have h := lsum_le (rows := rows) (cols := cols) (x := x) hi (k := k) (by omega)
    have w := wsr_ge M rows cols (rw_ M 0).length (j := k) (by omega) (n := M.length) (i := i) hi
    have w : absI (bord M rows cols (i : Int) (k : Int)) ≤ wst M rows cols := w
    show absI (lsum M rows cols (i : Int) x k + bord M rows cols (i : Int) (k : Int) * at_ x k) ≤ wst M rows cols * (asum x k + absI (at_ x k))
    have a := absI_add (lsum M rows cols (i : Int) x k) (bord M rows cols (i : Int) (k : Int) * at_ x k)
    rw [absI_mul] at a
    have m := Int.mul_le_mul_of_nonneg_right w (absI_nn (at_ x k))
    rw [Int.mul_add]
    omega
theorem ratq_cross {n d : Int} (h : d ≠ 0) : absI (ratq n d).1 * absI d = absI n * (ratq n d).2 := by
  obtain ⟨h1, h2, h3⟩ := ratq_abs (n := n) h
  have g := Nat.gcd_dvd_left n.natAbs d.natAbs
  have g' := Nat.gcd_dvd_right n.natAbs d.natAbs
  have e2 : (ratq n d).2 = ((ratq n d).2.natAbs : Int) := by omega
  rw [e2, absI_natAbs, absI_natAbs, absI_natAbs, h1, h2]
  rw [← Int.natCast_mul, ← Int.natCast_mul]
  congr 1
  generalize Nat.gcd n.natAbs d.natAbs = k at *
  obtain ⟨a, ha⟩ := g
  obtain ⟨b, hb⟩ := g'
  rw [ha, hb]
  rcases Nat.eq_zero_or_pos k with hk | hk
  · subst hk; simp
  · rw [Nat.mul_div_cancel_left _ hk, Nat.mul_div_cancel_left _ hk]
    rw [← Nat.mul_assoc, Nat.mul_comm a k]
/-- the element of the residual times x is at most Off -/
theorem off_le {M : List (List Int)} {rows cols x : List Int} {i : Nat} (hi : i < M.length) (dz : detR M rows cols ≠ 0) :
    absI (lft M rows cols (i : Int) x).1 * (ratq (wst M rows cols * asum x (rw_ M 0).length) (absI (detR M rows cols))).2 ≤ (ratq (wst M rows cols * asum x (rw_ M 0).length) (absI (detR M rows cols))).1 * (lft M rows cols (i : Int) x).2 := by
  have L := lsum_le (rows := rows) (cols := cols) (x := x) hi (Nat.le_refl _)
  have ad : 0 < absI (detR M rows cols) := by unfold absI; split <;> omega
  have c1 := ratq_cross (n := lsum M rows cols (i : Int) x (rw_ M 0).length) dz
  have c2 := ratq_parts (n := wst M rows cols * asum x (rw_ M 0).length) ad
  have p1 := (ratq_abs (n := lsum M rows cols (i : Int) x (rw_ M 0).length) dz).2.2
  have p2 := (ratq_abs (n := wst M rows cols * asum x (rw_ M 0).length) (d := absI (detR M rows cols)) (by omega)).2.2
  show absI (ratq (lsum M rows cols (i : Int) x (rw_ M 0).length) (detR M rows cols)).1 * _ ≤ _ * (ratq (lsum M rows cols (i : Int) x (rw_ M 0).length) (detR M rows cols)).2
  generalize ratq (lsum M rows cols (i : Int) x (rw_ M 0).length) (detR M rows cols) = r at *
  generalize absI (lsum M rows cols (i : Int) x (rw_ M 0).length) = s at *
  generalize wst M rows cols * asum x (rw_ M 0).length = t at *
  generalize absI (detR M rows cols) = D at *
  obtain ⟨c2, c3, c4⟩ := c2
  generalize gI t D = g at *
  generalize ratq t D = o at *
  generalize absI r.1 = a at *
  -- a * D = s * r.2, t = g * o.1, D = g * o.2, s ≤ t
  have h1 : a * (g * o.2) ≤ (g * o.1) * r.2 := by
    rw [← c3, ← c2, c1]
    exact Int.mul_le_mul_of_nonneg_right L (by omega)
  have h2 : g * (a * o.2) ≤ g * (o.1 * r.2) := by
    have e1 : a * (g * o.2) = g * (a * o.2) := by grind
    have e2 : (g * o.1) * r.2 = g * (o.1 * r.2) := by grind
    omega
  exact Int.le_of_mul_le_mul_left h2 c4
theorem at_chosen {M : List (List Int)} {rows cols x : List Int} {k : Nat} (hk : k < rows.length) (dz : detR M rows cols ≠ 0) : lft M rows cols (at_ rows k) x = (0, 1) := by
  have z : ∀ j, j < (rw_ M 0).length → bord M rows cols (at_ rows k) (j : Int) = 0 := fun j _ => bord_1 (cont_hit hk rfl)
  unfold lft
  rw [lsum_zero z, ratq_zero' dz]

end Go.Proofs.Ytllonfaogbdbnaa
