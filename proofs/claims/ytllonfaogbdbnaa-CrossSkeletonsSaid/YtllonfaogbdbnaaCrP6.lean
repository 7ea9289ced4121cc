/-
  The contracts of Off, in the program and in the document's answer.
-/
import Derived.Test.YtllonfaogbdbnaaCrP5
namespace Go.Proofs.Ytllonfaogbdbnaa
open Go.ChangeShapes Go.WideShapes Go.RowKit
open Cr
theorem gI_scale {g a b : Int} (hg : 0 < g) : gI (g * a) (g * b) = g * gI a b := by
  unfold gI
  rw [Int.natAbs_mul, Int.natAbs_mul, Nat.gcd_mul_left, Int.natCast_mul]
  congr 1
  omega
theorem ratq_scale {g a b : Int} (hg : 0 < g) (hb : 0 < b) : ratq (g * a) (g * b) = ratq a b := by
  have h : 0 < g * b := Int.mul_pos hg hb
  rw [ratq_pos (by omega), ratq_pos (by omega), gI_scale hg, Int.mul_tdiv_mul_of_pos _ _ hg, Int.mul_tdiv_mul_of_pos _ _ hg]
theorem ratq_parts {n d : Int} (hd : 0 < d) : n = gI n d * (ratq n d).1 ∧ d = gI n d * (ratq n d).2 ∧ 0 < gI n d := by
  rw [ratq_pos (by omega)]
  have e : gI n d = (Int.gcd n d : Nat) := rfl
  have d1 := Int.gcd_dvd_left n d
  have d2 := Int.gcd_dvd_right n d
  rw [← e] at d1 d2
  have g1 := gI_pos (n := n) (d := d) (by omega)
  exact ⟨(Int.mul_tdiv_cancel' d1).symm, (Int.mul_tdiv_cancel' d2).symm, by omega⟩
/-- the sum of the absolute values -/
def asum (x : List Int) (k : Nat) : Int := ps (fun j => absI (at_ x j)) k
theorem asum_bd {x : List Int} {m : Nat} (bx : ∀ k, k < m → -1000 ≤ at_ x k ∧ at_ x k ≤ 1000) : ∀ {k : Nat}, k ≤ m → 0 ≤ asum x k ∧ asum x k ≤ 1000 * k
  | 0, _ => by show (0 : Int) ≤ 0 ∧ (0 : Int) ≤ 1000 * ((0 : Nat) : Int); decide
  | k + 1, hk => by
    have h := asum_bd bx (k := k) (by omega)
    have b := absI_bd (bx k (by omega)).1 (bx k (by omega)).2
    show 0 ≤ asum x k + absI (at_ x k) ∧ asum x k + absI (at_ x k) ≤ 1000 * ((k + 1 : Nat) : Int)
    omega
/-- what Off answers -/
def offd (M : List (List Int)) (rows cols x : List Int) : (Int × Int) × Int := if fcd M rows cols x = 0 then (ratq (wst M rows cols * asum x (rw_ M 0).length) (absI (detR M rows cols)), 0) else ((0, 0), fcd M rows cols x)
theorem offd_e {M : List (List Int)} {rows cols x : List Int} {e : Int} (h : fcd M rows cols x = e) (n : e ≠ 0) : offd M rows cols x = ((0, 0), e) := by unfold offd; rw [h, if_neg n]
theorem offd_0 {M : List (List Int)} {rows cols x : List Int} (h : fcd M rows cols x = 0) : offd M rows cols x = (ratq (wst M rows cols * asum x (rw_ M 0).length) (absI (detR M rows cols)), 0) := by unfold offd; rw [if_pos h]
theorem off_eq {M : List (List Int)} {rows cols : List Int} (dz : detR M rows cols ≠ 0) (s : Int) : ratq ((ratq (wst M rows cols) (absI (detR M rows cols))).1 * s) (ratq (wst M rows cols) (absI (detR M rows cols))).2 = ratq (wst M rows cols * s) (absI (detR M rows cols)) := by
  have ad : 0 < absI (detR M rows cols) := by unfold absI; split <;> omega
  obtain ⟨h1, h2, h3⟩ := ratq_parts (n := wst M rows cols) ad
  have h4 := (ratq_abs (n := wst M rows cols) (d := absI (detR M rows cols)) (by omega)).2.2
  generalize ratq (wst M rows cols) (absI (detR M rows cols)) = r at *
  generalize gI (wst M rows cols) (absI (detR M rows cols)) = g at *
  rw [h1, h2, Int.mul_assoc, ratq_scale h3 (by omega)]
theorem wrs_0 {M : List (List Int)} {rows cols : List Int} (h : (dvz M rows cols).2 = 0) : wrs M rows cols = (ratq (wst M rows cols) (absI (detR M rows cols)), 0) := if_pos h
end Go.Proofs.Ytllonfaogbdbnaa
