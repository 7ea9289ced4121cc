/-
  The rim of a panel: plain facts; the search for the least number.
-/
import Derived.Test.YtjigcgpcglfjfaaFgMf
import Derived.Test.YtjigcgpcglfjfaaLen
namespace Go.Proofs.Ytjigcgpcglfjfaa
open Go.ChangeShapes Go.WideShapes Go.RowKit
open Sh
/-- the length of a panel's normal, rounded down; the rim's square, rounded up; the rim -/
def rS (t : P9) : Nat := Rt.isq (dot (nrm t.1 t.2.1 t.2.2) (nrm t.1 t.2.1 t.2.2)).toNat
def rW (s : Int) : Int := 1099511627776 * s * s * 3217
def rL (S : Nat) (s : Int) : Nat := ((rW s + 128 * (S : Int) - 1) / (128 * (S : Int))).toNat
def rimN (S : Nat) (s : Int) : Nat := Rt.csq (rL S s)
theorem csq_le {n k : Nat} : Rt.csq n ≤ k ↔ n ≤ k * k := by
  have h := Rt.isq_spec n
  unfold Rt.csq
  constructor
  · intro c
    by_cases e : Rt.isq n * Rt.isq n = n
    · rw [if_pos e] at c
      have := Nat.mul_le_mul c c
      omega
    · rw [if_neg e] at c
      have := Nat.mul_le_mul c c
      omega
  · intro c
    have il : Rt.isq n ≤ k := Classical.byContradiction fun x => by
      have := Nat.mul_le_mul (show k + 1 ≤ Rt.isq n by omega) (show k + 1 ≤ Rt.isq n by omega)
      have e : (k + 1) * (k + 1) = k * k + 2 * k + 1 := by rw [Nat.add_mul, Nat.mul_add]; omega
      omega
    by_cases e : Rt.isq n * Rt.isq n = n
    · rw [if_pos e]; exact il
    · rw [if_neg e]
      rcases Nat.lt_or_ge (Rt.isq n) k with y | y
      · exact y
      · have : Rt.isq n = k := by omega
        rw [this] at h e
        omega
theorem isq_scaled (n : Nat) : Rt.isq (n * 1099511627776) / 1048576 = Rt.isq n := by
  have h := Rt.isq_spec (n * 1099511627776)
  have g := Rt.isq_spec n
  generalize hr : Rt.isq (n * 1099511627776) = r at *
  generalize Rt.isq n = k at *
  have dm := Nat.div_add_mod r 1048576
  have ml := Nat.mod_lt r (show 0 < 1048576 by decide)
  have a1 : (k * 1048576) * (k * 1048576) ≤ n * 1099511627776 := by
    have e : (k * 1048576) * (k * 1048576) = k * k * 1099511627776 := by simp only [Nat.mul_assoc, Nat.mul_left_comm]
    rw [e]
    exact Nat.mul_le_mul_right _ g.1
  have a2 : n * 1099511627776 < ((k + 1) * 1048576) * ((k + 1) * 1048576) := by
    have e : ((k + 1) * 1048576) * ((k + 1) * 1048576) = (k + 1) * (k + 1) * 1099511627776 := by simp only [Nat.mul_assoc, Nat.mul_left_comm]
    rw [e]
    exact Nat.mul_lt_mul_of_pos_right g.2 (by omega)
  have b1 : k * 1048576 ≤ r := Classical.byContradiction fun c => by
    have q := Nat.succ_le_of_lt (Nat.lt_of_not_le c)
    exact absurd (Nat.lt_of_lt_of_le h.2 (Nat.mul_le_mul q q)) (Nat.not_lt.2 a1)
  have b2 : r < (k + 1) * 1048576 := Classical.byContradiction fun c => by
    have q := Nat.le_of_not_lt c
    exact absurd (Nat.lt_of_le_of_lt (Nat.le_trans (Nat.mul_le_mul q q) h.1) a2) (Nat.lt_irrefl _)
  clear a1 a2 h g
  omega
theorem ce_up {n d : Int} (h : 0 < d) : Sp.ce n d = (n + d - 1) / d := by
  unfold Sp.ce Sp.fl
  rw [if_pos h]
  have u := (Int.ediv_emod_unique (a := n) (b := d) (q := n / d) (r := n % d) h).1 ⟨rfl, rfl⟩
  obtain ⟨e, r0, r1⟩ := u
  generalize n / d = k at *
  generalize n % d = r at *
  by_cases z : r = 0
  · have a := ((Int.ediv_emod_unique (a := -n) (b := d) (q := -k) (r := 0) h).2 ⟨by rw [← e, z, Int.mul_neg]; omega, by omega, h⟩).1
    have b := ((Int.ediv_emod_unique (a := n + d - 1) (b := d) (q := k) (r := d - 1) h).2 ⟨by rw [← e, z]; omega, by omega, by omega⟩).1
    rw [a, b]; omega
  · have a := ((Int.ediv_emod_unique (a := -n) (b := d) (q := -k - 1) (r := d - r) h).2 ⟨by rw [← e, Int.mul_sub, Int.mul_neg, Int.mul_one]; omega, by omega, by omega⟩).1
    have b := ((Int.ediv_emod_unique (a := n + d - 1) (b := d) (q := k + 1) (r := r - 1) h).2 ⟨by rw [← e, Int.mul_add, Int.mul_one]; omega, by omega, by omega⟩).1
    rw [a, b]; omega
theorem rW_bd {s : Int} (s1 : 1 ≤ s) (s2 : s ≤ 8) : 3537128906555392 ≤ rW s ∧ rW s ≤ 226376250019545088 ∧ 1 ≤ 1099511627776 * s ∧ 1099511627776 * s ≤ 8796093022208 ∧ 1 ≤ 1099511627776 * s * s ∧ 1099511627776 * s * s ≤ 70368744177664 := by
  have h : s = 1 ∨ s = 2 ∨ s = 3 ∨ s = 4 ∨ s = 5 ∨ s = 6 ∨ s = 7 ∨ s = 8 := by omega
  rcases h with rfl | rfl | rfl | rfl | rfl | rfl | rfl | rfl <;> decide
theorem rL_bd {S : Nat} {s : Int} (S1 : 1 ≤ S) (S2 : S ≤ 60000) (s1 : 1 ≤ s) (s2 : s ≤ 8) : ((rL S s : Nat) : Int) = (rW s + 128 * (S : Int) - 1) / (128 * (S : Int)) ∧ 1 ≤ rL S s ∧ rL S s ≤ 4503599627370496 := by
  have w := rW_bd s1 s2
  have d0 : (0 : Int) < 128 * (S : Int) := by omega
  have u := (Int.ediv_emod_unique (a := rW s + 128 * (S : Int) - 1) (b := 128 * (S : Int)) (q := (rW s + 128 * (S : Int) - 1) / (128 * (S : Int))) (r := (rW s + 128 * (S : Int) - 1) % (128 * (S : Int))) d0).1 ⟨rfl, rfl⟩
  unfold rL
  generalize (rW s + 128 * (S : Int) - 1) / (128 * (S : Int)) = k at *
  generalize (rW s + 128 * (S : Int) - 1) % (128 * (S : Int)) = r at *
  have k1 : 1 ≤ k := Classical.byContradiction fun c => by
    have := Int.mul_le_mul_of_nonneg_left (show k ≤ 0 by omega) (show 0 ≤ 128 * (S : Int) by omega)
    omega
  have k2 : k ≤ 4503599627370496 := Classical.byContradiction fun c => by
    have := Int.mul_le_mul_of_nonneg_left (show 4503599627370497 ≤ k by omega) (show 0 ≤ 128 * (S : Int) by omega)
    have e : 128 * (S : Int) * 4503599627370497 = 576460752303423616 * (S : Int) := by omega
    omega
  omega
theorem rimN_le {S : Nat} {s : Int} (S1 : 1 ≤ S) (S2 : S ≤ 60000) (s1 : 1 ≤ s) (s2 : s ≤ 8) : rimN S s ≤ 67108864 := csq_le.2 (by have := (rL_bd S1 S2 s1 s2).2.2; omega)
theorem rS_bd {t : P9} (h : pcode t.1 t.2.1 t.2.2 = 0) : 1 ≤ rS t ∧ rS t ≤ 60000 ∧ 1 ≤ dot (nrm t.1 t.2.1 t.2.2) (nrm t.1 t.2.1 t.2.2) ∧ dot (nrm t.1 t.2.1 t.2.2) (nrm t.1 t.2.1 t.2.2) ≤ 3221225472 := by
  have hB := pcode_64 h
  have nb := Sh.nrm_bd hB.1 hB.2.1 hB.2.2
  have nz : nrm t.1 t.2.1 t.2.2 ≠ (0, 0, 0) := fun e => by
    unfold pcode at h
    split at h
    · first
      | (rw [if_pos e] at h; exact absurd h (by decide))
      | exact absurd h (by decide)
    · exact absurd h (by decide)
  unfold rS
  generalize nrm t.1 t.2.1 t.2.2 = v at *
  obtain ⟨v1, v2, v3⟩ := v
  obtain ⟨a1, a2, a3, a4, a5, a6⟩ := nb
  have x := mul_bd a1 a2 a1 a2
  have y := mul_bd a3 a4 a3 a4
  have z := mul_bd a5 a6 a5 a6
  have x0 := sq_pos' v1
  have y0 := sq_pos' v2
  have z0 := sq_pos' v3
  have d : dot (v1, v2, v3) (v1, v2, v3) = v1 * v1 + v2 * v2 + v3 * v3 := rfl
  rw [d]
  dsimp only at x y z
  have pos : 1 ≤ v1 * v1 + v2 * v2 + v3 * v3 := Classical.byContradiction fun c => by
    have e1 : v1 * v1 = 0 := by omega
    have e2 : v2 * v2 = 0 := by omega
    have e3 : v3 * v3 = 0 := by omega
    apply nz
    rw [(or_self_iff.1 (Int.mul_eq_zero.1 e1) : v1 = 0), (or_self_iff.1 (Int.mul_eq_zero.1 e2) : v2 = 0), (or_self_iff.1 (Int.mul_eq_zero.1 e3) : v3 = 0)]
  have hs := Rt.isq_spec (v1 * v1 + v2 * v2 + v3 * v3).toNat
  refine ⟨Classical.byContradiction fun c => ?_, Classical.byContradiction fun c => ?_, pos, by omega⟩
  · have e : Rt.isq (v1 * v1 + v2 * v2 + v3 * v3).toNat = 0 := by omega
    rw [e] at hs
    omega
  · have := Nat.mul_le_mul (show 60001 ≤ Rt.isq (v1 * v1 + v2 * v2 + v3 * v3).toNat by omega) (show 60001 ≤ Rt.isq (v1 * v1 + v2 * v2 + v3 * v3).toNat by omega)
    omega
theorem rim1_any (b k : Nat) (L : Nat) (w : World) (hk : k ≤ 67108864) (hc : w.cell? ⟨b, 0, none⟩ = some (.int .i64 L)) (_hl : b < w.heap.size) : Calls Try.prog 133 #[.int .i64 k, .pointer (some ⟨b, 0, none⟩)] w fun e w' => e = .returned (.bool (decide ((L : Int) ≤ (k : Int) * (k : Int)))) ∧ Below w.heap.size w w' := by
  have q := mul_bd (x := (k : Int)) (y := (k : Int)) (A := 67108864) (B := 67108864) (by omega) (by omega) (by omega) (by omega)
  obtain ⟨q1, q2⟩ := q
  go_enter Try.func133, Try.ntmps133
  go_wp2
  go_ret
  exact ⟨rfl, Below.refl _ _⟩
set_option maxHeartbeats 1000000 in
theorem srch_any (b L : Nat) (w : World) (hc : w.cell? ⟨b, 0, none⟩ = some (.int .i64 L)) (hl : b < w.heap.size) (hL : Rt.csq L ≤ 67108864) : Calls Try.prog 132 #[.int .i64 67108864, .func (.func 133) #[] #[.pointer (some ⟨b, 0, none⟩)]] w fun e w' => e = .returned (.int .i64 ((Rt.csq L : Nat) : Int)) ∧ Below w.heap.size w w' := by
  have Y := Lib.hid (fun k => (csq_le (n := L) (k := k)))
  have HC := Lib.hid hc
  obtain ⟨r, hr⟩ : ∃ r, Rt.csq L = r := ⟨_, rfl⟩
  rw [hr] at hL Y ⊢
  clear hr hc
  go_enter Try.func132, Try.ntmps132
  go_wp2
  go_loopw [5, 6] (fun lv gv wr => ∃ l g : Nat, l ≤ r ∧ r ≤ g ∧ g ≤ 67108864 ∧ lv = .int .i64 l ∧ gv = .int .i64 g ∧ Below w.heap.size w wr) (fun lv gv _ => (intOf gv - intOf lv).toNat)
  case atStart => exact ⟨0, 67108864, by omega, by omega, by omega, rfl, rfl, Below.refl _ _⟩
  case round =>
    obtain ⟨l, g, h1, h2, h3, rfl, rfl, BB⟩ := hrel
    have B0 := Lib.hid BB
    clear BB
    by_cases hlt : l < g
    · have hlt' : (l : Int) < (g : Int) := by omega
      have gb : (g : Int) ≤ 67108864 := by omega
      obtain ⟨k, hk⟩ : ∃ k, (l + g) / 2 = k := ⟨_, rfl⟩
      have e1 : ((l : Int) + (g : Int)) / 2 = (k : Int) := by omega
      have hk2 : k ≤ 67108864 := by omega
      have K := Lib.hid (show l ≤ k ∧ k < g by omega)
      have C := rim1_any b k L wr hk2 ((B0.out.cell (p := ⟨b, 0, none⟩) hl).trans HC.out) (Nat.lt_of_lt_of_le hl B0.out.size)
      clear hk
      by_cases c : L ≤ k * k
      · have hy := (Y.out k).2 c
        rw [decide_eq_true (show (L : Int) ≤ (k : Int) * (k : Int) by rw [← Int.natCast_mul]; omega)] at C
        have C' := Lib.hid C
        clear c C
        go_wp2_with fail
        refine C'.out.mono ?_
        rintro e w1 ⟨rfl, hb1⟩
        go_wp2_with fail
        go_roundw
        case rel => exact ⟨l, k, h1, hy, hk2, rfl, rfl, bstep B0.out hb1⟩
        case measure => have := K.out; simp [intOf]; omega
      · have hy : k < r := Nat.lt_of_not_le fun x => c ((Y.out k).1 x)
        rw [decide_eq_false (show ¬ (L : Int) ≤ (k : Int) * (k : Int) by rw [← Int.natCast_mul]; omega)] at C
        have C' := Lib.hid C
        clear c C
        go_wp2_with fail
        refine C'.out.mono ?_
        rintro e w1 ⟨rfl, hb1⟩
        go_wp2_with fail
        go_roundw
        case rel => exact ⟨k + 1, g, by omega, h2, h3, by go_num, rfl, bstep B0.out hb1⟩
        case measure => have := K.out; simp [intOf]; omega
    · obtain rfl : l = g := by omega
      obtain rfl : r = l := by omega
      go_wp2
      go_ret
      exact ⟨rfl, B0.out⟩

end Go.Proofs.Ytjigcgpcglfjfaa
