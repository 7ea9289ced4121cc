/-
  Square roots of whole numbers: no program in sight.
-/
import Derived.Lib.ItoaNum
namespace Go.Proofs.Ytlegalibjkeccaa
namespace Rt
/-- the greatest r whose square is at most n -/
def isq : Nat → Nat
  | 0 => 0
  | n + 1 => if (isq n + 1) * (isq n + 1) ≤ n + 1 then isq n + 1 else isq n
theorem isq_spec (n : Nat) : isq n * isq n ≤ n ∧ n < (isq n + 1) * (isq n + 1) := by
  induction n with
  | zero => simp [isq]
  | succ n ih =>
    unfold isq
    split
    · rename_i h
      refine ⟨h, ?_⟩
      have e : (isq n + 1 + 1) * (isq n + 1 + 1) = (isq n + 1) * (isq n + 1) + (2 * isq n + 3) := by simp only [Nat.add_mul, Nat.mul_add]; omega
      omega
    · omega
theorem isq_unique {n r : Nat} (h : r * r ≤ n) (k : n < (r + 1) * (r + 1)) : r = isq n := by
  have ⟨a, b⟩ := isq_spec n
  rcases Nat.lt_trichotomy r (isq n) with c | c | c
  · have := Nat.mul_le_mul (show r + 1 ≤ isq n by omega) (show r + 1 ≤ isq n by omega); omega
  · exact c
  · have := Nat.mul_le_mul (show isq n + 1 ≤ r by omega) (show isq n + 1 ≤ r by omega); omega
/-- the smallest r whose square is at least n -/
def csq (n : Nat) : Nat := if isq n * isq n = n then isq n else isq n + 1
theorem isq_le (n : Nat) : isq n ≤ n := by
  have := (isq_spec n).1
  rcases Nat.eq_zero_or_pos (isq n) with c | c
  · omega
  · have := Nat.le_mul_of_pos_left (isq n) c; omega
theorem isq_lt {n b : Nat} (h : n < b * b) : isq n < b := by
  have := (isq_spec n).1
  rcases Nat.lt_or_ge (isq n) b with c | c
  · exact c
  · have := Nat.mul_le_mul c c; omega
theorem isq_mono {m n : Nat} (h : m ≤ n) : isq m ≤ isq n := by
  have a := (isq_spec m).1
  have b := (isq_spec n).2
  rcases Nat.lt_or_ge (isq n) (isq m) with c | c
  · have := Nat.mul_le_mul (show isq n + 1 ≤ isq m by omega) (show isq n + 1 ≤ isq m by omega); omega
  · exact c
/-- Newton's step from d: not below the root; below d unless d is the root -/
theorem newton_ge {n d : Nat} (hd : 0 < d) : isq n ≤ (d + n / d) / 2 := by
  have a := (isq_spec n).1
  rw [Nat.le_div_iff_mul_le (by decide)]
  rcases Nat.lt_or_ge (isq n * 2) d with c | c
  · generalize n / d = q; omega
  · have : isq n * 2 - d ≤ n / d := by
      rw [Nat.le_div_iff_mul_le hd]
      obtain ⟨e, he⟩ : ∃ e, isq n * 2 = d + e := ⟨isq n * 2 - d, by omega⟩
      rw [show isq n * 2 - d = e by omega]
      refine Nat.le_trans ?_ a
      generalize isq n = r at *
      have h4 : 4 * (e * d) ≤ 4 * (r * r) := by
        have h1 : 4 * (r * r) = (r * 2) * (r * 2) := by rw [Nat.mul_mul_mul_comm]; omega
        rw [h1, he]
        simp only [Nat.add_mul, Nat.mul_add]
        rcases Nat.le_total d e with q | q
        · obtain ⟨f, rfl⟩ := Nat.le.dest q
          simp only [Nat.add_mul, Nat.mul_add]
          have := Nat.mul_comm d f
          omega
        · obtain ⟨f, rfl⟩ := Nat.le.dest q
          simp only [Nat.add_mul, Nat.mul_add]
          have := Nat.mul_comm e f
          omega
      omega
    generalize n / d = q at *
    omega
theorem newton_lt {n d : Nat} (h : isq n < d) : (d + n / d) / 2 < d := by
  have b := (isq_spec n).2
  have : n / d < d := by
    rw [Nat.div_lt_iff_lt_mul (by omega)]
    have := Nat.mul_le_mul (show isq n + 1 ≤ d by omega) (show isq n + 1 ≤ d by omega); omega
  omega
theorem newton_stop {n d : Nat} (h : isq n ≤ d) (k : ¬ (d + n / d) / 2 < d) : d = isq n := by
  rcases Nat.lt_or_ge (isq n) d with c | c
  · exact absurd (newton_lt c) k
  · omega
/-- one binary place more -/
theorem place {N d : Nat} (h : d = isq N) : (if 4 * (N - d * d) > 2 * (2 * d) then 2 * d + 1 else 2 * d) = isq (N * 4) := by
  have ⟨a, b⟩ := isq_spec N
  rw [← h] at a b
  have e1 : (d + 1) * (d + 1) = d * d + 2 * d + 1 := by simp only [Nat.add_mul, Nat.mul_add]; omega
  have e2 : (2 * d) * (2 * d) = 4 * (d * d) := by rw [Nat.mul_mul_mul_comm]
  have e3 : (2 * d + 1) * (2 * d + 1) = 4 * (d * d) + 4 * d + 1 := by simp only [Nat.add_mul, Nat.mul_add]; omega
  have e4 : (2 * d + 1 + 1) * (2 * d + 1 + 1) = 4 * (d * d) + 8 * d + 4 := by simp only [Nat.add_mul, Nat.mul_add]; omega
  split
  · exact isq_unique (by omega) (by omega)
  · exact isq_unique (by omega) (by omega)
theorem len_hi {n : Nat} (h0 : n ≠ 0) (h : n < 18446744073709551616) : n < 2 ^ ((Lib.bitLen n + 1) / 2) * 2 ^ ((Lib.bitLen n + 1) / 2) := by
  have b := (Lib.bitLenAux_bounds 64 n (by simpa using h) h0).2.2
  refine Nat.lt_of_lt_of_le b ?_
  rw [← Nat.pow_add]
  exact Nat.pow_le_pow_right (by decide) (by show Lib.bitLen n ≤ _; omega)
end Rt
end Go.Proofs.Ytlegalibjkeccaa
