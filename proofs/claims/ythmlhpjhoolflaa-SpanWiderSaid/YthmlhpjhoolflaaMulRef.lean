/-
  The contracts of the document's product of two numbers in fixed point, by 128 bits.
-/
import Derived.Test.YthmlhpjhoolflaaQuo
import Derived.Test.YthmlhpjhoolflaaNumDiv
import Derived.Test.YthmlhpjhoolflaaShelf
import Derived.Laws.Bits64b
namespace Go.Proofs.Ythmlhpjhoolflaa
open Go.ChangeShapes Go.WideShapes Go.RowKit
theorem size_any (a : Int) (x : Nat) (w : World) (e : a.natAbs = x) (h : x ≤ 1099511627776) :
    Calls Try.prog 81 #[.int .i64 a] w fun e w' => e = .returned (.int .u64 (x : Int)) ∧ w = w' := by
  rcases Int.lt_or_le a 0 with h0 | h0
  · have E : Hid (-a = (x : Int)) := (by omega : -a = (x : Int))
    have h1 : -1099511627776 ≤ a := by omega
    clear e h
    go_enter Try.func81, Try.ntmps81
    go_wp2
    go_ret
    exact ⟨by rw [← E.out]; rfl, rfl⟩
  · have E : Hid (a = (x : Int)) := (by omega : a = (x : Int))
    have h1 : a ≤ 1099511627776 := by omega
    clear e h
    go_enter Try.func81, Try.ntmps81
    go_wp2
    go_ret
    exact ⟨by rw [← E.out]; rfl, rfl⟩

theorem prod_le {x y : Nat} (h : x ≤ 1099511627776) (k : y ≤ 1099511627776) : x * y ≤ 1208925819614629174706176 := by
  have := Nat.mul_le_mul h k; omega
theorem times_q (x y : Nat) (h : x * y ≤ 1208925819614629174706176) :
    wrap64 (bits BinOp.or IntKind.u64 (IntKind.u64.wrap ((x : Int) * (y : Int) / 18446744073709551616 * 17592186044416)) ((x : Int) * (y : Int) % 18446744073709551616 / 1048576)) = (x : Int) * (y : Int) / 1048576 := by
  rw [← Int.natCast_mul]
  generalize x * y = P at h
  have e0 : IntKind.u64.wrap ((P : Int) / 18446744073709551616 * 17592186044416) = ((P / 18446744073709551616) <<< 44 : Nat) := by
    rw [Nat.shiftLeft_eq, IntKind.wrap_u64]; omega
  have e1 : (P : Int) % 18446744073709551616 / 1048576 = ((P % 18446744073709551616 / 1048576 : Nat) : Int) := by omega
  rw [e0, e1, bits_or_u64_nat _ _ (by rw [Nat.shiftLeft_eq]; omega) (by omega), ← Nat.shiftLeft_add_eq_or_of_lt (by omega), Nat.shiftLeft_eq]
  rw [w64 (by omega) (by omega)]
  omega
theorem tmD0 {P : Int} (_h0 : 0 ≤ P) (_h : P ≤ 1208925819614629174706176) : P / 1048576 = Sp.fl P 1048576 := by rw [Sp.fl_pos (by decide)]
theorem tmD1 {P : Int} (h0 : 0 ≤ P) (h : P ≤ 1208925819614629174706176) : wrap64 (P / 1048576) = Sp.fl P 1048576 := by rw [Sp.fl_pos (by decide), w64 (by omega) (by omega)]
theorem tmU1 {P : Int} (h0 : 0 ≤ P) (h : P ≤ 1208925819614629174706176) (c : (P % 1048576 != 0) = true) : wrap64 (P / 1048576 + 1) = Sp.ce P 1048576 := by
  rw [bne_iff_ne] at c
  unfold Sp.ce; rw [Sp.fl_pos (by decide), w64 (by omega) (by omega)]; omega
theorem tmU0 {P : Int} (h0 : 0 ≤ P) (h : P ≤ 1208925819614629174706176) (c : (P % 1048576 != 0) = false) : wrap64 (P / 1048576) = Sp.ce P 1048576 := by
  have c : P % 1048576 = 0 := by simpa using c
  unfold Sp.ce; rw [Sp.fl_pos (by decide), w64 (by omega) (by omega)]; omega
theorem tmU2 {P : Int} (c : (P % 1048576 != 0) = false) : P / 1048576 = Sp.ce P 1048576 := by
  have c : P % 1048576 = 0 := by simpa using c
  unfold Sp.ce; rw [Sp.fl_pos (by decide)]; omega
theorem tmN1 {P : Int} (h0 : 0 ≤ P) (h : P ≤ 1208925819614629174706176) (c : (P % 1048576 != 0) = true) : wrap64 (wrap64 (-(P / 1048576)) - 1) = Sp.fl (-P) 1048576 := by
  rw [bne_iff_ne] at c
  rw [Sp.fl_pos (by decide), w64 (a := -(P / 1048576)) (by omega) (by omega), w64 (by omega) (by omega)]; omega
theorem tmN0 {P : Int} (h0 : 0 ≤ P) (h : P ≤ 1208925819614629174706176) (c : (P % 1048576 != 0) = false) : wrap64 (wrap64 (-(P / 1048576))) = Sp.fl (-P) 1048576 := by
  have c : P % 1048576 = 0 := by simpa using c
  rw [Sp.fl_pos (by decide), w64 (a := -(P / 1048576)) (by omega) (by omega), w64 (by omega) (by omega)]; omega
theorem tmNU {P : Int} (h0 : 0 ≤ P) (h : P ≤ 1208925819614629174706176) : wrap64 (-(P / 1048576)) = Sp.ce (-P) 1048576 := by
  unfold Sp.ce; rw [Sp.fl_pos (by decide), Int.neg_neg, w64 (by omega) (by omega)]
theorem prod0 (x y : Nat) : 0 ≤ (x : Int) * (y : Int) := by rw [← Int.natCast_mul]; omega
theorem prod1 {x y : Nat} (h : x * y ≤ 1208925819614629174706176) : (x : Int) * (y : Int) ≤ 1208925819614629174706176 := by rw [← Int.natCast_mul]; omega
theorem ret_two {a b c d : Int} (h : a = c) (k : b = d) : Ending.returned (.tuple #[.int .i64 a, .int .i64 b]) = .returned (.tuple #[.int .i64 c, .int .i64 d]) := by rw [h, k]
set_option maxHeartbeats 800000 in
theorem times_any (a b : Int) (w : World) (h : -1099511627776 ≤ a ∧ a ≤ 1099511627776 ∧ -1099511627776 ≤ b ∧ b ≤ 1099511627776) :
    Calls Try.prog 67 #[.int .i64 a, .int .i64 b] w fun e w' => e = .returned (.tuple #[.int .i64 (Sp.mulD a b), .int .i64 (Sp.mulU a b)]) ∧ w = w' := by
  obtain ⟨h1, h2, h3, h4⟩ := h
  obtain ⟨x, ex0⟩ : ∃ x, a.natAbs = x := ⟨_, rfl⟩
  obtain ⟨y, ey0⟩ : ∃ y, b.natAbs = y := ⟨_, rfl⟩
  have ex := Lib.hid ex0
  have ey := Lib.hid ey0
  have hx : Hid (x ≤ 1099511627776) := (by omega : x ≤ 1099511627776)
  have hy : Hid (y ≤ 1099511627776) := (by omega : y ≤ 1099511627776)
  have Q := Lib.hid (prod_le hx.out hy.out)
  rcases Int.lt_or_le a 0 with ha | ha <;> rcases Int.lt_or_le b 0 with hb | hb
  ·
    have t1 : decide (a < 0) = true := decide_eq_true ha
    have t2 : decide (b < 0) = true := decide_eq_true hb
    have M : Hid (a * b = ((x : Int) * (y : Int))) := (by
      have ea : a = -(x : Int) := by omega
      have eb : b = -(y : Int) := by omega
      rw [ea, eb, Int.neg_mul_neg] : a * b = ((x : Int) * (y : Int)))
    clear ha hb ex0 ey0
    go_enter Try.func67, Try.ntmps67
    go_wp2_with fail
    refine (size_any _ _ _ ex.out hx.out).mono ?_
    rintro e w1 ⟨rfl, rfl⟩
    go_wp2_with fail
    refine (size_any _ _ _ ey.out hy.out).mono ?_
    rintro e w1 ⟨rfl, rfl⟩
    go_wp2_with fail
    refine (Try.bits_Mul64 _ _ (Nat.lt_of_le_of_lt hx.out (by decide)) (Nat.lt_of_le_of_lt hy.out (by decide)) _).mono ?_
    rintro e w1 ⟨rfl, rfl⟩
    go_wp2
    all_goals
      go_ret2
      refine ⟨?_, rfl⟩
      simp only [times_q x y Q.out]
      refine ret_two ?_ ?_
      · unfold Sp.mulD; rw [M.out]; first | exact tmD0 (prod0 x y) (prod1 Q.out) | exact tmD1 (prod0 x y) (prod1 Q.out) | exact tmN1 (prod0 x y) (prod1 Q.out) (by assumption) | exact tmN0 (prod0 x y) (prod1 Q.out) (by assumption)
      · unfold Sp.mulU; rw [M.out]; first | exact tmU1 (prod0 x y) (prod1 Q.out) (by assumption) | exact tmU0 (prod0 x y) (prod1 Q.out) (by assumption) | exact tmU2 (by assumption) | exact tmNU (prod0 x y) (prod1 Q.out)
  ·
    have t1 : decide (a < 0) = true := decide_eq_true ha
    have t2 : decide (b < 0) = false := decide_eq_false (by omega)
    have M : Hid (a * b = -((x : Int) * (y : Int))) := (by
      have ea : a = -(x : Int) := by omega
      have eb : b = (y : Int) := by omega
      rw [ea, eb, Int.neg_mul] : a * b = -((x : Int) * (y : Int)))
    clear ha hb ex0 ey0
    go_enter Try.func67, Try.ntmps67
    go_wp2_with fail
    refine (size_any _ _ _ ex.out hx.out).mono ?_
    rintro e w1 ⟨rfl, rfl⟩
    go_wp2_with fail
    refine (size_any _ _ _ ey.out hy.out).mono ?_
    rintro e w1 ⟨rfl, rfl⟩
    go_wp2_with fail
    refine (Try.bits_Mul64 _ _ (Nat.lt_of_le_of_lt hx.out (by decide)) (Nat.lt_of_le_of_lt hy.out (by decide)) _).mono ?_
    rintro e w1 ⟨rfl, rfl⟩
    go_wp2
    all_goals
      go_ret2
      refine ⟨?_, rfl⟩
      simp only [times_q x y Q.out]
      refine ret_two ?_ ?_
      · unfold Sp.mulD; rw [M.out]; first | exact tmD0 (prod0 x y) (prod1 Q.out) | exact tmD1 (prod0 x y) (prod1 Q.out) | exact tmN1 (prod0 x y) (prod1 Q.out) (by assumption) | exact tmN0 (prod0 x y) (prod1 Q.out) (by assumption)
      · unfold Sp.mulU; rw [M.out]; first | exact tmU1 (prod0 x y) (prod1 Q.out) (by assumption) | exact tmU0 (prod0 x y) (prod1 Q.out) (by assumption) | exact tmU2 (by assumption) | exact tmNU (prod0 x y) (prod1 Q.out)
  ·
    have t1 : decide (a < 0) = false := decide_eq_false (by omega)
    have t2 : decide (b < 0) = true := decide_eq_true hb
    have M : Hid (a * b = -((x : Int) * (y : Int))) := (by
      have ea : a = (x : Int) := by omega
      have eb : b = -(y : Int) := by omega
      rw [ea, eb, Int.mul_neg] : a * b = -((x : Int) * (y : Int)))
    clear ha hb ex0 ey0
    go_enter Try.func67, Try.ntmps67
    go_wp2_with fail
    refine (size_any _ _ _ ex.out hx.out).mono ?_
    rintro e w1 ⟨rfl, rfl⟩
    go_wp2_with fail
    refine (size_any _ _ _ ey.out hy.out).mono ?_
    rintro e w1 ⟨rfl, rfl⟩
    go_wp2_with fail
    refine (Try.bits_Mul64 _ _ (Nat.lt_of_le_of_lt hx.out (by decide)) (Nat.lt_of_le_of_lt hy.out (by decide)) _).mono ?_
    rintro e w1 ⟨rfl, rfl⟩
    go_wp2
    all_goals
      go_ret2
      refine ⟨?_, rfl⟩
      simp only [times_q x y Q.out]
      refine ret_two ?_ ?_
      · unfold Sp.mulD; rw [M.out]; first | exact tmD0 (prod0 x y) (prod1 Q.out) | exact tmD1 (prod0 x y) (prod1 Q.out) | exact tmN1 (prod0 x y) (prod1 Q.out) (by assumption) | exact tmN0 (prod0 x y) (prod1 Q.out) (by assumption)
      · unfold Sp.mulU; rw [M.out]; first | exact tmU1 (prod0 x y) (prod1 Q.out) (by assumption) | exact tmU0 (prod0 x y) (prod1 Q.out) (by assumption) | exact tmU2 (by assumption) | exact tmNU (prod0 x y) (prod1 Q.out)
  ·
    have t1 : decide (a < 0) = false := decide_eq_false (by omega)
    have t2 : decide (b < 0) = false := decide_eq_false (by omega)
    have M : Hid (a * b = ((x : Int) * (y : Int))) := (by
      have ea : a = (x : Int) := by omega
      have eb : b = (y : Int) := by omega
      rw [ea, eb] : a * b = ((x : Int) * (y : Int)))
    clear ha hb ex0 ey0
    go_enter Try.func67, Try.ntmps67
    go_wp2_with fail
    refine (size_any _ _ _ ex.out hx.out).mono ?_
    rintro e w1 ⟨rfl, rfl⟩
    go_wp2_with fail
    refine (size_any _ _ _ ey.out hy.out).mono ?_
    rintro e w1 ⟨rfl, rfl⟩
    go_wp2_with fail
    refine (Try.bits_Mul64 _ _ (Nat.lt_of_le_of_lt hx.out (by decide)) (Nat.lt_of_le_of_lt hy.out (by decide)) _).mono ?_
    rintro e w1 ⟨rfl, rfl⟩
    go_wp2
    all_goals
      go_ret2
      refine ⟨?_, rfl⟩
      simp only [times_q x y Q.out]
      refine ret_two ?_ ?_
      · unfold Sp.mulD; rw [M.out]; first | exact tmD0 (prod0 x y) (prod1 Q.out) | exact tmD1 (prod0 x y) (prod1 Q.out) | exact tmN1 (prod0 x y) (prod1 Q.out) (by assumption) | exact tmN0 (prod0 x y) (prod1 Q.out) (by assumption)
      · unfold Sp.mulU; rw [M.out]; first | exact tmU1 (prod0 x y) (prod1 Q.out) (by assumption) | exact tmU0 (prod0 x y) (prod1 Q.out) (by assumption) | exact tmU2 (by assumption) | exact tmNU (prod0 x y) (prod1 Q.out)


end Go.Proofs.Ythmlhpjhoolflaa
