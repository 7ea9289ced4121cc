/-
  The contracts of the document's product of two numbers in fixed point, by 128 bits.
-/
import Derived.Test.YtjigcgpcglfjfaaQuo
import Derived.Test.YtjigcgpcglfjfaaNumDiv
import Derived.Test.YtjigcgpcglfjfaaShelf
import Derived.Laws.Bits64b
namespace Go.Proofs.Ytjigcgpcglfjfaa
open Go.ChangeShapes Go.WideShapes Go.RowKit
theorem size1_any (a : Int) (x : Nat) (w : World) (e : a.natAbs = x) (h : x ≤ 1099511627776) :
    Calls Try.prog 164 #[.int .i64 a] w fun e w' => e = .returned (.int .u64 (x : Int)) ∧ w = w' := by
  rcases Int.lt_or_le a 0 with h0 | h0
  · have E : Hid (-a = (x : Int)) := (by omega : -a = (x : Int))
    have h1 : -1099511627776 ≤ a := by omega
    clear e h
    go_enter Try.func164, Try.ntmps164
    go_wp2
    go_ret
    exact ⟨by rw [← E.out]; rfl, rfl⟩
  · have E : Hid (a = (x : Int)) := (by omega : a = (x : Int))
    have h1 : a ≤ 1099511627776 := by omega
    clear e h
    go_enter Try.func164, Try.ntmps164
    go_wp2
    go_ret
    exact ⟨by rw [← E.out]; rfl, rfl⟩

theorem prod_le {x y : Nat} (h : x ≤ 1099511627776) (k : y ≤ 1099511627776) : x * y ≤ 1208925819614629174706176 := by
  have := Nat.mul_le_mul h k; omega
theorem times_q (x y : Nat) (h : x * y ≤ 1208925819614629174706176) :
    wrap64 (bits BinOp.or IntKind.u64 (IntKind.u64.wrap ((x : Int) * (y : Int) / 18446744073709551616 * 17592186044416)) ((x : Int) * (y : Int) % 18446744073709551616 / 1048576)) = (x : Int) * (y : Int) / 1048576 := by
  rw [← Int.natCast_mul]
  generalize x * y = P at h
  have e0 : IntKind.u64.wrap ((P : Int) / 18446744073709551616 * 17592186044416) = ((P / 18446744073709551616) <<< 44 : Nat) := by
    rw [Nat.shiftLeft_eq, IntKind.wrap_u64]; omega
  have e1 : (P : Int) % 18446744073709551616 / 1048576 = ((P % 18446744073709551616 / 1048576 : Nat) : Int) := by omega
  rw [e0, e1, bits_or_u64_nat _ _ (by rw [Nat.shiftLeft_eq]; omega) (by omega), ← Nat.shiftLeft_add_eq_or_of_lt (by omega), Nat.shiftLeft_eq]
  rw [w64 (by omega) (by omega)]
  omega
theorem tmD0 {P : Int} (_h0 : 0 ≤ P) (_h : P ≤ 1208925819614629174706176) : P / 1048576 = Sp.fl P 1048576 := by rw [Sp.fl_pos (by decide)]
theorem tmD1 {P : Int} (h0 : 0 ≤ P) (h : P ≤ 1208925819614629174706176) : wrap64 (P / 1048576) = Sp.fl P 1048576 := by rw [Sp.fl_pos (by decide), w64 (by omega) (by omega)]
theorem tmU1 {P : Int} (h0 : 0 ≤ P) (h : P ≤ 1208925819614629174706176) (c : (P % 1048576 != 0) = true) : wrap64 (P / 1048576 + 1) = Sp.ce P 1048576 := by
  rw [bne_iff_ne] at c
  unfold Sp.ce; rw [Sp.fl_pos (by decide), w64 (by omega) (by omega)]; omega
theorem tmU0 {P : Int} (h0 : 0 ≤ P) (h : P ≤ 1208925819614629174706176) (c : (P % 1048576 != 0) = false) : wrap64 (P / 1048576) = Sp.ce P 1048576 := by
  have c : P % 1048576 = 0 := by simpa using c
  unfold Sp.ce; rw [Sp.fl_pos (by decide), w64 (by omega) (by omega)]; omega
theorem tmU2 {P : Int} (c : (P % 1048576 != 0) = false) : P / 1048576 = Sp.ce P 1048576 := by
  have c : P % 1048576 = 0 := by simpa using c
  unfold Sp.ce; rw [Sp.fl_pos (by decide)]; omega
theorem tmN1 {P : Int} (h0 : 0 ≤ P) (h : P ≤ 1208925819614629174706176) (c : (P % 1048576 != 0) = true) : wrap64 (wrap64 (-(P / 1048576)) - 1) = Sp.fl (-P) 1048576 := by
  rw [bne_iff_ne] at c
  rw [Sp.fl_pos (by decide), w64 (a := -(P / 1048576)) (by omega) (by omega), w64 (by omega) (by omega)]; omega
theorem tmN0 {P : Int} (h0 : 0 ≤ P) (h : P ≤ 1208925819614629174706176) (c : (P % 1048576 != 0) = false) : wrap64 (wrap64 (-(P / 1048576))) = Sp.fl (-P) 1048576 := by
  have c : P % 1048576 = 0 := by simpa using c
  rw [Sp.fl_pos (by decide), w64 (a := -(P / 1048576)) (by omega) (by omega), w64 (by omega) (by omega)]; omega
theorem tmNU {P : Int} (h0 : 0 ≤ P) (h : P ≤ 1208925819614629174706176) : wrap64 (-(P / 1048576)) = Sp.ce (-P) 1048576 := by
  unfold Sp.ce; rw [Sp.fl_pos (by decide), Int.neg_neg, w64 (by omega) (by omega)]
theorem prod0 (x y : Nat) : 0 ≤ (x : Int) * (y : Int) := by rw [← Int.natCast_mul]; omega
theorem prod1 {x y : Nat} (h : x * y ≤ 1208925819614629174706176) : (x : Int) * (y : Int) ≤ 1208925819614629174706176 := by rw [← Int.natCast_mul]; omega
theorem ret_two {a b c d : Int} (h : a = c) (k : b = d) : Ending.returned (.tuple #[.int .i64 a, .int .i64 b]) = .returned (.tuple #[.int .i64 c, .int .i64 d]) := by rw [h, k]
end Go.Proofs.Ytjigcgpcglfjfaa
