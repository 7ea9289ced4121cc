/-
  The contracts of the operations with two spans: the table, its functions, operate, Add, Sub, Mul, Div.
-/
import Derived.Test.YtemchbdlckcmkaaQuo
import Derived.Laws.EntriesVeiled
namespace Go.Proofs.Ytemchbdlckcmkaa
open Go.ChangeShapes Go.WideShapes Go.RowKit
attribute [local go_sem high] run_min_mn run_max_mx

def opsV : Value := .agg #[.func (.func 90) #[] #[], .func (.func 90) #[] #[], .bool false, .func (.func 91) #[] #[], .func (.func 91) #[] #[], .bool false, .func (.func 92) #[] #[], .func (.func 93) #[] #[], .bool false, .func (.func 94) #[] #[], .func (.func 95) #[] #[], .bool true]
theorem ops_any (w : World) :
    Calls Try.prog 61 #[] w fun e w' => e = .returned (opsV) ∧ Below w.heap.size w w' := by
  go_enter Try.func61, Try.ntmps61
  go_wp2
  refine bodyPost_ret (v := opsV) (by simp [results, Try.results61, go_sem, opsV]) rfl ⟨rfl, ?_⟩
  exact (Below.refl _ _).alloc (Nat.le_refl _) _
theorem run_min4 (P : Program) (w : World) (ts : Array TypeId) (t : TypeId) (x y z u : Int) : (Builtin.min_ ts t #[.int .i64 x, .int .i64 y, .int .i64 z, .int .i64 u]).run P w = .ok (.int .i64 (Sp.mn4 x y z u)) w := by
  unfold Sp.mn4 Sp.mn; simp [Builtin.min_, Builtin.min2]
theorem run_max4 (P : Program) (w : World) (ts : Array TypeId) (t : TypeId) (x y z u : Int) : (Builtin.max_ ts t #[.int .i64 x, .int .i64 y, .int .i64 z, .int .i64 u]).run P w = .ok (.int .i64 (Sp.mx4 x y z u)) w := by
  unfold Sp.mx4 Sp.mx; simp [Builtin.max_, Builtin.max2]
attribute [local go_sem] run_min4 run_max4

/-- both numbers are fixed point numbers in range -/
def Fx (x y : Int) : Prop := -1099511627776 ≤ x ∧ x ≤ 1099511627776 ∧ -1099511627776 ≤ y ∧ y ≤ 1099511627776
theorem k_add (x y : Int) (w : World) (h : Fx x y) :
    Calls Try.prog 90 #[.int .i64 x, .int .i64 y] w fun e w' => e = .returned (.int .i64 (x + y)) ∧ w = w' := by
  obtain ⟨h1, h2, h3, h4⟩ := h
  go_enter Try.func90, Try.ntmps90
  go_wp2
  go_ret
  exact ⟨rfl, rfl⟩
theorem k_sub (x y : Int) (w : World) (h : Fx x y) :
    Calls Try.prog 91 #[.int .i64 x, .int .i64 y] w fun e w' => e = .returned (.int .i64 (x - y)) ∧ w = w' := by
  obtain ⟨h1, h2, h3, h4⟩ := h
  go_enter Try.func91, Try.ntmps91
  go_wp2
  go_ret
  exact ⟨rfl, rfl⟩
theorem k_mul (x y : Int) (w : World) (h : Fx x y) :
    Calls Try.prog 92 #[.int .i64 x, .int .i64 y] w fun e w' => e = .returned (.int .i64 (Sp.mulD x y)) ∧ w = w' := by
  obtain ⟨h1, h2, h3, h4⟩ := h
  have E := Lib.hid (Sp.mulD_parts x y)
  have W : Sp.fl y 1048576 = y / 1048576 := Sp.fl_pos (by decide)
  have b1 : -1048576 ≤ Sp.fl y 1048576 := by omega
  have b2 : Sp.fl y 1048576 ≤ 1048576 := by omega
  have b3 : 0 ≤ y - Sp.fl y 1048576 * 1048576 := by omega
  have b4 : y - Sp.fl y 1048576 * 1048576 ≤ 1048576 := by omega
  clear W
  obtain ⟨p1, p2⟩ := Sp.mul_bd h1 h2 b1 b2
  obtain ⟨p3, p4⟩ := Sp.mul_bd h1 h2 (Int.le_trans (by decide : (-1048576 : Int) ≤ 0) b3) b4
  have S1 : Hid (Sm y 1048576) := (by unfold Sm; omega : Sm y 1048576)
  have S2 : Hid (Sm (x * (y - Sp.fl y 1048576 * 1048576)) 1048576) := (by unfold Sm; omega : Sm (x * (y - Sp.fl y 1048576 * 1048576)) 1048576)
  obtain ⟨p5, p6⟩ := Sp.fl_bd (d := 1048576) p3 p4
  go_enter Try.func92, Try.ntmps92
  go_wp2_with fail
  refine (down_any _ _ _ S1.out (by decide)).mono ?_
  rintro e w1 ⟨rfl, rfl⟩
  go_wp2_with fail
  refine (down_any _ _ _ S2.out (by decide)).mono ?_
  rintro e w1 ⟨rfl, rfl⟩
  go_wp2
  go_ret
  exact ⟨ret_int E.out, rfl⟩
theorem k_mulU (x y : Int) (w : World) (h : Fx x y) :
    Calls Try.prog 93 #[.int .i64 x, .int .i64 y] w fun e w' => e = .returned (.int .i64 (Sp.mulU x y)) ∧ w = w' := by
  have H : Hid (Fx (-x) y) := (by unfold Fx at *; omega : Fx (-x) y)
  obtain ⟨h1, h2, h3, h4⟩ := h
  obtain ⟨p1, p2⟩ := Sp.mulD_bd (x := -x) (y := y) (by omega) (by omega) h3 h4
  have E := Lib.hid (Sp.mulU_neg x y)
  go_enter Try.func93, Try.ntmps93
  go_wp2_with fail
  refine (k_mul _ _ _ H.out).mono ?_
  rintro e w1 ⟨rfl, rfl⟩
  go_wp2
  go_ret
  exact ⟨ret_int E.out.symm, rfl⟩
theorem k_div (x y : Int) (w : World) (h : Fx x y) (h0 : y ≠ 0) :
    Calls Try.prog 94 #[.int .i64 x, .int .i64 y] w fun e w' => e = .returned (.int .i64 (Sp.fl (x * 1048576) y)) ∧ w = w' := by
  have S : Hid (Sm (x * 1048576) y) := (by unfold Fx Sm at *; omega : Sm (x * 1048576) y)
  have N : Hid (y ≠ 0) := h0
  obtain ⟨h1, h2, h3, h4⟩ := h
  clear h0
  go_enter Try.func94, Try.ntmps94
  go_wp2_with fail
  refine (down_any _ _ _ S.out N.out).mono ?_
  rintro e w1 ⟨rfl, rfl⟩
  go_wp2
  go_ret
  exact ⟨ret_int rfl, rfl⟩
theorem k_divU (x y : Int) (w : World) (h : Fx x y) (h0 : y ≠ 0) :
    Calls Try.prog 95 #[.int .i64 x, .int .i64 y] w fun e w' => e = .returned (.int .i64 (Sp.ce (x * 1048576) y)) ∧ w = w' := by
  have S : Hid (Sm (x * 1048576) y) := (by unfold Fx Sm at *; omega : Sm (x * 1048576) y)
  have N : Hid (y ≠ 0) := h0
  obtain ⟨h1, h2, h3, h4⟩ := h
  clear h0
  go_enter Try.func95, Try.ntmps95
  go_wp2_with fail
  refine (up_any _ _ _ S.out N.out).mono ?_
  rintro e w1 ⟨rfl, rfl⟩
  go_wp2
  go_ret
  exact ⟨ret_int rfl, rfl⟩

end Go.Proofs.Ytemchbdlckcmkaa
