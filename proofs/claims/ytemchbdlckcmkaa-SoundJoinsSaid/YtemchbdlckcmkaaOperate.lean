/-
  The contracts of operate, Add, Sub, Mul, Div.
-/
import Derived.Test.YtemchbdlckcmkaaOps
namespace Go.Proofs.Ytemchbdlckcmkaa
open Go.ChangeShapes Go.WideShapes Go.RowKit
attribute [local go_sem high] run_min_mn run_max_mx
attribute [local go_sem] run_min4 run_max4
/-- a call that leaves the world alone, in a quiet region; and in a second one behind it -/
theorem q_one {P : Program} {f : FuncId} {args : Array Value} {w : World} {n : Nat} {v : Value} (h : Calls P f args (w.drewN n) fun e w' => e = .returned v ∧ w.drewN n = w') :
    Calls P f args (w.drewN n) fun e w'' => e = .returned v ∧ ∃ m, w'' = w.drewN m := h.mono fun _ _ ⟨he, hm⟩ => ⟨he, n, hm.symm⟩
theorem q_two {P : Program} {f : FuncId} {args : Array Value} {w : World} {a n : Nat} {v : Value} (h : Calls P f args (w.drewN (a + n)) fun e w' => e = .returned v ∧ w.drewN (a + n) = w') :
    Calls P f args (w.drewN (a + n)) fun e w'' => e = .returned v ∧ ∃ m, w'' = w.drewN (a + m) := h.mono fun _ _ ⟨he, hm⟩ => ⟨he, n, hm.symm⟩
theorem run_idx0 (w : World) : (Instr.index 98 opsV (.int .i64 0)).run Try.prog w = .ok (.agg #[.func (.func 90) #[] #[], .func (.func 90) #[] #[], .bool false]) w := by kernel_rfl
theorem run_idx1 (w : World) : (Instr.index 98 opsV (.int .i64 1)).run Try.prog w = .ok (.agg #[.func (.func 91) #[] #[], .func (.func 91) #[] #[], .bool false]) w := by kernel_rfl
theorem run_idx2 (w : World) : (Instr.index 98 opsV (.int .i64 2)).run Try.prog w = .ok (.agg #[.func (.func 92) #[] #[], .func (.func 93) #[] #[], .bool false]) w := by kernel_rfl
theorem run_idx3 (w : World) : (Instr.index 98 opsV (.int .i64 3)).run Try.prog w = .ok (.agg #[.func (.func 94) #[] #[], .func (.func 95) #[] #[], .bool true]) w := by kernel_rfl
theorem op_no1 (kd al ah bl bh : Int) (w : World) (h : Sp.vldB al ah = false) :
    Calls Try.prog 40 #[.int .i64 kd, spv al ah, spv bl bh] w fun e w' => e = .returned (spr ((0, 0), 1)) ∧ Below w.heap.size w w' := by
  go_enter Try.func40, Try.ntmps40
  go_wp2_with fail
  refine (valid_no _ _ _ h).mono ?_
  rintro e w1 ⟨rfl, rfl⟩
  go_wp2
  refine bodyPost_ret (v := spr ((0, 0), 1)) (by rw [results_cell_tmp rfl]; go_simp) rfl ⟨rfl, ?_⟩
  (repeat' (first | exact Below.refl _ _ | refine Below.setCell ?_ (by simp <;> omega) _ | refine balloc ?_ _ | refine Below.drew ?_ | refine bdrewN ?_ _))
theorem op_no2 (kd al ah bl bh : Int) (w : World) (h : Sp.vldB al ah = true) (k : Sp.vldB bl bh = false) :
    Calls Try.prog 40 #[.int .i64 kd, spv al ah, spv bl bh] w fun e w' => e = .returned (spr ((0, 0), 1)) ∧ Below w.heap.size w w' := by
  go_enter Try.func40, Try.ntmps40
  go_wp2_with fail
  refine (valid_yes _ _ _ h).mono ?_
  rintro e w1 ⟨rfl, rfl⟩
  go_wp2_with fail
  refine (valid_no _ _ _ k).mono ?_
  rintro e w1 ⟨rfl, rfl⟩
  go_wp2
  refine bodyPost_ret (v := spr ((0, 0), 1)) (by rw [results_cell_tmp rfl]; go_simp) rfl ⟨rfl, ?_⟩
  (repeat' (first | exact Below.refl _ _ | refine Below.setCell ?_ (by simp <;> omega) _ | refine balloc ?_ _ | refine Below.drew ?_ | refine bdrewN ?_ _))
theorem op_zero (al ah bl bh : Int) (w : World) (h : Sp.vldB al ah = true) (k : Sp.vldB bl bh = true) (z1 : bl ≤ 0) (z2 : 0 ≤ bh) :
    Calls Try.prog 40 #[.int .i64 3, spv al ah, spv bl bh] w fun e w' => e = .returned (spr ((0, 0), 11)) ∧ Below w.heap.size w w' := by
  have i0 := run_idx3
  unfold opsV at i0
  go_enter Try.func40, Try.ntmps40
  go_wp2_with fail
  refine (valid_yes _ _ _ h).mono ?_
  rintro e w1 ⟨rfl, rfl⟩
  go_wp2_with fail
  refine (valid_yes _ _ _ k).mono ?_
  rintro e w1 ⟨rfl, rfl⟩
  go_wp2_with fail
  refine (ops_any _).mono ?_
  rintro e w1 ⟨rfl, hb⟩
  have y0 := pair_below (pair_alloc (pair_alloc (pair_alloc (pair_new (w.alloc _) bl bh _) _) _) _) hb
  have z0 := pair_below (pair_alloc (pair_alloc (pair_new ((w.alloc _).alloc _) 0 0 _) _) _) hb
  simp only [World.size_alloc] at y0 z0
  obtain ⟨y1, y2, y3, y4, y5⟩ := y0
  obtain ⟨g1, g2, g3, g4, g5⟩ := z0
  unfold opsV
  go_wp2
  refine bodyPost_ret (v := spr ((0, 0), 11)) (by rw [results_cell_tmp rfl]; go_simp) rfl ⟨rfl, ?_⟩
  (repeat' (first | exact Below.refl _ _ | refine bstep ?_ hb | refine Below.setCell ?_ (by simp <;> omega) _ | refine balloc ?_ _ | refine Below.drew ?_ | refine bdrewN ?_ _))

end Go.Proofs.Ytemchbdlckcmkaa
