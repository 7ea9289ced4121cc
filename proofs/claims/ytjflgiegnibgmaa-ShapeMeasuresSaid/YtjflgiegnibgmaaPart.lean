/-
  The contracts of Part and Scale, in the program and in the document's answer.
-/
import Derived.Test.YtjflgiegnibgmaaScale
import Derived.Deep.RegionHeld3
namespace Go.Proofs.Ytjflgiegnibgmaa
open Go.ChangeShapes Go.WideShapes Go.RowKit
attribute [local go_sem 1000000] run_min_mn run_max_mx
theorem pair_drew {w : World} {b : Nat} {x y : Int} (h : Pair w b x y) : Pair w.drew b x y := h
/-- the span of the quotients by n -/
def partR (lo hi n : Int) : Sp.R := if Sp.vldB lo hi = true ∧ 1 ≤ n ∧ n ≤ 1099511627776 then Sp.told (Sp.fl lo n) (Sp.ce hi n) else ((0, 0), 1)
/-- the span of the products with n -/
def scaleR (lo hi n : Int) : Sp.R := if Sp.vldB lo hi = true ∧ -1099511627776 ≤ n ∧ n ≤ 1099511627776 then Sp.told (Sp.mn (lo * n) (hi * n)) (Sp.mx (lo * n) (hi * n)) else ((0, 0), 1)
set_option maxRecDepth 100000 in
set_option maxHeartbeats 800000 in
theorem part_yes (lo hi n : Int) (w : World) (h : Sp.vldB lo hi = true) (h1 : 1 ≤ n) (h2 : n ≤ 1099511627776) :
    Calls Try.prog 70 #[spv lo hi, .int .i64 n] w fun e w' => e = .returned (spr (Sp.told (Sp.fl lo n) (Sp.ce hi n))) ∧ Below w.heap.size w w' := by
  have q := Sp.vld_iff.1 h
  have X0 : Hid (Sm lo n) := (by unfold Sm; omega : Sm lo n)
  have X1 : Hid (Sm hi n) := (by unfold Sm; omega : Sm hi n)
  have N : Hid (n ≠ 0) := (by omega : n ≠ 0)
  clear q
  go_enter Try.func70, Try.ntmps70
  go_wp2_with fail
  refine (valid_yes _ _ _ h).mono ?_
  rintro e w1 ⟨rfl, rfl⟩
  go_wp2_with fail
  refine (betw_yes _ _ _ _ h1 h2).mono ?_
  rintro e w1 ⟨rfl, rfl⟩
  go_wp2_with fail
  go_region_held3 (fun w' => w'.cell? ⟨w.heap.size, 0, none⟩ = some (.int .i64 lo) ∧ w'.cell? ⟨w.heap.size, 1, none⟩ = some (.int .i64 hi))
    (first | go_keep)
    (first | (go_at_call 98; refine (down_any _ _ _ X0.out N.out).mono ?_; rintro e w2 ⟨rfl, rfl⟩) | (go_at_call 99; refine (up_any _ _ _ X1.out N.out).mono ?_; rintro e w2 ⟨rfl, rfl⟩) | (go_at_call 72; refine (least_any _ _ _).mono ?_; rintro e w2 ⟨rfl, hb⟩; have y0 := pair_below (pair_drew (pair_alloc (pair_alloc (pair_new w lo hi _) _) _)) hb; have z0 := pair_below (pair_drew (pair_alloc (pair_new (w.alloc _) 0 0 _) _)) hb; simp only [World.size_alloc] at z0; obtain ⟨g1, g2, g3, g4, g5⟩ := z0; obtain ⟨y1, y2, y3, y4, y5⟩ := y0))
  all_goals
    go_wp2
    refine bodyPost_ret (v := spr (Sp.told _ _)) (by rw [results_cell_tmp rfl]; go_simp) rfl ⟨rfl, ?_⟩
    (repeat' (first | exact Below.refl _ _ | refine bstep ?_ hb | refine Below.setCell ?_ (by simp <;> omega) _ | refine balloc ?_ _ | refine Below.drew ?_ | refine bdrewN ?_ _))
theorem part_no1 (lo hi n : Int) (w : World) (h : Sp.vldB lo hi = false) :
    Calls Try.prog 70 #[spv lo hi, .int .i64 n] w fun e w' => e = .returned (spr ((0, 0), 1)) ∧ Below w.heap.size w w' := by
  go_enter Try.func70, Try.ntmps70
  go_wp2_with fail
  refine (valid_no _ _ _ h).mono ?_
  rintro e w1 ⟨rfl, rfl⟩
  go_wp2
  refine bodyPost_ret (v := spr ((0, 0), 1)) (by rw [results_cell_tmp rfl]; go_simp) rfl ⟨rfl, ?_⟩
  (repeat' (first | exact Below.refl _ _ | refine Below.setCell ?_ (by simp <;> omega) _ | refine balloc ?_ _ | refine Below.drew ?_ | refine bdrewN ?_ _))
theorem part_no2 (lo hi n : Int) (w : World) (h : Sp.vldB lo hi = true) (k : ¬ (1 ≤ n ∧ n ≤ 1099511627776)) :
    Calls Try.prog 70 #[spv lo hi, .int .i64 n] w fun e w' => e = .returned (spr ((0, 0), 1)) ∧ Below w.heap.size w w' := by
  rcases Int.lt_or_le n 1 with h1 | h1
  · clear k
    go_enter Try.func70, Try.ntmps70
    go_wp2_with fail
    refine (valid_yes _ _ _ h).mono ?_
    rintro e w1 ⟨rfl, rfl⟩
    go_wp2
    refine bodyPost_ret (v := spr ((0, 0), 1)) (by rw [results_cell_tmp rfl]; go_simp) rfl ⟨rfl, ?_⟩
    (repeat' (first | exact Below.refl _ _ | refine Below.setCell ?_ (by simp <;> omega) _ | refine balloc ?_ _ | refine Below.drew ?_ | refine bdrewN ?_ _))
  · have h2 : decide (n ≤ 1099511627776) = false := decide_eq_false (by omega)
    clear k
    go_enter Try.func70, Try.ntmps70
    go_wp2_with fail
    refine (valid_yes _ _ _ h).mono ?_
    rintro e w1 ⟨rfl, rfl⟩
    go_wp2
    refine bodyPost_ret (v := spr ((0, 0), 1)) (by rw [results_cell_tmp rfl]; go_simp) rfl ⟨rfl, ?_⟩
    (repeat' (first | exact Below.refl _ _ | refine Below.setCell ?_ (by simp <;> omega) _ | refine balloc ?_ _ | refine Below.drew ?_ | refine bdrewN ?_ _))
theorem part_any (lo hi n : Int) (w : World) :
    Calls Try.prog 70 #[spv lo hi, .int .i64 n] w fun e w' => e = .returned (spr (partR lo hi n)) ∧ Below w.heap.size w w' := by
  unfold partR
  split
  · rename_i q; exact part_yes _ _ _ _ q.1 q.2.1 q.2.2
  · rename_i q
    cases h : Sp.vldB lo hi
    · exact part_no1 _ _ _ _ h
    · exact part_no2 _ _ _ _ h (fun k => q ⟨h, k⟩)
set_option maxRecDepth 100000 in
set_option maxHeartbeats 800000 in
theorem rpart_yes (lo hi n : Int) (w : World) (h : Sp.vldB lo hi = true) (h1 : 1 ≤ n) (h2 : n ≤ 1099511627776) :
    Calls Try.prog 39 #[spv lo hi, .int .i64 n] w fun e w' => e = .returned (spr (Sp.told (Sp.fl lo n) (Sp.ce hi n))) ∧ Below w.heap.size w w' := by
  have q := Sp.vld_iff.1 h
  have X0 : Hid (Sm lo n) := (by unfold Sm; omega : Sm lo n)
  have X1 : Hid (Sm hi n) := (by unfold Sm; omega : Sm hi n)
  have N : Hid (0 < n) := (by omega : 0 < n)
  clear q
  go_enter Try.func39, Try.ntmps39
  go_wp2_with fail
  refine (rvalid_yes _ _ _ h).mono ?_
  rintro e w1 ⟨rfl, rfl⟩
  go_wp2_with fail
  refine (rbetw_yes _ _ _ _ h1 h2).mono ?_
  rintro e w1 ⟨rfl, rfl⟩
  go_wp2_with fail
  go_region_held3 (fun w' => w'.cell? ⟨w.heap.size, 0, none⟩ = some (.int .i64 lo) ∧ w'.cell? ⟨w.heap.size, 1, none⟩ = some (.int .i64 hi))
    (first | go_keep)
    (first | (go_at_call 77; refine (rdown_any _ _ _ X0.out N.out).mono ?_; rintro e w2 ⟨rfl, rfl⟩) | (go_at_call 78; refine (rup_any _ _ _ X1.out N.out).mono ?_; rintro e w2 ⟨rfl, rfl⟩) | (go_at_call 75; refine (told_any _ _ _).mono ?_; rintro e w2 ⟨rfl, hb⟩; have y0 := pair_below (pair_drew (pair_alloc (pair_alloc (pair_new w lo hi _) _) _)) hb; have z0 := pair_below (pair_drew (pair_alloc (pair_new (w.alloc _) 0 0 _) _)) hb; simp only [World.size_alloc] at z0; obtain ⟨g1, g2, g3, g4, g5⟩ := z0; obtain ⟨y1, y2, y3, y4, y5⟩ := y0))
  all_goals
    go_wp2
    refine bodyPost_ret (v := spr (Sp.told _ _)) (by rw [results_cell_tmp rfl]; go_simp) rfl ⟨rfl, ?_⟩
    (repeat' (first | exact Below.refl _ _ | refine bstep ?_ hb | refine Below.setCell ?_ (by simp <;> omega) _ | refine balloc ?_ _ | refine Below.drew ?_ | refine bdrewN ?_ _))
theorem rpart_no1 (lo hi n : Int) (w : World) (h : Sp.vldB lo hi = false) :
    Calls Try.prog 39 #[spv lo hi, .int .i64 n] w fun e w' => e = .returned (spr ((0, 0), 1)) ∧ Below w.heap.size w w' := by
  go_enter Try.func39, Try.ntmps39
  go_wp2_with fail
  refine (rvalid_no _ _ _ h).mono ?_
  rintro e w1 ⟨rfl, rfl⟩
  go_wp2
  refine bodyPost_ret (v := spr ((0, 0), 1)) (by rw [results_cell_tmp rfl]; go_simp) rfl ⟨rfl, ?_⟩
  (repeat' (first | exact Below.refl _ _ | refine Below.setCell ?_ (by simp <;> omega) _ | refine balloc ?_ _ | refine Below.drew ?_ | refine bdrewN ?_ _))
theorem rpart_no2 (lo hi n : Int) (w : World) (h : Sp.vldB lo hi = true) (k : ¬ (1 ≤ n ∧ n ≤ 1099511627776)) :
    Calls Try.prog 39 #[spv lo hi, .int .i64 n] w fun e w' => e = .returned (spr ((0, 0), 1)) ∧ Below w.heap.size w w' := by
  rcases Int.lt_or_le n 1 with h1 | h1
  · clear k
    go_enter Try.func39, Try.ntmps39
    go_wp2_with fail
    refine (rvalid_yes _ _ _ h).mono ?_
    rintro e w1 ⟨rfl, rfl⟩
    go_wp2
    refine bodyPost_ret (v := spr ((0, 0), 1)) (by rw [results_cell_tmp rfl]; go_simp) rfl ⟨rfl, ?_⟩
    (repeat' (first | exact Below.refl _ _ | refine Below.setCell ?_ (by simp <;> omega) _ | refine balloc ?_ _ | refine Below.drew ?_ | refine bdrewN ?_ _))
  · have h2 : decide (n ≤ 1099511627776) = false := decide_eq_false (by omega)
    clear k
    go_enter Try.func39, Try.ntmps39
    go_wp2_with fail
    refine (rvalid_yes _ _ _ h).mono ?_
    rintro e w1 ⟨rfl, rfl⟩
    go_wp2
    refine bodyPost_ret (v := spr ((0, 0), 1)) (by rw [results_cell_tmp rfl]; go_simp) rfl ⟨rfl, ?_⟩
    (repeat' (first | exact Below.refl _ _ | refine Below.setCell ?_ (by simp <;> omega) _ | refine balloc ?_ _ | refine Below.drew ?_ | refine bdrewN ?_ _))
theorem rpart_any (lo hi n : Int) (w : World) :
    Calls Try.prog 39 #[spv lo hi, .int .i64 n] w fun e w' => e = .returned (spr (partR lo hi n)) ∧ Below w.heap.size w w' := by
  unfold partR
  split
  · rename_i q; exact rpart_yes _ _ _ _ q.1 q.2.1 q.2.2
  · rename_i q
    cases h : Sp.vldB lo hi
    · exact rpart_no1 _ _ _ _ h
    · exact rpart_no2 _ _ _ _ h (fun k => q ⟨h, k⟩)

end Go.Proofs.Ytjflgiegnibgmaa
