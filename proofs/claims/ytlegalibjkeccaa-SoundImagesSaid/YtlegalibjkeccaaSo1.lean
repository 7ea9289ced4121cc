/-
  The contracts of the small words of sound: squares, ranges, distances, ticks; in the program and in the document's answer.
-/
import Derived.Test.YtlegalibjkeccaaMo4
import Derived.Test.YtlegalibjkeccaaFiPts
import Derived.Deep.QuietTactic
import Derived.BigQuiet
namespace Go.Proofs.Ytlegalibjkeccaa
open Go.ChangeShapes Go.WideShapes Go.RowKit
open Sh
attribute [local go_sem 1000000] run_min_mn run_max_mx
theorem run_max3' (P : Program) (w : World) (ts : Array TypeId) (t : TypeId) (x y z : Int) : (Builtin.max_ ts t #[.int .i64 x, .int .i64 y, .int .i64 z]).run P w = .ok (.int .i64 (Sp.mx (Sp.mx x y) z)) w := by
  unfold Sp.mx; simp [Builtin.max_, Builtin.max2]
theorem run_min3' (P : Program) (w : World) (ts : Array TypeId) (t : TypeId) (x y z : Int) : (Builtin.min_ ts t #[.int .i64 x, .int .i64 y, .int .i64 z]).run P w = .ok (.int .i64 (Sp.mn (Sp.mn x y) z)) w := by
  unfold Sp.mn; simp [Builtin.min_, Builtin.min2]
attribute [local go_sem high] run_max3' run_min3'
theorem quiet_pure' {P : Program} {f : FuncId} {args : Array Value} {w : World} {n : Nat} {v : Value}
    (h : Calls P f args (w.drewN n) fun e w' => e = .returned v ∧ w.drewN n = w') : Calls P f args (w.drewN n) fun e w'' => e = .returned v ∧ ∃ m, w'' = w.drewN m :=
  h.mono fun _ _ ⟨he, hm⟩ => ⟨he, n, hm.symm⟩
theorem sqr_any (n : Int) (w : World) (h : -4611686018427387904 ≤ n * n ∧ n * n ≤ 4611686018427387904) :
    Calls Try.prog 50 #[.int .i64 n] w fun e w' => e = .returned (.int .i64 (n * n)) ∧ w = w' := by
  obtain ⟨h1, h2⟩ := h
  go_enter Try.func50, Try.ntmps50
  go_wp2
  go_ret
  exact ⟨rfl, rfl⟩
theorem sir_any (n lo hi : Int) (w : World) :
    Calls Try.prog 37 #[.int .i64 n, .int .i64 lo, .int .i64 hi] w fun e w' => e = .returned (.bool (rngB n lo hi)) ∧ w = w' := by
  by_cases h : lo ≤ n
  · by_cases k : n ≤ hi
    · rw [rngB_iff.2 ⟨h, k⟩]
      go_enter Try.func37, Try.ntmps37
      go_wp2
      go_ret
      exact ⟨rfl, rfl⟩
    · rw [rngB_not.2 (fun x => k x.2)]
      have k' : decide (n ≤ hi) = false := decide_eq_false k
      clear k
      go_enter Try.func37, Try.ntmps37
      go_wp2
      go_ret
      exact ⟨rfl, rfl⟩
  · rw [rngB_not.2 (fun x => h x.1)]
    go_enter Try.func37, Try.ntmps37
    go_wp2
    go_ret
    exact ⟨rfl, rfl⟩
theorem rwi8_any (n lo hi : Int) (w : World) :
    Calls Try.prog 39 #[.int .i64 n, .int .i64 lo, .int .i64 hi] w fun e w' => e = .returned (.bool (rngB n lo hi)) ∧ w = w' := by
  by_cases h : lo ≤ n
  · by_cases k : n ≤ hi
    · rw [rngB_iff.2 ⟨h, k⟩]
      go_enter Try.func39, Try.ntmps39
      go_wp2
      go_ret
      exact ⟨rfl, rfl⟩
    · rw [rngB_not.2 (fun x => k x.2)]
      have k' : decide (n ≤ hi) = false := decide_eq_false k
      clear k
      go_enter Try.func39, Try.ntmps39
      go_wp2
      go_ret
      exact ⟨rfl, rfl⟩
  · rw [rngB_not.2 (fun x => h x.1)]
    go_enter Try.func39, Try.ntmps39
    go_wp2
    go_ret
    exact ⟨rfl, rfl⟩
theorem spd_any (n : Int) (w : World) :
    Calls Try.prog 31 #[.int .i64 n] w fun e w' => e = .returned (.bool (rngB n 1 16)) ∧ w = w' := by
  go_enter Try.func31, Try.ntmps31
  go_wp2_with fail
  refine (sir_any _ _ _ _).mono ?_
  rintro e w' ⟨rfl, rfl⟩
  go_wp2
  go_ret
  exact ⟨rfl, rfl⟩
theorem stm_any (k : Int) (a : P3) (w : World) (h : BdP 4611686018427387904 (tim k a)) :
    Calls Try.prog 72 #[.int .i64 k, ptv a] w fun e w' => e = .returned (ptv (tim k a)) ∧ Below w.heap.size w w' := by
  simp only [BdP, tim] at h
  obtain ⟨h1, h2, h3, h4, h5, h6⟩ := h
  go_enter Try.func72, Try.ntmps72
  go_wp2
  refine bodyPost_ret (v := ptv (tim k a)) (by rw [results_cell rfl]; go_simp; exact ⟨rfl, rfl, rfl⟩) rfl ⟨rfl, ?_⟩
  (repeat' (first | exact Below.refl _ _ | refine Below.setCell ?_ (by simp <;> omega) _ | refine balloc ?_ _ | refine Below.drew ?_ | refine bdrewN ?_ _))
theorem ix3_0 (a b c : Int) (w : World) : (Instr.index 71 (.agg #[.int .i64 a, .int .i64 b, .int .i64 c]) (.int .i64 0)).run Try.prog w = .ok (.int .i64 a) w := by kernel_rfl
theorem ix3_1 (a b c : Int) (w : World) : (Instr.index 71 (.agg #[.int .i64 a, .int .i64 b, .int .i64 c]) (.int .i64 1)).run Try.prog w = .ok (.int .i64 b) w := by kernel_rfl
theorem ix3_2 (a b c : Int) (w : World) : (Instr.index 71 (.agg #[.int .i64 a, .int .i64 b, .int .i64 c]) (.int .i64 2)).run Try.prog w = .ok (.int .i64 c) w := by kernel_rfl
set_option maxHeartbeats 1000000 in
theorem lis_any (a : P3) (w : World) : Calls Try.prog 30 #[ptv a] w fun e w' => e = .returned (.bool (inP 256 a)) ∧ Below w.heap.size w w' := by
  have E : inP 256 a = (rngB a.1 (-256) 256 && (rngB a.2.1 (-256) 256 && rngB a.2.2 (-256) 256)) := by
    unfold inP rngB
    rw [Bool.eq_iff_iff]
    simp only [decide_eq_true_eq, Bool.and_eq_true]
    constructor
    · rintro ⟨h1, h2, h3, h4, h5, h6⟩; exact ⟨⟨h1, h2⟩, ⟨h3, h4⟩, h5, h6⟩
    · rintro ⟨⟨h1, h2⟩, ⟨h3, h4⟩, h5, h6⟩; exact ⟨h1, h2, h3, h4, h5, h6⟩
  rw [E]
  clear E
  have x0 := ix3_0 a.1 a.2.1 a.2.2
  have x1 := ix3_1 a.1 a.2.1 a.2.2
  have x2 := ix3_2 a.1 a.2.1 a.2.2
  cases h0 : rngB a.1 (-256) 256 with
  | false =>
    have R0 := Lib.hid (fun W => (h0 ▸ sir_any a.1 (-256) 256 W : Calls Try.prog 37 #[.int .i64 a.1, .int .i64 (-256), .int .i64 256] W fun e w' => e = .returned (.bool false) ∧ W = w'))
    clear h0
    go_enter Try.func30, Try.ntmps30
    go_wp2
    refine wp_loop_rounds 4 ?_
    rw [rounds_succ]
    go_wp2_with fail
    with_reducible refine (R0.out _).mono ?_
    rintro e w1 ⟨rfl, rfl⟩
    go_wp2
    go_ret
    exact ⟨rfl, by (repeat' (first | exact Below.refl _ _ | refine Below.setCell ?_ (by simp <;> omega) _ | refine balloc ?_ _ | refine Below.drew ?_ | refine bdrewN ?_ _))⟩
  | true =>
    cases h1 : rngB a.2.1 (-256) 256 with
    | false =>
      have R0 := Lib.hid (fun W => (h0 ▸ sir_any a.1 (-256) 256 W : Calls Try.prog 37 #[.int .i64 a.1, .int .i64 (-256), .int .i64 256] W fun e w' => e = .returned (.bool true) ∧ W = w'))
      have R1 := Lib.hid (fun W => (h1 ▸ sir_any a.2.1 (-256) 256 W : Calls Try.prog 37 #[.int .i64 a.2.1, .int .i64 (-256), .int .i64 256] W fun e w' => e = .returned (.bool false) ∧ W = w'))
      clear h0 h1
      go_enter Try.func30, Try.ntmps30
      go_wp2
      refine wp_loop_rounds 4 ?_
      rw [rounds_succ]
      go_wp2_with fail
      with_reducible refine (R0.out _).mono ?_
      rintro e w1 ⟨rfl, rfl⟩
      go_wp2
      rw [rounds_succ]
      go_wp2_with fail
      with_reducible refine (R1.out _).mono ?_
      rintro e w1 ⟨rfl, rfl⟩
      go_wp2
      go_ret
      exact ⟨rfl, by (repeat' (first | exact Below.refl _ _ | refine Below.setCell ?_ (by simp <;> omega) _ | refine balloc ?_ _ | refine Below.drew ?_ | refine bdrewN ?_ _))⟩
    | true =>
      cases h2 : rngB a.2.2 (-256) 256 with
      | false =>
        have R0 := Lib.hid (fun W => (h0 ▸ sir_any a.1 (-256) 256 W : Calls Try.prog 37 #[.int .i64 a.1, .int .i64 (-256), .int .i64 256] W fun e w' => e = .returned (.bool true) ∧ W = w'))
        have R1 := Lib.hid (fun W => (h1 ▸ sir_any a.2.1 (-256) 256 W : Calls Try.prog 37 #[.int .i64 a.2.1, .int .i64 (-256), .int .i64 256] W fun e w' => e = .returned (.bool true) ∧ W = w'))
        have R2 := Lib.hid (fun W => (h2 ▸ sir_any a.2.2 (-256) 256 W : Calls Try.prog 37 #[.int .i64 a.2.2, .int .i64 (-256), .int .i64 256] W fun e w' => e = .returned (.bool false) ∧ W = w'))
        clear h0 h1 h2
        go_enter Try.func30, Try.ntmps30
        go_wp2
        refine wp_loop_rounds 4 ?_
        rw [rounds_succ]
        go_wp2_with fail
        with_reducible refine (R0.out _).mono ?_
        rintro e w1 ⟨rfl, rfl⟩
        go_wp2
        rw [rounds_succ]
        go_wp2_with fail
        with_reducible refine (R1.out _).mono ?_
        rintro e w1 ⟨rfl, rfl⟩
        go_wp2
        rw [rounds_succ]
        go_wp2_with fail
        with_reducible refine (R2.out _).mono ?_
        rintro e w1 ⟨rfl, rfl⟩
        go_wp2
        go_ret
        exact ⟨rfl, by (repeat' (first | exact Below.refl _ _ | refine Below.setCell ?_ (by simp <;> omega) _ | refine balloc ?_ _ | refine Below.drew ?_ | refine bdrewN ?_ _))⟩
      | true =>
        have R0 := Lib.hid (fun W => (h0 ▸ sir_any a.1 (-256) 256 W : Calls Try.prog 37 #[.int .i64 a.1, .int .i64 (-256), .int .i64 256] W fun e w' => e = .returned (.bool true) ∧ W = w'))
        have R1 := Lib.hid (fun W => (h1 ▸ sir_any a.2.1 (-256) 256 W : Calls Try.prog 37 #[.int .i64 a.2.1, .int .i64 (-256), .int .i64 256] W fun e w' => e = .returned (.bool true) ∧ W = w'))
        have R2 := Lib.hid (fun W => (h2 ▸ sir_any a.2.2 (-256) 256 W : Calls Try.prog 37 #[.int .i64 a.2.2, .int .i64 (-256), .int .i64 256] W fun e w' => e = .returned (.bool true) ∧ W = w'))
        clear h0 h1 h2
        go_enter Try.func30, Try.ntmps30
        go_wp2
        refine wp_loop_rounds 4 ?_
        rw [rounds_succ]
        go_wp2_with fail
        with_reducible refine (R0.out _).mono ?_
        rintro e w1 ⟨rfl, rfl⟩
        go_wp2
        rw [rounds_succ]
        go_wp2_with fail
        with_reducible refine (R1.out _).mono ?_
        rintro e w1 ⟨rfl, rfl⟩
        go_wp2
        rw [rounds_succ]
        go_wp2_with fail
        with_reducible refine (R2.out _).mono ?_
        rintro e w1 ⟨rfl, rfl⟩
        go_wp2
        rw [rounds_succ]
        go_wp2
        go_ret
        exact ⟨rfl, by (repeat' (first | exact Below.refl _ _ | refine Below.setCell ?_ (by simp <;> omega) _ | refine balloc ?_ _ | refine Below.drew ?_ | refine bdrewN ?_ _))⟩
theorem sq_pos' (n : Int) : 0 ≤ n * n := by
  rw [← Int.natAbs_mul_self]; exact Int.natCast_nonneg _
theorem sd_bd {a b : P3} {L : Int} (h : BdP L (sub a b)) (hL : L ≤ 1000000000) : (-4611686018427387904 ≤ (a.1 - b.1) * (a.1 - b.1) ∧ (a.1 - b.1) * (a.1 - b.1) ≤ 4611686018427387904) ∧ (-4611686018427387904 ≤ (a.2.1 - b.2.1) * (a.2.1 - b.2.1) ∧ (a.2.1 - b.2.1) * (a.2.1 - b.2.1) ≤ 4611686018427387904) ∧ (-4611686018427387904 ≤ (a.2.2 - b.2.2) * (a.2.2 - b.2.2) ∧ (a.2.2 - b.2.2) * (a.2.2 - b.2.2) ≤ 4611686018427387904) ∧ 0 ≤ sq (sub a b) ∧ sq (sub a b) ≤ 3000000000000000000 ∧ (a.1 - b.1) * (a.1 - b.1) ≤ 1000000000000000000 ∧ (a.2.1 - b.2.1) * (a.2.1 - b.2.1) ≤ 1000000000000000000 ∧ (a.2.2 - b.2.2) * (a.2.2 - b.2.2) ≤ 1000000000000000000 ∧ 0 ≤ (a.1 - b.1) * (a.1 - b.1) ∧ 0 ≤ (a.2.1 - b.2.1) * (a.2.1 - b.2.1) ∧ 0 ≤ (a.2.2 - b.2.2) * (a.2.2 - b.2.2) := by
  have h := h.mono hL
  obtain ⟨h1, h2, h3, h4, h5, h6⟩ := h
  have x := mul_bd h1 h2 h1 h2
  have y := mul_bd h3 h4 h3 h4
  have z := mul_bd h5 h6 h5 h6
  have x0 := sq_pos' (sub a b).1
  have y0 := sq_pos' (sub a b).2.1
  have z0 := sq_pos' (sub a b).2.2
  unfold sq dot
  simp only [sub] at *
  generalize (a.1 - b.1) * (a.1 - b.1) = p at *
  generalize (a.2.1 - b.2.1) * (a.2.1 - b.2.1) = q at *
  generalize (a.2.2 - b.2.2) * (a.2.2 - b.2.2) = r at *
  omega
set_option maxRecDepth 100000 in
set_option maxHeartbeats 1000000 in
theorem sdist_any (a b : P3) (w : World) (h : BdP 1000000000 (sub a b)) :
    Calls Try.prog 33 #[ptv a, ptv b] w fun e w' => e = .returned (.int .i64 (sq (sub a b))) ∧ Below w.heap.size w w' := by
  have k := sd_bd h (Int.le_refl _)
  simp only [BdP, sub] at h
  obtain ⟨h1, h2, h3, h4, h5, h6⟩ := h
  obtain ⟨k1, k2, k3, k4, k5, k6, k7, k8, k9, k10, k11⟩ := k
  have S1 := Lib.hid (fun W => sqr_any (a.1 - b.1) W k1)
  have S2 := Lib.hid (fun W => sqr_any (a.2.1 - b.2.1) W k2)
  have S3 := Lib.hid (fun W => sqr_any (a.2.2 - b.2.2) W k3)
  rw [show sq (sub a b) = (a.1 - b.1) * (a.1 - b.1) + (a.2.1 - b.2.1) * (a.2.1 - b.2.1) + (a.2.2 - b.2.2) * (a.2.2 - b.2.2) from rfl] at *
  clear k1 k2 k3
  generalize (a.1 - b.1) * (a.1 - b.1) = x at *
  generalize (a.2.1 - b.2.1) * (a.2.1 - b.2.1) = y at *
  generalize (a.2.2 - b.2.2) * (a.2.2 - b.2.2) = z at *
  go_enter Try.func33, Try.ntmps33
  go_wp2_with fail
  go_quiet ((go_at_call 50; first | exact quiet_pure' (S1.out _) | exact quiet_pure' (S2.out _) | exact quiet_pure' (S3.out _)))
  go_wp2
  go_ret
  exact ⟨rfl, by (repeat' (first | exact Below.refl _ _ | refine Below.setCell ?_ (by simp <;> omega) _ | refine balloc ?_ _ | refine Below.drew ?_ | refine bdrewN ?_ _))⟩
/-- the smallest and the greatest of three, and the number between them that is nearest to n -/
def lo3' (a b c : Int) : Int := Sp.mn (Sp.mn a b) c
def hi3' (a b c : Int) : Int := Sp.mx (Sp.mx a b) c
def nst (n a b c : Int) : Int := Sp.mn (Sp.mx n (lo3' a b c)) (hi3' a b c)
theorem nst_any (n a b c : Int) (w : World) : Calls Try.prog 56 #[.int .i64 n, .int .i64 a, .int .i64 b, .int .i64 c] w fun e w' => e = .returned (.int .i64 (nst n a b c)) ∧ w = w' := by
  unfold nst lo3' hi3'
  go_enter Try.func56, Try.ntmps56
  go_wp2
  go_ret
  exact ⟨rfl, rfl⟩
/-- the point of the box of a panel that is nearest to x -/
def inbox (t : P9) (x : P3) : P3 := (nst x.1 t.1.1 t.2.1.1 t.2.2.1, nst x.2.1 t.1.2.1 t.2.1.2.1 t.2.2.2.1, nst x.2.2 t.1.2.2 t.2.1.2.2 t.2.2.2.2)
/-- the squared distance of x and the box of a panel, and of x and the farthest corner -/
def nearN (t : P9) (x : P3) : Int := sq (sub x (inbox t x))
def farN (t : P9) (x : P3) : Int := hi3' (sq (sub t.1 x)) (sq (sub t.2.1 x)) (sq (sub t.2.2 x))
theorem nst_bd {B n a b c : Int} (h1 : -B ≤ a ∧ a ≤ B) (h2 : -B ≤ b ∧ b ≤ B) (h3 : -B ≤ c ∧ c ≤ B) : -B ≤ nst n a b c ∧ nst n a b c ≤ B := by
  unfold nst lo3' hi3' Sp.mn Sp.mx
  (repeat' split) <;> omega
theorem inbox_bd {B : Int} {t : P9} {x : P3} (h : BdT B t) : BdP B (inbox t x) := by
  obtain ⟨⟨a1, a2, a3, a4, a5, a6⟩, ⟨b1, b2, b3, b4, b5, b6⟩, ⟨c1, c2, c3, c4, c5, c6⟩⟩ := h
  have u := nst_bd (n := x.1) ⟨a1, a2⟩ ⟨b1, b2⟩ ⟨c1, c2⟩
  have y := nst_bd (n := Prod.fst x.2) ⟨a3, a4⟩ ⟨b3, b4⟩ ⟨c3, c4⟩
  have z := nst_bd (n := Prod.snd x.2) ⟨a5, a6⟩ ⟨b5, b6⟩ ⟨c5, c6⟩
  exact ⟨u.1, u.2, y.1, y.2, z.1, z.2⟩
theorem keep9 {a b c d e f g h i j k l : Prop} (x : a ∧ b ∧ c ∧ d ∧ e ∧ f ∧ g ∧ h ∧ i) (y : j ∧ k ∧ l) : a ∧ b ∧ c ∧ d ∧ e ∧ f ∧ g ∧ h ∧ i ∧ j ∧ k ∧ l :=
  ⟨x.1, x.2.1, x.2.2.1, x.2.2.2.1, x.2.2.2.2.1, x.2.2.2.2.2.1, x.2.2.2.2.2.2.1, x.2.2.2.2.2.2.2.1, x.2.2.2.2.2.2.2.2, y⟩
set_option maxRecDepth 100000 in
set_option maxHeartbeats 1000000 in
theorem sfar_any (t : P9) (x : P3) (w : World) (h : BdT 500000000 t) (k : BdP 500000000 x) :
    Calls Try.prog 48 #[pnv t.1 t.2.1 t.2.2, ptv x] w fun e w' => e = .returned (.int .i64 (farN t x)) ∧ Below w.heap.size w w' := by
  have H1 := Lib.hid ((sub_bd h.1 k).mono (B := 1000000000) (by decide))
  have H2 := Lib.hid ((sub_bd h.2.1 k).mono (B := 1000000000) (by decide))
  have H3 := Lib.hid ((sub_bd h.2.2 k).mono (B := 1000000000) (by decide))
  unfold farN hi3'
  clear h k
  go_enter Try.func48, Try.ntmps48
  go_wp2_with fail
  have i0 := (pan_drew (pan_alloc (pan_new w t.1 t.2.1 t.2.2 25) (.cells #[.int .i64 x.1, .int .i64 x.2.1, .int .i64 x.2.2] 23)))
  have i1 := (own_drew (own_new (w.alloc (.cells #[.int .i64 t.1.1, .int .i64 t.1.2.1, .int .i64 t.1.2.2, .int .i64 t.2.1.1, .int .i64 t.2.1.2.1, .int .i64 t.2.1.2.2, .int .i64 t.2.2.1, .int .i64 t.2.2.2.1, .int .i64 t.2.2.2.2] 25)) x 23))
  simp only [World.size_alloc] at i1
  go_region_held3 (fun w' => w'.cell? ⟨w.heap.size, 0, none⟩ = some (.int .i64 t.1.1) ∧ w'.cell? ⟨w.heap.size, 1, none⟩ = some (.int .i64 t.1.2.1) ∧ w'.cell? ⟨w.heap.size, 2, none⟩ = some (.int .i64 t.1.2.2) ∧ w'.cell? ⟨w.heap.size, 3, none⟩ = some (.int .i64 t.2.1.1) ∧ w'.cell? ⟨w.heap.size, 4, none⟩ = some (.int .i64 t.2.1.2.1) ∧ w'.cell? ⟨w.heap.size, 5, none⟩ = some (.int .i64 t.2.1.2.2) ∧ w'.cell? ⟨w.heap.size, 6, none⟩ = some (.int .i64 t.2.2.1) ∧ w'.cell? ⟨w.heap.size, 7, none⟩ = some (.int .i64 t.2.2.2.1) ∧ w'.cell? ⟨w.heap.size, 8, none⟩ = some (.int .i64 t.2.2.2.2) ∧ w'.cell? ⟨w.heap.size + 1, 0, none⟩ = some (.int .i64 x.1) ∧ w'.cell? ⟨w.heap.size + 1, 1, none⟩ = some (.int .i64 x.2.1) ∧ w'.cell? ⟨w.heap.size + 1, 2, none⟩ = some (.int .i64 x.2.2))
    (first | (refine keep9 (pan_cells ?_) (own_cells ?_) <;> assumption) | (refine keep9 (pan_cells ?_) (own_cells ?_) <;> (refine pan_set ?_ (by omega); refine pan_set ?_ (by omega); refine pan_set ?_ (by omega); assumption)))
    (first | (go_at_call 33; (with_reducible refine (sdist_any t.1 x _ H1.out).mono ?_); rintro e v0 ⟨rfl, hv0⟩; have q0_0 := pan_below i0 hv0; have q0_1 := own_below i1 hv0) | (go_at_call 33; (with_reducible refine (sdist_any t.2.1 x _ H2.out).mono ?_); rintro e v1 ⟨rfl, hv1⟩; have q1_0 := pan_below q0_0 hv1; have q1_1 := own_below q0_1 hv1) | (go_at_call 33; (with_reducible refine (sdist_any t.2.2 x _ H3.out).mono ?_); rintro e v2 ⟨rfl, hv2⟩; have q2_0 := pan_below q1_0 hv2; have q2_1 := own_below q1_1 hv2))
  all_goals
    go_wp2
    go_ret
    exact ⟨rfl, by (repeat' (first | exact Below.refl _ _ | refine bstep ?_ hv0 | refine bstep ?_ hv1 | refine bstep ?_ hv2 | refine Below.setCell ?_ (by simp <;> omega) _ | refine balloc ?_ _ | refine Below.drew ?_ | refine bdrewN ?_ _))⟩
set_option maxRecDepth 100000 in
set_option maxHeartbeats 2000000 in
theorem snear_any (t : P9) (x : P3) (w : World) (h : BdT 500000000 t) (k : BdP 500000000 x) :
    Calls Try.prog 45 #[pnv t.1 t.2.1 t.2.2, ptv x] w fun e w' => e = .returned (.int .i64 (nearN t x)) ∧ Below w.heap.size w w' := by
  have H := Lib.hid ((sub_bd k (inbox_bd (x := x) h)).mono (B := 1000000000) (by decide))
  have SDI := Lib.hid (fun W => sdist_any x (inbox t x) W H.out)
  unfold nearN
  clear h k
  go_enter Try.func45, Try.ntmps45
  go_wp2_with fail
  have N0 := pan_drew (pan_alloc (pan_new w t.1 t.2.1 t.2.2 25) (ptc x 23))
  have N1 := own_drew (own_new (w.alloc (pnc t.1 t.2.1 t.2.2 25)) x 23)
  simp only [World.size_alloc] at N1
  have M0 := pan_alloc (pan_new w t.1 t.2.1 t.2.2 25) (ptc x 23)
  have M1 := own_new (w.alloc (pnc t.1 t.2.1 t.2.2 25)) x 23
  simp only [World.size_alloc] at M1
  go_region_held3 (fun w' => w'.cell? ⟨w.heap.size, 0, none⟩ = some (.int .i64 t.1.1) ∧ w'.cell? ⟨w.heap.size, 1, none⟩ = some (.int .i64 t.1.2.1) ∧ w'.cell? ⟨w.heap.size, 2, none⟩ = some (.int .i64 t.1.2.2) ∧ w'.cell? ⟨w.heap.size, 3, none⟩ = some (.int .i64 t.2.1.1) ∧ w'.cell? ⟨w.heap.size, 4, none⟩ = some (.int .i64 t.2.1.2.1) ∧ w'.cell? ⟨w.heap.size, 5, none⟩ = some (.int .i64 t.2.1.2.2) ∧ w'.cell? ⟨w.heap.size, 6, none⟩ = some (.int .i64 t.2.2.1) ∧ w'.cell? ⟨w.heap.size, 7, none⟩ = some (.int .i64 t.2.2.2.1) ∧ w'.cell? ⟨w.heap.size, 8, none⟩ = some (.int .i64 t.2.2.2.2) ∧ w'.cell? ⟨w.heap.size + 1, 0, none⟩ = some (.int .i64 x.1) ∧ w'.cell? ⟨w.heap.size + 1, 1, none⟩ = some (.int .i64 x.2.1) ∧ w'.cell? ⟨w.heap.size + 1, 2, none⟩ = some (.int .i64 x.2.2))
    (refine keep9 (pan_cells ?_) (own_cells ?_) <;> (repeat (first | with_reducible assumption | with_reducible refine pan_drew ?_ | with_reducible refine pan_alloc ?_ _ | with_reducible refine own_drew ?_ | with_reducible refine own_alloc ?_ _ | with_reducible refine pan_set ?_ (by omega) | with_reducible refine own_set ?_ (by omega))))
    (first | (go_at_call 56; (with_reducible refine (nst_any _ _ _ _ _).mono ?_); rintro e v ⟨rfl, rfl⟩) | fail)
  all_goals
    obtain ⟨n0, n1, n2, _, _, _, _⟩ := N1
    unfold inbox at SDI
    go_wp2_with fail
    refine (SDI.out _).mono ?_
    rintro e w9 ⟨rfl, hb⟩
    go_wp2
    go_ret
    exact ⟨rfl, by (repeat' (first | exact Below.refl _ _ | refine bstep ?_ hb | refine Below.setCell ?_ (by simp <;> omega) _ | refine balloc ?_ _ | refine Below.drew ?_ | refine bdrewN ?_ _))⟩

end Go.Proofs.Ytlegalibjkeccaa
