/-
  The contracts of checkSeen and average.
-/
import Derived.Test.YtjigcgpcglfjfaaFg10
namespace Go.Proofs.Ytjigcgpcglfjfaa
open Go.ChangeShapes Go.WideShapes Go.RowKit
open Sh
set_option maxHeartbeats 1000000 in
theorem may_any (a : P3) (w : World) : Calls Try.prog 129 #[ptv a] w fun e w' => e = .returned (.bool (inP 256 a)) ∧ Below w.heap.size w w' := by
  have E : inP 256 a = (rngB a.1 (-256) 256 && (rngB a.2.1 (-256) 256 && rngB a.2.2 (-256) 256)) := by
    unfold inP rngB
    rw [Bool.eq_iff_iff]
    simp only [decide_eq_true_eq, Bool.and_eq_true]
    constructor
    · rintro ⟨h1, h2, h3, h4, h5, h6⟩; exact ⟨⟨h1, h2⟩, ⟨h3, h4⟩, h5, h6⟩
    · rintro ⟨⟨h1, h2⟩, ⟨h3, h4⟩, h5, h6⟩; exact ⟨h1, h2, h3, h4, h5, h6⟩
  rw [E]
  clear E
  have x0 := ix3_0 a.1 a.2.1 a.2.2
  have x1 := ix3_1 a.1 a.2.1 a.2.2
  have x2 := ix3_2 a.1 a.2.1 a.2.2
  cases h0 : rngB a.1 (-256) 256 with
  | false =>
    have R0 := Lib.hid (fun W => (h0 ▸ finr_any a.1 (-256) 256 W : Calls Try.prog 78 #[.int .i64 a.1, .int .i64 (-256), .int .i64 256] W fun e w' => e = .returned (.bool false) ∧ W = w'))
    clear h0
    go_enter Try.func129, Try.ntmps129
    go_wp2
    refine wp_loop_rounds 4 ?_
    rw [rounds_succ]
    go_wp2_with fail
    with_reducible refine (R0.out _).mono ?_
    rintro e w1 ⟨rfl, rfl⟩
    go_wp2
    go_ret
    exact ⟨rfl, by (repeat' (first | exact Below.refl _ _ | refine Below.setCell ?_ (by simp <;> omega) _ | refine balloc ?_ _ | refine Below.drew ?_ | refine bdrewN ?_ _))⟩
  | true =>
    cases h1 : rngB a.2.1 (-256) 256 with
    | false =>
      have R0 := Lib.hid (fun W => (h0 ▸ finr_any a.1 (-256) 256 W : Calls Try.prog 78 #[.int .i64 a.1, .int .i64 (-256), .int .i64 256] W fun e w' => e = .returned (.bool true) ∧ W = w'))
      have R1 := Lib.hid (fun W => (h1 ▸ finr_any a.2.1 (-256) 256 W : Calls Try.prog 78 #[.int .i64 a.2.1, .int .i64 (-256), .int .i64 256] W fun e w' => e = .returned (.bool false) ∧ W = w'))
      clear h0 h1
      go_enter Try.func129, Try.ntmps129
      go_wp2
      refine wp_loop_rounds 4 ?_
      rw [rounds_succ]
      go_wp2_with fail
      with_reducible refine (R0.out _).mono ?_
      rintro e w1 ⟨rfl, rfl⟩
      go_wp2
      rw [rounds_succ]
      go_wp2_with fail
      with_reducible refine (R1.out _).mono ?_
      rintro e w1 ⟨rfl, rfl⟩
      go_wp2
      go_ret
      exact ⟨rfl, by (repeat' (first | exact Below.refl _ _ | refine Below.setCell ?_ (by simp <;> omega) _ | refine balloc ?_ _ | refine Below.drew ?_ | refine bdrewN ?_ _))⟩
    | true =>
      cases h2 : rngB a.2.2 (-256) 256 with
      | false =>
        have R0 := Lib.hid (fun W => (h0 ▸ finr_any a.1 (-256) 256 W : Calls Try.prog 78 #[.int .i64 a.1, .int .i64 (-256), .int .i64 256] W fun e w' => e = .returned (.bool true) ∧ W = w'))
        have R1 := Lib.hid (fun W => (h1 ▸ finr_any a.2.1 (-256) 256 W : Calls Try.prog 78 #[.int .i64 a.2.1, .int .i64 (-256), .int .i64 256] W fun e w' => e = .returned (.bool true) ∧ W = w'))
        have R2 := Lib.hid (fun W => (h2 ▸ finr_any a.2.2 (-256) 256 W : Calls Try.prog 78 #[.int .i64 a.2.2, .int .i64 (-256), .int .i64 256] W fun e w' => e = .returned (.bool false) ∧ W = w'))
        clear h0 h1 h2
        go_enter Try.func129, Try.ntmps129
        go_wp2
        refine wp_loop_rounds 4 ?_
        rw [rounds_succ]
        go_wp2_with fail
        with_reducible refine (R0.out _).mono ?_
        rintro e w1 ⟨rfl, rfl⟩
        go_wp2
        rw [rounds_succ]
        go_wp2_with fail
        with_reducible refine (R1.out _).mono ?_
        rintro e w1 ⟨rfl, rfl⟩
        go_wp2
        rw [rounds_succ]
        go_wp2_with fail
        with_reducible refine (R2.out _).mono ?_
        rintro e w1 ⟨rfl, rfl⟩
        go_wp2
        go_ret
        exact ⟨rfl, by (repeat' (first | exact Below.refl _ _ | refine Below.setCell ?_ (by simp <;> omega) _ | refine balloc ?_ _ | refine Below.drew ?_ | refine bdrewN ?_ _))⟩
      | true =>
        have R0 := Lib.hid (fun W => (h0 ▸ finr_any a.1 (-256) 256 W : Calls Try.prog 78 #[.int .i64 a.1, .int .i64 (-256), .int .i64 256] W fun e w' => e = .returned (.bool true) ∧ W = w'))
        have R1 := Lib.hid (fun W => (h1 ▸ finr_any a.2.1 (-256) 256 W : Calls Try.prog 78 #[.int .i64 a.2.1, .int .i64 (-256), .int .i64 256] W fun e w' => e = .returned (.bool true) ∧ W = w'))
        have R2 := Lib.hid (fun W => (h2 ▸ finr_any a.2.2 (-256) 256 W : Calls Try.prog 78 #[.int .i64 a.2.2, .int .i64 (-256), .int .i64 256] W fun e w' => e = .returned (.bool true) ∧ W = w'))
        clear h0 h1 h2
        go_enter Try.func129, Try.ntmps129
        go_wp2
        refine wp_loop_rounds 4 ?_
        rw [rounds_succ]
        go_wp2_with fail
        with_reducible refine (R0.out _).mono ?_
        rintro e w1 ⟨rfl, rfl⟩
        go_wp2
        rw [rounds_succ]
        go_wp2_with fail
        with_reducible refine (R1.out _).mono ?_
        rintro e w1 ⟨rfl, rfl⟩
        go_wp2
        rw [rounds_succ]
        go_wp2_with fail
        with_reducible refine (R2.out _).mono ?_
        rintro e w1 ⟨rfl, rfl⟩
        go_wp2
        rw [rounds_succ]
        go_wp2
        go_ret
        exact ⟨rfl, by (repeat' (first | exact Below.refl _ _ | refine Below.setCell ?_ (by simp <;> omega) _ | refine balloc ?_ _ | refine Below.drew ?_ | refine bdrewN ?_ _))⟩
theorem cka_false (x : P3) (D : Int) (w : World) (M : Hid (∀ W, Calls Try.prog 129 #[ptv x] W fun e w' => e = .returned (.bool false) ∧ Below W.heap.size W w')) : Calls Try.prog 62 #[ptv x, .int .i64 D] w fun e w' => e = .returned (.int .i64 1) ∧ Below w.heap.size w w' := by
  go_enter Try.func62, Try.ntmps62
  go_wp2_with fail
  refine (M.out _).mono ?_
  rintro e w1 ⟨rfl, hb1⟩
  go_wp2
  go_ret
  exact ⟨rfl, by (repeat' (first | exact Below.refl _ _ | refine bstep ?_ hb1 | refine Below.setCell ?_ (by simp <;> omega) _ | refine balloc ?_ _ | refine Below.drew ?_ | refine bdrewN ?_ _))⟩
theorem cka_true_true (x : P3) (D : Int) (w : World) (M : Hid (∀ W, Calls Try.prog 129 #[ptv x] W fun e w' => e = .returned (.bool true) ∧ Below W.heap.size W w')) (I : Hid (∀ W, Calls Try.prog 78 #[.int .i64 D, .int .i64 0, .int .i64 3] W fun e w' => e = .returned (.bool true) ∧ W = w')) : Calls Try.prog 62 #[ptv x, .int .i64 D] w fun e w' => e = .returned (.int .i64 0) ∧ Below w.heap.size w w' := by
  go_enter Try.func62, Try.ntmps62
  go_wp2_with fail
  refine (M.out _).mono ?_
  rintro e w1 ⟨rfl, hb1⟩
  go_wp2_with fail
  refine (I.out _).mono ?_
  rintro e w2 ⟨rfl, rfl⟩
  go_wp2
  go_ret
  exact ⟨rfl, by (repeat' (first | exact Below.refl _ _ | refine bstep ?_ hb1 | refine Below.setCell ?_ (by simp <;> omega) _ | refine balloc ?_ _ | refine Below.drew ?_ | refine bdrewN ?_ _))⟩
theorem cka_true_false (x : P3) (D : Int) (w : World) (M : Hid (∀ W, Calls Try.prog 129 #[ptv x] W fun e w' => e = .returned (.bool true) ∧ Below W.heap.size W w')) (I : Hid (∀ W, Calls Try.prog 78 #[.int .i64 D, .int .i64 0, .int .i64 3] W fun e w' => e = .returned (.bool false) ∧ W = w')) : Calls Try.prog 62 #[ptv x, .int .i64 D] w fun e w' => e = .returned (.int .i64 1) ∧ Below w.heap.size w w' := by
  go_enter Try.func62, Try.ntmps62
  go_wp2_with fail
  refine (M.out _).mono ?_
  rintro e w1 ⟨rfl, hb1⟩
  go_wp2_with fail
  refine (I.out _).mono ?_
  rintro e w2 ⟨rfl, rfl⟩
  go_wp2
  go_ret
  exact ⟨rfl, by (repeat' (first | exact Below.refl _ _ | refine bstep ?_ hb1 | refine Below.setCell ?_ (by simp <;> omega) _ | refine balloc ?_ _ | refine Below.drew ?_ | refine bdrewN ?_ _))⟩
theorem cka_any (x : P3) (D : Int) (w : World) : Calls Try.prog 62 #[ptv x, .int .i64 D] w fun e w' => e = .returned (.int .i64 (akc x D)) ∧ Below w.heap.size w w' := by
  have M := fun W => may_any x W
  have I := fun W => finr_any D 0 3 W
  unfold akc
  cases h : inP 256 x with
  | true =>
    rw [h] at M
    cases k : rngB D 0 3 with
    | true => rw [k] at I; exact cka_true_true x D w (Lib.hid M) (Lib.hid I)
    | false => rw [k] at I; exact cka_true_false x D w (Lib.hid M) (Lib.hid I)
  | false => rw [h] at M; exact cka_false x D w (Lib.hid M)
theorem cks_no (t : P9) (x : P3) (D pc : Int) (w : World) (V : Hid (∀ W, Calls Try.prog 97 #[p9v t] W fun e w' => e = .returned (.int .i64 pc) ∧ Below W.heap.size W w')) (z : (pc != 0) = true) :
    Calls Try.prog 77 #[p9v t, ptv x, .int .i64 D] w fun e w' => e = .returned (.int .i64 pc) ∧ Below w.heap.size w w' := by
  obtain ⟨a, b, c⟩ := t
  go_enter Try.func77, Try.ntmps77
  go_wp2_with fail
  refine (V.out _).mono ?_
  rintro e w1 ⟨rfl, hb1⟩
  go_wp2
  go_ret
  exact ⟨rfl, by (repeat' (first | exact Below.refl _ _ | refine bstep ?_ hb1 | refine Below.setCell ?_ (by simp <;> omega) _ | refine balloc ?_ _ | refine Below.drew ?_ | refine bdrewN ?_ _))⟩
theorem cks_yes (t : P9) (x : P3) (D ac : Int) (w : World) (V : Hid (∀ W, Calls Try.prog 97 #[p9v t] W fun e w' => e = .returned (.int .i64 0) ∧ Below W.heap.size W w')) (K : Hid (∀ W, Calls Try.prog 62 #[ptv x, .int .i64 D] W fun e w' => e = .returned (.int .i64 ac) ∧ Below W.heap.size W w')) :
    Calls Try.prog 77 #[p9v t, ptv x, .int .i64 D] w fun e w' => e = .returned (.int .i64 ac) ∧ Below w.heap.size w w' := by
  obtain ⟨a, b, c⟩ := t
  have O0 := own_new (w.alloc (pnc a b c 25)) x 23
  simp only [World.size_alloc] at O0
  go_enter Try.func77, Try.ntmps77
  go_wp2_with fail
  refine (V.out _).mono ?_
  rintro e w1 ⟨rfl, hb1⟩
  obtain ⟨o0, o1, o2, _⟩ := own_below O0 hb1
  go_wp2_with fail
  refine (K.out _).mono ?_
  rintro e w2 ⟨rfl, hb2⟩
  go_wp2
  go_ret
  exact ⟨rfl, by (repeat' (first | exact Below.refl _ _ | refine bstep ?_ hb2 | refine bstep ?_ hb1 | refine Below.setCell ?_ (by simp <;> omega) _ | refine balloc ?_ _ | refine Below.drew ?_ | refine bdrewN ?_ _))⟩
theorem cks_any (t : P9) (x : P3) (D : Int) (w : World) : Calls Try.prog 77 #[p9v t, ptv x, .int .i64 D] w fun e w' => e = .returned (.int .i64 (snc t x D)) ∧ Below w.heap.size w w' := by
  have V := fun W => vp_any t.1 t.2.1 t.2.2 W
  unfold snc
  by_cases z : pcode t.1 t.2.1 t.2.2 = 0
  · rw [if_pos z]
    rw [z] at V
    exact cks_yes t x D _ w (Lib.hid V) (Lib.hid fun W => cka_any x D W)
  · rw [if_neg z]
    exact cks_no t x D _ w (Lib.hid V) (bne_iff_ne.2 z)
theorem sm_pos9 {f : Nat → Int} {B : Int} : ∀ {n : Nat}, (∀ k, k < n → 0 ≤ f k ∧ f k ≤ B) → 0 ≤ sm f n ∧ sm f n ≤ (n : Int) * B
  | 0, _ => by show (0 : Int) ≤ 0 ∧ (0 : Int) ≤ (0 : Nat) * B; omega
  | n + 1, h => by
    obtain ⟨h1, h2⟩ := sm_pos9 (n := n) fun k hk => h k (by omega)
    obtain ⟨h3, h4⟩ := h n (by omega)
    show 0 ≤ sm f n + f n ∧ sm f n + f n ≤ ((n + 1 : Nat) : Int) * B
    rw [Int.natCast_succ, Int.add_mul]
    omega
theorem tdiv_pos9 {x d : Int} (h : 0 ≤ x) : x.tdiv d = x / d := Int.tdiv_eq_ediv_of_nonneg h
set_option maxRecDepth 100000 in
set_option maxHeartbeats 2000000 in
theorem gavg_any (d m e : Nat) (bl bh : P3) (sc : Int) (kv : Value) (q n c : Nat) (gs : List (Nat × P9)) (f h : Nat → Int) (w : World) (r : RowGs w q n gs) (hn0 : 0 < n) (hn : n ≤ 1000) (hf : ∀ k, k < n → 0 ≤ f k ∧ f k ≤ 1000000000) (hh : ∀ k, k < n → 0 ≤ h k ∧ h k ≤ 1000000000)
    (CL : Hid (∀ k, k < n → ∀ W, Below w.heap.size w W → Calls Try.prog 110 #[vwv d m e bl bh sc kv, grv (gA gs k).1 3 3 (loN (P3F (gA gs k).2) 3) (hiN (P3F (gA gs k).2) 3)] W fun e w' => e = .returned (.int .i64 (f k)) ∧ Below W.heap.size W w')) (CH : Hid (∀ k, k < n → ∀ W, Below w.heap.size w W → Calls Try.prog 111 #[vwv d m e bl bh sc kv, grv (gA gs k).1 3 3 (loN (P3F (gA gs k).2) 3) (hiN (P3F (gA gs k).2) 3)] W fun e w' => e = .returned (.int .i64 (h k)) ∧ Below W.heap.size W w')) :
    Calls Try.prog 109 #[.slice (some ⟨q, 0, none⟩) n c, .func (.func 110) #[vwv d m e bl bh sc kv] #[], .func (.func 111) #[vwv d m e bl bh sc kv] #[]] w fun e w' => e = .returned (.agg #[.int .i64 (sm f n / (n : Int)), .int .i64 ((sm h n + (n : Int) - 1) / (n : Int))]) ∧ Below w.heap.size w w' := by
  have bd {g : Nat → Int} (hg : ∀ k, k < n → 0 ≤ g k ∧ g k ≤ 1000000000) : ∀ k, k ≤ n → 0 ≤ sm g k ∧ sm g k ≤ 1000000000000 := fun k hk => by
    have := sm_pos9 (n := k) fun i hi => hg i (by omega)
    have : (k : Int) * 1000000000 ≤ 1000 * 1000000000 := Int.mul_le_mul_of_nonneg_right (by omega) (by decide)
    omega
  have SL := Lib.hid (fun (W : World) (B : Below w.heap.size w W) => gsl_any d m e bl bh sc kv q n c gs f W (rowgs_in r B) hn (Lib.hid fun k hk W' B' => CL.out k hk W' (Below.trans B (B'.mono B.size))) (Lib.hid fun k hk => by have := bd hf k hk; omega))
  have SH := Lib.hid (fun (W : World) (B : Below w.heap.size w W) => gsh_any d m e bl bh sc kv q n c gs h W (rowgs_in r B) hn (Lib.hid fun k hk W' B' => CH.out k hk W' (Below.trans B (B'.mono B.size))) (Lib.hid fun k hk => by have := bd hh k hk; omega))
  obtain ⟨f1, f2⟩ := bd hf n (Nat.le_refl _)
  obtain ⟨h1, h2⟩ := bd hh n (Nat.le_refl _)
  have n1 : (0 : Int) < (n : Int) := by omega
  have n2 : (n : Int) ≤ 1000 := by omega
  have n3 : ¬ ((n : Int) = 0) := by omega
  have q1 : sm f n / (n : Int) ≤ sm f n := Int.ediv_le_self _ f1
  have q0 : 0 ≤ sm f n / (n : Int) := Int.ediv_nonneg f1 (by omega)
  have q3 : (sm h n + (n : Int) - 1) / (n : Int) ≤ sm h n + (n : Int) - 1 := Int.ediv_le_self _ (by omega)
  have q2 : 0 ≤ (sm h n + (n : Int) - 1) / (n : Int) := Int.ediv_nonneg (by omega) (by omega)
  have d1 := tdiv_pos9 (x := sm f n) (d := (n : Int)) f1
  have d2 := tdiv_pos9 (x := sm h n + (n : Int) - 1) (d := (n : Int)) (by omega)
  clear r CL CH hf hh bd
  generalize sm f n = x at *
  generalize sm h n = y at *
  generalize x / (n : Int) = xq at *
  generalize (y + (n : Int) - 1) / (n : Int) = yq at *
  have w1 : IntKind.i64.wrap (y + (n : Int)) = y + (n : Int) := IntWalk.i64_in _ (by omega)
  have w2 : IntKind.i64.wrap (y + (n : Int) - 1) = y + (n : Int) - 1 := IntWalk.i64_in _ (by omega)
  have w3 : IntKind.i64.wrap xq = xq := IntWalk.i64_in _ (by omega)
  have w4 : IntKind.i64.wrap yq = yq := IntWalk.i64_in _ (by omega)
  have P0 : OwP (w.alloc (.cells #[.int .i64 0, .int .i64 0] 35)).drew w.heap.size (0, 0) := owp_new w (0, 0) 35
  have BW : Below w.heap.size w (w.alloc (.cells #[.int .i64 0, .int .i64 0] 35)).drew := Below.drew (balloc (Below.refl _ _) _)
  have A1 := Lib.hid (SL.out _ BW)
  go_enter Try.func109, Try.ntmps109
  go_wp2_with fail
  go_region_with (first
    | (go_at_call 156; (with_reducible refine A1.out.mono ?_); rintro e v0 ⟨rfl, hv0⟩; have p1 := owp_below P0 hv0; have b1 := bstep BW hv0; have A2 := Lib.hid (SH.out _ b1))
    | (go_at_call 156; (with_reducible refine A2.out.mono ?_); rintro e v1 ⟨rfl, hv1⟩; obtain ⟨o0, o1, o2, o3, o4⟩ := owp_below p1 hv1; have b2 := bstep b1 hv1))
  all_goals
    go_wp2
    (try simp only [w1, w2, w3, w4, d1, d2])
    refine bodyPost_ret (v := .agg #[.int .i64 xq, .int .i64 yq]) (by rw [results_cell rfl]; go_simp) rfl ⟨rfl, ?_⟩
    (repeat' (first | with_reducible exact b2 | (with_reducible refine Below.setCell ?_ (by simp <;> omega) _)))

end Go.Proofs.Ytjigcgpcglfjfaa
