/-
  The contracts of Least, in the program and in the document's answer; the law FieldLeasts: its walk.
-/
import Derived.Test.YtjigcgpcglfjfaaFgMe
namespace Go.Proofs.Ytjigcgpcglfjfaa
open Go.ChangeShapes Go.WideShapes Go.RowKit
open Sh
theorem results_tctt {fn : Func} {s p u v : Tmp} {ty : TypeId} (h : fn.results = #[.tmp s, .cell p ty, .tmp u, .tmp v]) (tmps : Array Value) (P : Program) (w : World) :
    (results fn tmps).run P w =
      ((asAddr (tmps.getD p undef)).run P w).andThen fun a w₁ => ((loadVar ty a).run P w₁).andThen fun x w₂ => .ok (.tuple #[tmps.getD s undef, x, tmps.getD u undef, tmps.getD v undef]) w₂ := by
  simp only [results, h]
  simp [Sem.run_bind, Result.andThen]
/-- what Least answers -/
abbrev LR := Int × (Int × Int) × Bool × Int
abbrev lrv (r : LR) : Value := .tuple #[.int .i64 r.1, .agg #[.int .i64 r.2.1.1, .int .i64 r.2.1.2], .bool r.2.2.1, .int .i64 r.2.2.2]
def nrw (f : Nat → Sp.R) (wd : Int) (k : Nat) : Prop := (f k).2 = 0 ∧ (f k).1.2 - (f k).1.1 ≤ wd
instance (f : Nat → Sp.R) (wd : Int) (k : Nat) : Decidable (nrw f wd k) := inferInstanceAs (Decidable (_ ∧ _))
def lstA (f : Nat → Sp.R) (wd : Int) : LR := if nrw f wd 0 then (0, (f 0).1, true, 0) else if nrw f wd 1 then (1, (f 1).1, true, 0) else if nrw f wd 2 then (2, (f 2).1, true, 0) else if nrw f wd 3 then (3, (f 3).1, true, 0) else (0, (0, 0), false, 0)
theorem lstA_hit {f : Nat → Sp.R} {wd : Int} {k : Nat} (h4 : k < 4) (hk : nrw f wd k) (hn : ∀ j, j < k → ¬ nrw f wd j) : lstA f wd = ((k : Int), (f k).1, true, 0) := by
  unfold lstA
  have : k = 0 ∨ k = 1 ∨ k = 2 ∨ k = 3 := by omega
  rcases this with rfl | rfl | rfl | rfl
  · rw [if_pos hk]; rfl
  · rw [if_neg (hn 0 (by decide)), if_pos hk]; rfl
  · rw [if_neg (hn 0 (by decide)), if_neg (hn 1 (by decide)), if_pos hk]; rfl
  · rw [if_neg (hn 0 (by decide)), if_neg (hn 1 (by decide)), if_neg (hn 2 (by decide)), if_pos hk]; rfl
theorem lstA_no {f : Nat → Sp.R} {wd : Int} (hn : ∀ j, j < 4 → ¬ nrw f wd j) : lstA f wd = (0, (0, 0), false, 0) := by
  unfold lstA
  rw [if_neg (hn 0 (by decide)), if_neg (hn 1 (by decide)), if_neg (hn 2 (by decide)), if_neg (hn 3 (by decide))]
def lstF (t : P9) (x : P3) (wd : Int) : LR := if snc t x 0 = 0 then (if rngB wd 0 1099511627776 then lstA (fun k => mnF false t x k) wd else (0, (0, 0), false, 1)) else (0, (0, 0), false, snc t x 0)
theorem div_ptn {D a : Int} (h0 : 0 ≤ D) (h3 : D ≤ 3) (a0 : 0 ≤ a) (a1 : a ≤ (ptn D : Int) * 1000000000) : 0 ≤ a / (ptn D : Int) ∧ a / (ptn D : Int) ≤ 1000000000 ∧ 0 ≤ (a + (ptn D : Int) - 1) / (ptn D : Int) ∧ (a + (ptn D : Int) - 1) / (ptn D : Int) ≤ 1000000000 := by
  have hd : D.toNat = 0 ∨ D.toNat = 1 ∨ D.toNat = 2 ∨ D.toNat = 3 := by omega
  have hv : ptn D = 1 ∨ ptn D = 4 ∨ ptn D = 16 ∨ ptn D = 64 := by
    unfold ptn
    rcases hd with e | e | e | e <;> rw [e] <;> decide
  rcases hv with e | e | e | e <;> rw [e] at a1 ⊢ <;> omega
theorem mnF_bd {c : Bool} {t : P9} {x : P3} {D : Int} (h : snc t x D = 0) (z : (mnF c t x D).2 = 0) : (0 ≤ (mnF c t x D).1.1 ∧ (mnF c t x D).1.1 ≤ 1000000000) ∧ 0 ≤ (mnF c t x D).1.2 ∧ (mnF c t x D).1.2 ≤ 1000000000 := by
  obtain ⟨hB, hx, d0, d3⟩ := snc_ok h
  obtain ⟨sw, s1, s2⟩ := scl_vals d0 d3
  have hy := tim_bd hx s1 s2
  unfold mnF at z ⊢
  cases nz : anyz (ptd t D x) (ptn D) with
  | true => rw [nz] at z; simp at z
  | false =>
    simp only [Bool.false_eq_true, if_false]
    have val : ∀ m : Int, 1 ≤ m → m ≤ 19660800 → 0 ≤ (kV c m (scl D)).1.1 ∧ (kV c m (scl D)).1.1 ≤ (kV c m (scl D)).1.2 ∧ (kV c m (scl D)).1.2 ≤ 1000000000 := fun m m1 m2 => by
      obtain ⟨r, u, e, h1, h2⟩ := kV_val c m1 (by omega : m ≤ 1099511627776) s1 s2
      rw [e]
      show 0 ≤ (r : Int) ∧ (r : Int) ≤ (u : Int) ∧ (u : Int) ≤ 1000000000
      omega
    have nf : ∀ k, k < ptn D → 1 ≤ ptd t D x k ∧ ptd t D x k ≤ ptf t D x k ∧ ptf t D x k ≤ 19660800 := fun k hk => by
      have z1 := anyz_no nz k hk
      have z2 : 0 ≤ ptd t D x k := near_nn _ _
      have z3 : ptd t D x k ≤ ptf t D x k := near_far _ _
      have z4 : ptf t D x k ≤ 19660800 := far_bd9 (ptk_bd9 hB d0 d3 hk) hy
      omega
    have sl := sm_pos9 (f := mLo c t D x) (B := 1000000000) (n := ptn D) fun k hk => by
      obtain ⟨a1, a2, a3⟩ := nf k hk
      have := val (ptf t D x k) (by omega) a3
      exact ⟨this.1, by unfold mLo; omega⟩
    have su := sm_pos9 (f := mHi c t D x) (B := 1000000000) (n := ptn D) fun k hk => by
      obtain ⟨a1, a2, a3⟩ := nf k hk
      have := val (ptd t D x k) (by omega) (by omega)
      exact ⟨by unfold mHi; omega, this.2.2⟩
    have dl := div_ptn d0 d3 sl.1 sl.2
    have du := div_ptn d0 d3 su.1 su.2
    exact ⟨⟨dl.1, dl.2.1⟩, du.2.2.1, du.2.2.2⟩
theorem snc_le {t : P9} {x : P3} (h : snc t x 0 = 0) {D : Int} (d0 : 0 ≤ D) (d3 : D ≤ 3) : snc t x D = 0 := by
  unfold snc at h ⊢
  by_cases z : pcode t.1 t.2.1 t.2.2 = 0
  · rw [if_pos z] at h ⊢
    have := (akc_ok h).1
    unfold akc
    rw [inP_iff.2 this, rngB_iff.2 ⟨d0, d3⟩]
    rfl
  · rw [if_neg z] at h
    exact absurd h z
set_option maxRecDepth 100000 in
theorem flst_no (t : P9) (x : P3) (wd pc : Int) (w : World) (V : Hid (∀ W, Calls Try.prog 77 #[pnv t.1 t.2.1 t.2.2, ptv x, .int .i64 0] W fun e w' => e = .returned (.int .i64 pc) ∧ Below W.heap.size W w')) (z : (pc != 0) = true) : Calls Try.prog 31 #[pnv t.1 t.2.1 t.2.2, ptv x, .int .i64 wd] w fun e w' => e = .returned (lrv (0, (0, 0), false, pc)) ∧ Below w.heap.size w w' := by
  have P0 := Lib.hid (pan_alloc (pan_alloc (pan_new w t.1 t.2.1 t.2.2 25) (ptc x 23)) (.cells #[.int .i64 0, .int .i64 0] 35))
  have X0 := Lib.hid (own_alloc (own_new (w.alloc (pnc t.1 t.2.1 t.2.2 25)) x 23) (.cells #[.int .i64 0, .int .i64 0] 35))
  have Z0 := Lib.hid (owp_new ((w.alloc (pnc t.1 t.2.1 t.2.2 25)).alloc (ptc x 23)) (0, 0) 35)
  simp only [World.size_alloc] at X0 Z0
  have B0 := Lib.hid (show Below w.heap.size w (((w.alloc (pnc t.1 t.2.1 t.2.2 25)).alloc (ptc x 23)).alloc (.cells #[.int .i64 0, .int .i64 0] 35)) by (repeat' (first | exact Below.refl _ _ | refine Below.setCell ?_ (by simp <;> omega) _ | refine balloc ?_ _ | refine Below.drew ?_ | refine bdrewN ?_ _)))
  go_enter Try.func31, Try.ntmps31
  go_wp2_with fail
  with_reducible refine (V.out _).mono ?_
  rintro e w1 ⟨rfl, hb1⟩
  have P1 := Lib.hid (pan_below P0.out hb1)
  have X1 := Lib.hid (own_below X0.out hb1)
  have Z1 := Lib.hid (owp_below Z0.out hb1)
  have B1 := Lib.hid (bstep B0.out hb1)
  clear P0 X0 Z0 B0 hb1
  obtain ⟨o0, o1, o2, o3, o4⟩ := Z1.out
  have hB := B1.out
  go_wp2
  refine bodyPost_ret (v := lrv (0, (0, 0), false, pc)) (by rw [results_tctt rfl]; go_simp) rfl ⟨rfl, ?_⟩
  (repeat' (first | with_reducible exact hB | with_reducible refine Below.drew ?_ | (with_reducible refine Below.setCell ?_ (by simp <;> omega) _)))
set_option maxRecDepth 100000 in
theorem flst_rng (t : P9) (x : P3) (wd : Int) (w : World) (V : Hid (∀ W, Calls Try.prog 77 #[pnv t.1 t.2.1 t.2.2, ptv x, .int .i64 0] W fun e w' => e = .returned (.int .i64 0) ∧ Below W.heap.size W w')) (I : Hid (∀ W, Calls Try.prog 78 #[.int .i64 wd, .int .i64 0, .int .i64 1099511627776] W fun e w' => e = .returned (.bool false) ∧ W = w')) : Calls Try.prog 31 #[pnv t.1 t.2.1 t.2.2, ptv x, .int .i64 wd] w fun e w' => e = .returned (lrv (0, (0, 0), false, 1)) ∧ Below w.heap.size w w' := by
  have P0 := Lib.hid (pan_alloc (pan_alloc (pan_new w t.1 t.2.1 t.2.2 25) (ptc x 23)) (.cells #[.int .i64 0, .int .i64 0] 35))
  have X0 := Lib.hid (own_alloc (own_new (w.alloc (pnc t.1 t.2.1 t.2.2 25)) x 23) (.cells #[.int .i64 0, .int .i64 0] 35))
  have Z0 := Lib.hid (owp_new ((w.alloc (pnc t.1 t.2.1 t.2.2 25)).alloc (ptc x 23)) (0, 0) 35)
  simp only [World.size_alloc] at X0 Z0
  have B0 := Lib.hid (show Below w.heap.size w (((w.alloc (pnc t.1 t.2.1 t.2.2 25)).alloc (ptc x 23)).alloc (.cells #[.int .i64 0, .int .i64 0] 35)) by (repeat' (first | exact Below.refl _ _ | refine Below.setCell ?_ (by simp <;> omega) _ | refine balloc ?_ _ | refine Below.drew ?_ | refine bdrewN ?_ _)))
  go_enter Try.func31, Try.ntmps31
  go_wp2_with fail
  with_reducible refine (V.out _).mono ?_
  rintro e w1 ⟨rfl, hb1⟩
  have P1 := Lib.hid (pan_below P0.out hb1)
  have X1 := Lib.hid (own_below X0.out hb1)
  have Z1 := Lib.hid (owp_below Z0.out hb1)
  have B1 := Lib.hid (bstep B0.out hb1)
  clear P0 X0 Z0 B0 hb1
  obtain ⟨o0, o1, o2, o3, o4⟩ := Z1.out
  have hB := B1.out
  go_wp2_with fail
  refine (I.out _).mono ?_
  rintro e w2 ⟨rfl, rfl⟩
  go_wp2
  refine bodyPost_ret (v := lrv (0, (0, 0), false, 1)) (by rw [results_tctt rfl]; go_simp) rfl ⟨rfl, ?_⟩
  (repeat' (first | with_reducible exact hB | with_reducible refine Below.drew ?_ | (with_reducible refine Below.setCell ?_ (by simp <;> omega) _)))
set_option maxRecDepth 100000 in
set_option maxHeartbeats 4000000 in
theorem flst_ok (t : P9) (x : P3) (wd : Int) (f : Nat → Sp.R) (w : World) (V : Hid (∀ W, Calls Try.prog 77 #[pnv t.1 t.2.1 t.2.2, ptv x, .int .i64 0] W fun e w' => e = .returned (.int .i64 0) ∧ Below W.heap.size W w')) (I : Hid (∀ W, Calls Try.prog 78 #[.int .i64 wd, .int .i64 0, .int .i64 1099511627776] W fun e w' => e = .returned (.bool true) ∧ W = w')) (w0 : 0 ≤ wd) (w1 : wd ≤ 1099511627776)
    (M : Hid (∀ k : Nat, k < 4 → ∀ W, Calls Try.prog 16 #[pnv t.1 t.2.1 t.2.2, ptv x, .int .i64 k] W fun e w' => e = .returned (spr (f k)) ∧ Below W.heap.size W w'))
    (FB : Hid (∀ k, k < 4 → (f k).2 = 0 → (0 ≤ (f k).1.1 ∧ (f k).1.1 ≤ 1000000000) ∧ 0 ≤ (f k).1.2 ∧ (f k).1.2 ≤ 1000000000)) : Calls Try.prog 31 #[pnv t.1 t.2.1 t.2.2, ptv x, .int .i64 wd] w fun e w' => e = .returned (lrv (lstA f wd)) ∧ Below w.heap.size w w' := by
  have HH := Lib.hid (fun k (h4 : k < 4) (hk : nrw f wd k) (hn : ∀ j, j < k → ¬ nrw f wd j) => lstA_hit h4 hk hn)
  have HN := Lib.hid (fun (hn : ∀ j, j < 4 → ¬ nrw f wd j) => lstA_no hn)
  obtain ⟨res, hres⟩ : ∃ r, lstA f wd = r := ⟨_, rfl⟩
  rw [hres] at HH HN ⊢
  clear hres
  have P0 := Lib.hid (pan_alloc (pan_alloc (pan_new w t.1 t.2.1 t.2.2 25) (ptc x 23)) (.cells #[.int .i64 0, .int .i64 0] 35))
  have X0 := Lib.hid (own_alloc (own_new (w.alloc (pnc t.1 t.2.1 t.2.2 25)) x 23) (.cells #[.int .i64 0, .int .i64 0] 35))
  have Z0 := Lib.hid (owp_new ((w.alloc (pnc t.1 t.2.1 t.2.2 25)).alloc (ptc x 23)) (0, 0) 35)
  simp only [World.size_alloc] at X0 Z0
  have B0 := Lib.hid (show Below w.heap.size w (((w.alloc (pnc t.1 t.2.1 t.2.2 25)).alloc (ptc x 23)).alloc (.cells #[.int .i64 0, .int .i64 0] 35)) by (repeat' (first | exact Below.refl _ _ | refine Below.setCell ?_ (by simp <;> omega) _ | refine balloc ?_ _ | refine Below.drew ?_ | refine bdrewN ?_ _)))
  go_enter Try.func31, Try.ntmps31
  go_wp2_with fail
  with_reducible refine (V.out _).mono ?_
  rintro e w1 ⟨rfl, hb1⟩
  have P1 := Lib.hid (pan_below P0.out hb1)
  have X1 := Lib.hid (own_below X0.out hb1)
  have Z1 := Lib.hid (owp_below Z0.out hb1)
  have B1 := Lib.hid (bstep B0.out hb1)
  clear P0 X0 Z0 B0 hb1
  go_wp2_with fail
  refine (I.out _).mono ?_
  rintro e w2 ⟨rfl, rfl⟩
  go_wp2_with fail
  go_loopw [25] (fun kv wr => ∃ k : Nat, k ≤ 4 ∧ kv = .int .i64 k ∧ (∀ j, j < k → ¬ nrw f wd j) ∧ Below w1.heap.size w1 wr) (fun kv _ => 4 - (intOf kv).toNat)
  case atStart => exact ⟨0, by omega, rfl, fun j h => absurd h (Nat.not_lt_zero j), Below.refl _ _⟩
  case round =>
    obtain ⟨k, hk, rfl, hn, BB⟩ := hrel
    have NN := Lib.hid hn
    have B2 := Lib.hid BB
    clear hn BB
    have Z2 := Lib.hid (owp_below Z1.out B2.out)
    by_cases hlt : k < 4
    · have hk1 : (k : Int) < 4 := by omega
      have hk0 : 0 ≤ (k : Int) := by omega
      obtain ⟨k0, k1, k2, k3, k4, k5, k6, k7, k8, k9⟩ := pan_below P1.out B2.out
      obtain ⟨x0, x1, x2, x3, x4, x5, x6⟩ := own_below X1.out B2.out
      have Mk := Lib.hid (M.out k hlt)
      have Fk := Lib.hid (FB.out k hlt)
      have Hk := Lib.hid (HH.out k hlt)
      have Dk := Lib.hid (show nrw f wd k ↔ (f k).2 = 0 ∧ (f k).1.2 - (f k).1.1 ≤ wd from Iff.rfl)
      generalize f k = r at *
      obtain ⟨⟨lo, hi⟩, c⟩ := r
      dsimp only at Fk
      go_wp2_with fail
      with_reducible refine (Mk.out _).mono ?_
      rintro e w3 ⟨rfl, hb3⟩
      have O3 := Lib.hid (owp_new w3 (lo, hi) 35)
      have Z3 := Lib.hid (owp_alloc (owp_below Z2.out hb3) (.cells #[.int .i64 lo, .int .i64 hi] 35))
      have B3 := Lib.hid (balloc (bstep B2.out hb3) (.cells #[.int .i64 lo, .int .i64 hi] 35))
      clear k0 k1 k2 k3 k4 k5 k6 k7 k8 k9 x0 x1 x2 x3 x4 x5 x6 hb3
      by_cases z : c = 0
      · obtain ⟨⟨b1, b2⟩, b3, b4⟩ := Fk.out z
        obtain ⟨o0, o1, o2, o3, o4⟩ := O3.out
        by_cases y : hi - lo ≤ wd
        · have hr := Hk.out (Dk.out.2 ⟨z, y⟩) NN.out
          subst hr
          subst z
          obtain ⟨q0, q1, q2, q3, q4⟩ := Z3.out
          have hB := bstep B1.out B3.out
          go_wp2_with fail
          go_region
          all_goals
            go_wp2
            refine bodyPost_ret (v := lrv ((k : Int), (lo, hi), true, 0)) (by rw [results_tctt rfl]; go_simp) rfl ⟨rfl, ?_⟩
            (repeat' (first | with_reducible exact hB | with_reducible refine Below.drew ?_ | (with_reducible refine Below.setCell ?_ (by simp <;> omega) _)))
        · have y' : decide (hi - lo ≤ wd) = false := decide_eq_false y
          have nn : ∀ j, j < k + 1 → ¬ nrw f wd j := fun j hj h => by
            by_cases e : j = k
            · subst e; exact y (Dk.out.1 h).2
            · exact NN.out j (by omega) h
          have NN' := Lib.hid nn
          clear nn y
          subst z
          go_wp2_with fail
          go_roundw
          case rel => exact ⟨k + 1, by omega, by go_num, NN'.out, B3.out⟩
          case measure => simp [intOf]; omega
      · have z1 : (c == 0) = false := beq_eq_false_iff_ne.2 z
        have nn : ∀ j, j < k + 1 → ¬ nrw f wd j := fun j hj h => by
          by_cases e : j = k
          · subst e; exact z (Dk.out.1 h).1
          · exact NN.out j (by omega) h
        have NN' := Lib.hid nn
        clear nn
        go_wp2_with fail
        go_roundw
        case rel => exact ⟨k + 1, by omega, by go_num, NN'.out, B3.out⟩
        case measure => simp [intOf]; omega
    · obtain rfl : k = 4 := by omega
      have hr := HN.out NN.out
      subst hr
      obtain ⟨q0, q1, q2, q3, q4⟩ := Z2.out
      have hB := bstep B1.out B2.out
      go_wp2
      refine bodyPost_ret (v := lrv (0, (0, 0), false, 0)) (by rw [results_tctt rfl]; go_simp) rfl ⟨rfl, ?_⟩
      (repeat' (first | with_reducible exact hB | with_reducible refine Below.drew ?_ | (with_reducible refine Below.setCell ?_ (by simp <;> omega) _)))
theorem flst_any (t : P9) (x : P3) (wd : Int) (w : World) : Calls Try.prog 31 #[pnv t.1 t.2.1 t.2.2, ptv x, .int .i64 wd] w fun e w' => e = .returned (lrv (lstF t x wd)) ∧ Below w.heap.size w w' := by
  have V := fun W => cks_any t x 0 W
  have I := fun W => finr_any wd 0 1099511627776 W
  unfold lstF
  by_cases h : snc t x 0 = 0
  · rw [if_pos h]
    rw [h] at V
    cases k : rngB wd 0 1099511627776 with
    | true =>
      rw [k] at I
      have hk := rngB_iff.1 k
      exact flst_ok t x wd _ w (Lib.hid V) (Lib.hid I) hk.1 hk.2 (Lib.hid fun k hk W => by
        have z := snc_le h (D := (k : Int)) (by omega) (by omega)
        have y := meani_any t x (k : Int) W
        unfold meF at y
        rw [if_pos z] at y
        exact y) (Lib.hid fun k hk z => mnF_bd (snc_le h (by omega) (by omega)) z)
    | false =>
      rw [k] at I
      exact flst_rng t x wd w (Lib.hid V) (Lib.hid I)
  · rw [if_neg h]
    exact flst_no t x wd _ w (Lib.hid V) (bne_iff_ne.2 h)
set_option maxRecDepth 100000 in
theorem rlst_no (t : P9) (x : P3) (wd pc : Int) (w : World) (V : Hid (∀ W, Calls Try.prog 51 #[pnv t.1 t.2.1 t.2.2, ptv x, .int .i64 0] W fun e w' => e = .returned (.int .i64 pc) ∧ Below W.heap.size W w')) (z : (pc != 0) = true) : Calls Try.prog 32 #[pnv t.1 t.2.1 t.2.2, ptv x, .int .i64 wd] w fun e w' => e = .returned (lrv (0, (0, 0), false, pc)) ∧ Below w.heap.size w w' := by
  have P0 := Lib.hid (pan_alloc (pan_alloc (pan_new w t.1 t.2.1 t.2.2 25) (ptc x 23)) (.cells #[.int .i64 0, .int .i64 0] 35))
  have X0 := Lib.hid (own_alloc (own_new (w.alloc (pnc t.1 t.2.1 t.2.2 25)) x 23) (.cells #[.int .i64 0, .int .i64 0] 35))
  have Z0 := Lib.hid (owp_new ((w.alloc (pnc t.1 t.2.1 t.2.2 25)).alloc (ptc x 23)) (0, 0) 35)
  simp only [World.size_alloc] at X0 Z0
  have B0 := Lib.hid (show Below w.heap.size w (((w.alloc (pnc t.1 t.2.1 t.2.2 25)).alloc (ptc x 23)).alloc (.cells #[.int .i64 0, .int .i64 0] 35)) by (repeat' (first | exact Below.refl _ _ | refine Below.setCell ?_ (by simp <;> omega) _ | refine balloc ?_ _ | refine Below.drew ?_ | refine bdrewN ?_ _)))
  go_enter Try.func32, Try.ntmps32
  go_wp2_with fail
  with_reducible refine (V.out _).mono ?_
  rintro e w1 ⟨rfl, hb1⟩
  have P1 := Lib.hid (pan_below P0.out hb1)
  have X1 := Lib.hid (own_below X0.out hb1)
  have Z1 := Lib.hid (owp_below Z0.out hb1)
  have B1 := Lib.hid (bstep B0.out hb1)
  clear P0 X0 Z0 B0 hb1
  obtain ⟨o0, o1, o2, o3, o4⟩ := Z1.out
  have hB := B1.out
  go_wp2
  refine bodyPost_ret (v := lrv (0, (0, 0), false, pc)) (by rw [results_tctt rfl]; go_simp) rfl ⟨rfl, ?_⟩
  (repeat' (first | with_reducible exact hB | with_reducible refine Below.drew ?_ | (with_reducible refine Below.setCell ?_ (by simp <;> omega) _)))
set_option maxRecDepth 100000 in
theorem rlst_rng (t : P9) (x : P3) (wd : Int) (w : World) (V : Hid (∀ W, Calls Try.prog 51 #[pnv t.1 t.2.1 t.2.2, ptv x, .int .i64 0] W fun e w' => e = .returned (.int .i64 0) ∧ Below W.heap.size W w')) (I : Hid (∀ W, Calls Try.prog 47 #[.int .i64 wd, .int .i64 0, .int .i64 1099511627776] W fun e w' => e = .returned (.bool false) ∧ W = w')) : Calls Try.prog 32 #[pnv t.1 t.2.1 t.2.2, ptv x, .int .i64 wd] w fun e w' => e = .returned (lrv (0, (0, 0), false, 1)) ∧ Below w.heap.size w w' := by
  have P0 := Lib.hid (pan_alloc (pan_alloc (pan_new w t.1 t.2.1 t.2.2 25) (ptc x 23)) (.cells #[.int .i64 0, .int .i64 0] 35))
  have X0 := Lib.hid (own_alloc (own_new (w.alloc (pnc t.1 t.2.1 t.2.2 25)) x 23) (.cells #[.int .i64 0, .int .i64 0] 35))
  have Z0 := Lib.hid (owp_new ((w.alloc (pnc t.1 t.2.1 t.2.2 25)).alloc (ptc x 23)) (0, 0) 35)
  simp only [World.size_alloc] at X0 Z0
  have B0 := Lib.hid (show Below w.heap.size w (((w.alloc (pnc t.1 t.2.1 t.2.2 25)).alloc (ptc x 23)).alloc (.cells #[.int .i64 0, .int .i64 0] 35)) by (repeat' (first | exact Below.refl _ _ | refine Below.setCell ?_ (by simp <;> omega) _ | refine balloc ?_ _ | refine Below.drew ?_ | refine bdrewN ?_ _)))
  go_enter Try.func32, Try.ntmps32
  go_wp2_with fail
  with_reducible refine (V.out _).mono ?_
  rintro e w1 ⟨rfl, hb1⟩
  have P1 := Lib.hid (pan_below P0.out hb1)
  have X1 := Lib.hid (own_below X0.out hb1)
  have Z1 := Lib.hid (owp_below Z0.out hb1)
  have B1 := Lib.hid (bstep B0.out hb1)
  clear P0 X0 Z0 B0 hb1
  obtain ⟨o0, o1, o2, o3, o4⟩ := Z1.out
  have hB := B1.out
  go_wp2_with fail
  refine (I.out _).mono ?_
  rintro e w2 ⟨rfl, rfl⟩
  go_wp2
  refine bodyPost_ret (v := lrv (0, (0, 0), false, 1)) (by rw [results_tctt rfl]; go_simp) rfl ⟨rfl, ?_⟩
  (repeat' (first | with_reducible exact hB | with_reducible refine Below.drew ?_ | (with_reducible refine Below.setCell ?_ (by simp <;> omega) _)))
set_option maxRecDepth 100000 in
set_option maxHeartbeats 4000000 in
theorem rlst_ok (t : P9) (x : P3) (wd : Int) (f : Nat → Sp.R) (w : World) (V : Hid (∀ W, Calls Try.prog 51 #[pnv t.1 t.2.1 t.2.2, ptv x, .int .i64 0] W fun e w' => e = .returned (.int .i64 0) ∧ Below W.heap.size W w')) (I : Hid (∀ W, Calls Try.prog 47 #[.int .i64 wd, .int .i64 0, .int .i64 1099511627776] W fun e w' => e = .returned (.bool true) ∧ W = w')) (w0 : 0 ≤ wd) (w1 : wd ≤ 1099511627776)
    (M : Hid (∀ k : Nat, k < 4 → ∀ W, Calls Try.prog 52 #[pnv t.1 t.2.1 t.2.2, ptv x, .int .i64 k, .bool false] W fun e w' => e = .returned (spr (f k)) ∧ Below W.heap.size W w'))
    (FB : Hid (∀ k, k < 4 → (f k).2 = 0 → (0 ≤ (f k).1.1 ∧ (f k).1.1 ≤ 1000000000) ∧ 0 ≤ (f k).1.2 ∧ (f k).1.2 ≤ 1000000000)) : Calls Try.prog 32 #[pnv t.1 t.2.1 t.2.2, ptv x, .int .i64 wd] w fun e w' => e = .returned (lrv (lstA f wd)) ∧ Below w.heap.size w w' := by
  have HH := Lib.hid (fun k (h4 : k < 4) (hk : nrw f wd k) (hn : ∀ j, j < k → ¬ nrw f wd j) => lstA_hit h4 hk hn)
  have HN := Lib.hid (fun (hn : ∀ j, j < 4 → ¬ nrw f wd j) => lstA_no hn)
  obtain ⟨res, hres⟩ : ∃ r, lstA f wd = r := ⟨_, rfl⟩
  rw [hres] at HH HN ⊢
  clear hres
  have P0 := Lib.hid (pan_alloc (pan_alloc (pan_new w t.1 t.2.1 t.2.2 25) (ptc x 23)) (.cells #[.int .i64 0, .int .i64 0] 35))
  have X0 := Lib.hid (own_alloc (own_new (w.alloc (pnc t.1 t.2.1 t.2.2 25)) x 23) (.cells #[.int .i64 0, .int .i64 0] 35))
  have Z0 := Lib.hid (owp_new ((w.alloc (pnc t.1 t.2.1 t.2.2 25)).alloc (ptc x 23)) (0, 0) 35)
  simp only [World.size_alloc] at X0 Z0
  have B0 := Lib.hid (show Below w.heap.size w (((w.alloc (pnc t.1 t.2.1 t.2.2 25)).alloc (ptc x 23)).alloc (.cells #[.int .i64 0, .int .i64 0] 35)) by (repeat' (first | exact Below.refl _ _ | refine Below.setCell ?_ (by simp <;> omega) _ | refine balloc ?_ _ | refine Below.drew ?_ | refine bdrewN ?_ _)))
  go_enter Try.func32, Try.ntmps32
  go_wp2_with fail
  with_reducible refine (V.out _).mono ?_
  rintro e w1 ⟨rfl, hb1⟩
  have P1 := Lib.hid (pan_below P0.out hb1)
  have X1 := Lib.hid (own_below X0.out hb1)
  have Z1 := Lib.hid (owp_below Z0.out hb1)
  have B1 := Lib.hid (bstep B0.out hb1)
  clear P0 X0 Z0 B0 hb1
  go_wp2_with fail
  refine (I.out _).mono ?_
  rintro e w2 ⟨rfl, rfl⟩
  go_wp2_with fail
  go_loopw [11] (fun kv wr => ∃ k : Nat, k ≤ 4 ∧ kv = .int .i64 k ∧ (∀ j, j < k → ¬ nrw f wd j) ∧ Below w1.heap.size w1 wr) (fun kv _ => 4 - (intOf kv).toNat)
  case atStart => exact ⟨0, by omega, rfl, fun j h => absurd h (Nat.not_lt_zero j), Below.refl _ _⟩
  case round =>
    obtain ⟨k, hk, rfl, hn, BB⟩ := hrel
    have NN := Lib.hid hn
    have B2 := Lib.hid BB
    clear hn BB
    have Z2 := Lib.hid (owp_below Z1.out B2.out)
    by_cases hlt : k < 4
    · have hk1 : (k : Int) < 4 := by omega
      have hk0 : 0 ≤ (k : Int) := by omega
      obtain ⟨k0, k1, k2, k3, k4, k5, k6, k7, k8, k9⟩ := pan_below P1.out B2.out
      obtain ⟨x0, x1, x2, x3, x4, x5, x6⟩ := own_below X1.out B2.out
      have Mk := Lib.hid (M.out k hlt)
      have Fk := Lib.hid (FB.out k hlt)
      have Hk := Lib.hid (HH.out k hlt)
      have Dk := Lib.hid (show nrw f wd k ↔ (f k).2 = 0 ∧ (f k).1.2 - (f k).1.1 ≤ wd from Iff.rfl)
      generalize f k = r at *
      obtain ⟨⟨lo, hi⟩, c⟩ := r
      dsimp only at Fk
      go_wp2_with fail
      with_reducible refine (Mk.out _).mono ?_
      rintro e w3 ⟨rfl, hb3⟩
      have O3 := Lib.hid (owp_new w3 (lo, hi) 35)
      have Z3 := Lib.hid (owp_alloc (owp_below Z2.out hb3) (.cells #[.int .i64 lo, .int .i64 hi] 35))
      have B3 := Lib.hid (balloc (bstep B2.out hb3) (.cells #[.int .i64 lo, .int .i64 hi] 35))
      clear k0 k1 k2 k3 k4 k5 k6 k7 k8 k9 x0 x1 x2 x3 x4 x5 x6 hb3
      by_cases z : c = 0
      · obtain ⟨⟨b1, b2⟩, b3, b4⟩ := Fk.out z
        obtain ⟨o0, o1, o2, o3, o4⟩ := O3.out
        by_cases y : hi - lo ≤ wd
        · have hr := Hk.out (Dk.out.2 ⟨z, y⟩) NN.out
          subst hr
          subst z
          obtain ⟨q0, q1, q2, q3, q4⟩ := Z3.out
          have hB := bstep B1.out B3.out
          go_wp2_with fail
          go_region
          all_goals
            go_wp2
            refine bodyPost_ret (v := lrv ((k : Int), (lo, hi), true, 0)) (by rw [results_tctt rfl]; go_simp) rfl ⟨rfl, ?_⟩
            (repeat' (first | with_reducible exact hB | with_reducible refine Below.drew ?_ | (with_reducible refine Below.setCell ?_ (by simp <;> omega) _)))
        · have y' : decide (hi - lo ≤ wd) = false := decide_eq_false y
          have nn : ∀ j, j < k + 1 → ¬ nrw f wd j := fun j hj h => by
            by_cases e : j = k
            · subst e; exact y (Dk.out.1 h).2
            · exact NN.out j (by omega) h
          have NN' := Lib.hid nn
          clear nn y
          subst z
          go_wp2_with fail
          go_roundw
          case rel => exact ⟨k + 1, by omega, by go_num, NN'.out, B3.out⟩
          case measure => simp [intOf]; omega
      · have z1 : (c == 0) = false := beq_eq_false_iff_ne.2 z
        have nn : ∀ j, j < k + 1 → ¬ nrw f wd j := fun j hj h => by
          by_cases e : j = k
          · subst e; exact z (Dk.out.1 h).1
          · exact NN.out j (by omega) h
        have NN' := Lib.hid nn
        clear nn
        go_wp2_with fail
        go_roundw
        case rel => exact ⟨k + 1, by omega, by go_num, NN'.out, B3.out⟩
        case measure => simp [intOf]; omega
    · obtain rfl : k = 4 := by omega
      have hr := HN.out NN.out
      subst hr
      obtain ⟨q0, q1, q2, q3, q4⟩ := Z2.out
      have hB := bstep B1.out B2.out
      go_wp2
      refine bodyPost_ret (v := lrv (0, (0, 0), false, 0)) (by rw [results_tctt rfl]; go_simp) rfl ⟨rfl, ?_⟩
      (repeat' (first | with_reducible exact hB | with_reducible refine Below.drew ?_ | (with_reducible refine Below.setCell ?_ (by simp <;> omega) _)))
theorem rlst_any (t : P9) (x : P3) (wd : Int) (w : World) : Calls Try.prog 32 #[pnv t.1 t.2.1 t.2.2, ptv x, .int .i64 wd] w fun e w' => e = .returned (lrv (lstF t x wd)) ∧ Below w.heap.size w w' := by
  have V := fun W => rask_any t x 0 W
  have I := fun W => rfinr_any wd 0 1099511627776 W
  unfold lstF
  by_cases h : snc t x 0 = 0
  · rw [if_pos h]
    rw [h] at V
    cases k : rngB wd 0 1099511627776 with
    | true =>
      rw [k] at I
      have hk := rngB_iff.1 k
      exact rlst_ok t x wd _ w (Lib.hid V) (Lib.hid I) hk.1 hk.2 (Lib.hid fun k hk W => by
        have z := snc_le h (D := (k : Int)) (by omega) (by omega)
        exact rmef_ok t x (k : Int) W z) (Lib.hid fun k hk z => mnF_bd (snc_le h (by omega) (by omega)) z)
    | false =>
      rw [k] at I
      exact rlst_rng t x wd w (Lib.hid V) (Lib.hid I)
  · rw [if_neg h]
    exact rlst_no t x wd _ w (Lib.hid V) (bne_iff_ne.2 h)
set_option maxRecDepth 100000 in
set_option maxHeartbeats 4000000 in
theorem fleasts_walk0 (t : P9) (x : P3) (wd : Int) (r : LR) (w : World) (M1 : Hid (∀ W, Calls Try.prog 31 #[p9v t, ptv x, .int .i64 wd] W fun e w' => e = .returned (lrv r) ∧ Below W.heap.size W w')) (M2 : Hid (∀ W, Calls Try.prog 32 #[p9v t, ptv x, .int .i64 wd] W fun e w' => e = .returned (lrv r) ∧ Below W.heap.size W w')) (K : Hid (∀ W, Calls Try.prog 15 #[] W fun e w' => e = .returned (.bool true) ∧ Below W.heap.size W w')) : Calls Try.prog 10 #[p9v t, ptv x, .int .i64 wd] w fun e w' => e = .returned (.bool true) ∧ Below w.heap.size w w' := by
  obtain ⟨a, b, c⟩ := t
  obtain ⟨r1, ⟨r2, r3⟩, r4, r5⟩ := r
  have P0 := Lib.hid (pan_alloc (pan_new w a b c 25) (ptc x 23))
  have X0 := Lib.hid (own_new (w.alloc (pnc a b c 25)) x 23)
  simp only [World.size_alloc] at X0
  have B0 := Lib.hid (show Below w.heap.size w ((w.alloc (pnc a b c 25)).alloc (ptc x 23)) by (repeat' (first | exact Below.refl _ _ | refine Below.setCell ?_ (by simp <;> omega) _ | refine balloc ?_ _ | refine Below.drew ?_ | refine bdrewN ?_ _)))
  go_enter Try.func10, Try.ntmps10
  go_wp2_with fail
  with_reducible refine (M1.out _).mono ?_
  rintro e w1 ⟨rfl, hb1⟩
  have V1 := Lib.hid (owp_new w1 (r2, r3) 35)
  have B1 := Lib.hid (balloc (bstep B0.out hb1) (.cells #[.int .i64 r2, .int .i64 r3] 35))
  obtain ⟨k0, k1, k2, k3, k4, k5, k6, k7, k8, k9⟩ := pan_alloc (pan_below P0.out hb1) (.cells #[.int .i64 r2, .int .i64 r3] 35)
  obtain ⟨x0, x1, x2, x3, x4, x5, x6⟩ := own_alloc (own_below X0.out hb1) (.cells #[.int .i64 r2, .int .i64 r3] 35)
  clear P0 X0 B0 hb1
  go_wp2_with fail
  with_reducible refine (M2.out _).mono ?_
  rintro e w2 ⟨rfl, hb2⟩
  have V2 := Lib.hid (owp_alloc (owp_below V1.out hb2) (.cells #[.int .i64 r2, .int .i64 r3] 35))
  have U2 := Lib.hid (owp_new w2 (r2, r3) 35)
  have B2 := Lib.hid (balloc (bstep B1.out hb2) (.cells #[.int .i64 r2, .int .i64 r3] 35))
  clear k0 k1 k2 k3 k4 k5 k6 k7 k8 k9 x0 x1 x2 x3 x4 x5 x6 V1 B1 hb2
  obtain ⟨v0, v1, v2, v3, v4⟩ := V2.out
  obtain ⟨u0, u1, u2, u3, u4⟩ := U2.out
  cases r4 <;>
    (go_wp2_with fail
     refine (K.out _).mono ?_
     rintro e w5 ⟨rfl, hb5⟩
     clear v0 v1 v2 v3 v4 u0 u1 u2 u3 u4
     go_wp2
     go_ret
     exact ⟨rfl, bstep B2.out hb5⟩)
theorem fleasts_walk (t : P9) (x : P3) (wd : Int) (w : World) : Calls Try.prog 10 #[p9v t, ptv x, .int .i64 wd] w fun e w' => e = .returned (.bool true) ∧ Below w.heap.size w w' :=
  fleasts_walk0 t x wd _ w (Lib.hid fun W => flst_any t x wd W) (Lib.hid fun W => rlst_any t x wd W) (Lib.hid fun W => fkn_any W)

end Go.Proofs.Ytjigcgpcglfjfaa
