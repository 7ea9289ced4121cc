/-
  The contracts of the document's Mean and MeanCube, and the chapter's example.
-/
import Derived.Test.YtjigcgpcglfjfaaFg24
namespace Go.Proofs.Ytjigcgpcglfjfaa
open Go.ChangeShapes Go.WideShapes Go.RowKit
open Sh
theorem fl_ptn {D a : Int} (h0 : 0 ≤ D) (h3 : D ≤ 3) : Sp.fl a (ptn D : Int) = a / (ptn D : Int) ∧ Sp.ce a (ptn D : Int) = (a + (ptn D : Int) - 1) / (ptn D : Int) := by
  have hn := (ptn_vals h0 h3).1
  have hd : D.toNat = 0 ∨ D.toNat = 1 ∨ D.toNat = 2 ∨ D.toNat = 3 := by omega
  have hv : ptn D = 1 ∨ ptn D = 4 ∨ ptn D = 16 ∨ ptn D = 64 := by
    unfold ptn
    rcases hd with e | e | e | e <;> rw [e] <;> decide
  unfold Sp.ce Sp.fl
  rw [if_pos (by omega), if_pos (by omega)]
  refine ⟨rfl, ?_⟩
  rcases hv with e | e | e | e <;> rw [e] <;> omega
theorem rparts_row {t : P9} {D : Int} {w w' : World} {v : Value} (h : w'.ownsRow w.heap.size 25 9 v (4 ^ D.toNat) (pcs (cutP D.toNat t))) : ∃ g off cap, v = .slice (some ⟨g, off, none⟩) (ptn D) cap ∧ RowP w' g off (ptn D) (ptk t D) :=
  own_row9 h (cutP_len _ _) (Nat.pow_pos (by decide))
theorem rmef_ok (t : P9) (x : P3) (D : Int) (w : World) (h : snc t x D = 0) : Calls Try.prog 52 #[p9v t, ptv x, .int .i64 D, .bool false] w fun e w' => e = .returned (spr (mnF false t x D)) ∧ Below w.heap.size w w' := by
  obtain ⟨hB, hx, d0, d3⟩ := snc_ok h
  obtain ⟨sw, s1, s2⟩ := scl_vals d0 d3
  obtain ⟨n0, n1⟩ := ptn_vals d0 d3
  have hy := tim_bd hx s1 s2
  have hQ : ∀ k, k < 1 → BdP 1000000 ((fun _ : Nat => tim (scl D) x) k) := fun _ _ => hy.mono (by decide)
  have val : ∀ m : Int, 1 ≤ m → m ≤ 19660800 → 0 ≤ (kV false m (scl D)).1.1 ∧ (kV false m (scl D)).1.1 ≤ (kV false m (scl D)).1.2 ∧ (kV false m (scl D)).1.2 ≤ 1000000000 := fun m m1 m2 => by
    obtain ⟨r, u, e, h1, h2⟩ := kV_val false m1 (by omega : m ≤ 1099511627776) s1 s2
    rw [e]
    show 0 ≤ (r : Int) ∧ (r : Int) ≤ (u : Int) ∧ (u : Int) ≤ 1000000000
    omega
  refine rmwf t.1 t.2.1 t.2.2 x (tim (scl D) x) D (scl D) (ptn D) (ptk t D) (ptd t D x) (ptf t D x) (mLo false t D x) (mHi false t D x) _ w (Lib.hid sw) ⟨d0, d3, by omega, s2⟩ n0 n1
    (Lib.hid fun W => (rcut_any D.toNat D t W (by omega) (by omega) hB).mono ?_)
    (Lib.hid fun W => rtimes_any (scl D) x W (hy.mono (by decide)))
    (Lib.hid fun k hk W q r => ?_) (Lib.hid fun k hk W q r => ?_)
    (Lib.hid fun m W => rinv_any m _ W) (Lib.hid fun m W => rcube_any m _ W)
    (Lib.hid fun k => ⟨rfl, rfl⟩) (Lib.hid fun k hk nz => ?_) (Lib.hid fun k hk z => ?_) (Lib.hid fun nz => ?_)
  · rintro e w' ⟨v, rfl, ho, hb⟩
    obtain ⟨g, off, cap, rfl, hr⟩ := rparts_row ho
    exact ⟨g, off, cap, rfl, hr, hb⟩
  · have hb := ptk_bd9 hB d0 d3 hk
    have z := rclose_any (ptk t D k).1 (ptk t D k).2.1 (ptk t D k).2.2 q 1 1 (fun _ => tim (scl D) x) W r (by decide) (by decide) (hb.mono (by decide)) hQ
    rw [lo1_eq, hi1_eq, show ((ptk t D k).1, (ptk t D k).2.1, (ptk t D k).2.2) = ptk t D k from rfl, nG_one] at z
    exact z
  · have hb := ptk_bd9 hB d0 d3 hk
    have z := rfar_any (ptk t D k).1 (ptk t D k).2.1 (ptk t D k).2.2 q 1 1 (fun _ => tim (scl D) x) W r (by decide) (fun i hi j _ => by
      match i, hi with
      | 0, _ => exact (sub_bd9 hb.1 hy).mono (by decide)
      | 1, _ => exact (sub_bd9 hb.2.1 hy).mono (by decide)
      | 2, _ => exact (sub_bd9 hb.2.2 hy).mono (by decide))
    rw [show ((ptk t D k).1, (ptk t D k).2.1, (ptk t D k).2.2) = ptk t D k from rfl, cG_one] at z
    exact z
  · have z2 : 0 ≤ ptd t D x k := near_nn _ _
    have z3 : ptd t D x k ≤ ptf t D x k := near_far _ _
    have z4 : ptf t D x k ≤ 19660800 := far_bd9 (ptk_bd9 hB d0 d3 hk) hy
    have a := val (ptf t D x k) (by omega) z4
    have b := val (ptd t D x k) (by omega) (by omega)
    unfold mLo mHi
    omega
  · unfold mnF
    rw [if_pos (anyz_hit z hk)]
  · unfold mnF
    rw [if_neg (by rw [nz]; decide), (fl_ptn d0 d3).1, (fl_ptn d0 d3).2]
theorem rmeanf_ok (t : P9) (x : P3) (D : Int) (w : World) (r : Sp.R) (V : Hid (∀ W, Calls Try.prog 51 #[p9v t, ptv x, .int .i64 D] W fun e w' => e = .returned (.int .i64 0) ∧ Below W.heap.size W w')) (M : Hid (∀ W, Calls Try.prog 52 #[p9v t, ptv x, .int .i64 D, .bool false] W fun e w' => e = .returned (spr r) ∧ Below W.heap.size W w')) :
    Calls Try.prog 17 #[p9v t, ptv x, .int .i64 D] w fun e w' => e = .returned (spr r) ∧ Below w.heap.size w w' := by
  obtain ⟨a, b, c⟩ := t
  have P0 := Lib.hid (pan_alloc (pan_alloc (pan_new w a b c 25) (ptc x 23)) (.cells #[.int .i64 0, .int .i64 0] 35))
  have X0 := Lib.hid (own_alloc (own_new (w.alloc (pnc a b c 25)) x 23) (.cells #[.int .i64 0, .int .i64 0] 35))
  have R0 := Lib.hid (owp_new ((w.alloc (pnc a b c 25)).alloc (ptc x 23)) (0, 0) 35)
  have B0 := Lib.hid (show Below w.heap.size w (((w.alloc (pnc a b c 25)).alloc (ptc x 23)).alloc (.cells #[.int .i64 0, .int .i64 0] 35)) by (repeat' (first | exact Below.refl _ _ | refine Below.setCell ?_ (by simp <;> omega) _ | refine balloc ?_ _ | refine Below.drew ?_ | refine bdrewN ?_ _)))
  simp only [World.size_alloc] at R0 X0
  go_enter Try.func17, Try.ntmps17
  go_wp2_with fail
  refine (V.out _).mono ?_
  rintro e w1 ⟨rfl, hb1⟩
  obtain ⟨o0, o1, o2, o3, o4⟩ := owp_below R0.out hb1
  have hB := bstep B0.out hb1
  obtain ⟨k0, k1, k2, k3, k4, k5, k6, k7, k8, k9⟩ := pan_below P0.out hb1
  obtain ⟨x0, x1, x2, x3, x4, x5, x6⟩ := own_below X0.out hb1
  have R1 := Lib.hid (owp_below R0.out hb1)
  clear P0 X0 o0 o1 o2 o3 o4
  go_wp2_with fail
  with_reducible refine (M.out _).mono ?_
  rintro e w2 ⟨rfl, hb2⟩
  have hB2 := bstep hB hb2
  obtain ⟨o0, o1, o2, o3, o4⟩ := owp_below R1.out hb2
  clear R0 B0 hB hb1 hb2 k0 k1 k2 k3 k4 k5 k6 k7 k8 k9 x0 x1 x2 x3 x4 x5 x6
  go_wp2
  refine bodyPost_ret (v := spr r) (by rw [results_cell_tmp rfl]; go_simp) rfl ⟨rfl, ?_⟩
  (repeat' (first | with_reducible exact hB2 | (with_reducible refine Below.setCell ?_ (by simp <;> omega) _)))
theorem rmeanf_no (t : P9) (x : P3) (D pc : Int) (w : World) (V : Hid (∀ W, Calls Try.prog 51 #[p9v t, ptv x, .int .i64 D] W fun e w' => e = .returned (.int .i64 pc) ∧ Below W.heap.size W w')) (z : (pc != 0) = true) :
    Calls Try.prog 17 #[p9v t, ptv x, .int .i64 D] w fun e w' => e = .returned (spr ((0, 0), pc)) ∧ Below w.heap.size w w' := by
  obtain ⟨a, b, c⟩ := t
  have P0 := Lib.hid (pan_alloc (pan_alloc (pan_new w a b c 25) (ptc x 23)) (.cells #[.int .i64 0, .int .i64 0] 35))
  have X0 := Lib.hid (own_alloc (own_new (w.alloc (pnc a b c 25)) x 23) (.cells #[.int .i64 0, .int .i64 0] 35))
  have R0 := Lib.hid (owp_new ((w.alloc (pnc a b c 25)).alloc (ptc x 23)) (0, 0) 35)
  have B0 := Lib.hid (show Below w.heap.size w (((w.alloc (pnc a b c 25)).alloc (ptc x 23)).alloc (.cells #[.int .i64 0, .int .i64 0] 35)) by (repeat' (first | exact Below.refl _ _ | refine Below.setCell ?_ (by simp <;> omega) _ | refine balloc ?_ _ | refine Below.drew ?_ | refine bdrewN ?_ _)))
  simp only [World.size_alloc] at R0 X0
  go_enter Try.func17, Try.ntmps17
  go_wp2_with fail
  refine (V.out _).mono ?_
  rintro e w1 ⟨rfl, hb1⟩
  obtain ⟨o0, o1, o2, o3, o4⟩ := owp_below R0.out hb1
  have hB := bstep B0.out hb1
  clear R0 B0 P0 X0
  go_wp2
  refine bodyPost_ret (v := spr ((0, 0), pc)) (by rw [results_cell_tmp rfl]; go_simp) rfl ⟨rfl, ?_⟩
  (repeat' (first | with_reducible exact hB | (with_reducible refine Below.setCell ?_ (by simp <;> omega) _)))
theorem rmeanf_any (t : P9) (x : P3) (D : Int) (w : World) : Calls Try.prog 17 #[p9v t, ptv x, .int .i64 D] w fun e w' => e = .returned (spr (meF false t x D)) ∧ Below w.heap.size w w' := by
  have V := fun W => rask_any t x D W
  unfold meF
  by_cases h : snc t x D = 0
  · rw [if_pos h]
    rw [h] at V
    exact rmeanf_ok t x D w _ (Lib.hid V) (Lib.hid fun W => rmef_ok t x D W h)
  · rw [if_neg h]
    exact rmeanf_no t x D _ w (Lib.hid V) (bne_iff_ne.2 h)
theorem rmet_ok (t : P9) (x : P3) (D : Int) (w : World) (h : snc t x D = 0) : Calls Try.prog 52 #[p9v t, ptv x, .int .i64 D, .bool true] w fun e w' => e = .returned (spr (mnF true t x D)) ∧ Below w.heap.size w w' := by
  obtain ⟨hB, hx, d0, d3⟩ := snc_ok h
  obtain ⟨sw, s1, s2⟩ := scl_vals d0 d3
  obtain ⟨n0, n1⟩ := ptn_vals d0 d3
  have hy := tim_bd hx s1 s2
  have hQ : ∀ k, k < 1 → BdP 1000000 ((fun _ : Nat => tim (scl D) x) k) := fun _ _ => hy.mono (by decide)
  have val : ∀ m : Int, 1 ≤ m → m ≤ 19660800 → 0 ≤ (kV true m (scl D)).1.1 ∧ (kV true m (scl D)).1.1 ≤ (kV true m (scl D)).1.2 ∧ (kV true m (scl D)).1.2 ≤ 1000000000 := fun m m1 m2 => by
    obtain ⟨r, u, e, h1, h2⟩ := kV_val true m1 (by omega : m ≤ 1099511627776) s1 s2
    rw [e]
    show 0 ≤ (r : Int) ∧ (r : Int) ≤ (u : Int) ∧ (u : Int) ≤ 1000000000
    omega
  refine rmwt t.1 t.2.1 t.2.2 x (tim (scl D) x) D (scl D) (ptn D) (ptk t D) (ptd t D x) (ptf t D x) (mLo true t D x) (mHi true t D x) _ w (Lib.hid sw) ⟨d0, d3, by omega, s2⟩ n0 n1
    (Lib.hid fun W => (rcut_any D.toNat D t W (by omega) (by omega) hB).mono ?_)
    (Lib.hid fun W => rtimes_any (scl D) x W (hy.mono (by decide)))
    (Lib.hid fun k hk W q r => ?_) (Lib.hid fun k hk W q r => ?_)
    (Lib.hid fun m W => rinv_any m _ W) (Lib.hid fun m W => rcube_any m _ W)
    (Lib.hid fun k => ⟨rfl, rfl⟩) (Lib.hid fun k hk nz => ?_) (Lib.hid fun k hk z => ?_) (Lib.hid fun nz => ?_)
  · rintro e w' ⟨v, rfl, ho, hb⟩
    obtain ⟨g, off, cap, rfl, hr⟩ := rparts_row ho
    exact ⟨g, off, cap, rfl, hr, hb⟩
  · have hb := ptk_bd9 hB d0 d3 hk
    have z := rclose_any (ptk t D k).1 (ptk t D k).2.1 (ptk t D k).2.2 q 1 1 (fun _ => tim (scl D) x) W r (by decide) (by decide) (hb.mono (by decide)) hQ
    rw [lo1_eq, hi1_eq, show ((ptk t D k).1, (ptk t D k).2.1, (ptk t D k).2.2) = ptk t D k from rfl, nG_one] at z
    exact z
  · have hb := ptk_bd9 hB d0 d3 hk
    have z := rfar_any (ptk t D k).1 (ptk t D k).2.1 (ptk t D k).2.2 q 1 1 (fun _ => tim (scl D) x) W r (by decide) (fun i hi j _ => by
      match i, hi with
      | 0, _ => exact (sub_bd9 hb.1 hy).mono (by decide)
      | 1, _ => exact (sub_bd9 hb.2.1 hy).mono (by decide)
      | 2, _ => exact (sub_bd9 hb.2.2 hy).mono (by decide))
    rw [show ((ptk t D k).1, (ptk t D k).2.1, (ptk t D k).2.2) = ptk t D k from rfl, cG_one] at z
    exact z
  · have z2 : 0 ≤ ptd t D x k := near_nn _ _
    have z3 : ptd t D x k ≤ ptf t D x k := near_far _ _
    have z4 : ptf t D x k ≤ 19660800 := far_bd9 (ptk_bd9 hB d0 d3 hk) hy
    have a := val (ptf t D x k) (by omega) z4
    have b := val (ptd t D x k) (by omega) (by omega)
    unfold mLo mHi
    omega
  · unfold mnF
    rw [if_pos (anyz_hit z hk)]
  · unfold mnF
    rw [if_neg (by rw [nz]; decide), (fl_ptn d0 d3).1, (fl_ptn d0 d3).2]
theorem rmeant_ok (t : P9) (x : P3) (D : Int) (w : World) (r : Sp.R) (V : Hid (∀ W, Calls Try.prog 51 #[p9v t, ptv x, .int .i64 D] W fun e w' => e = .returned (.int .i64 0) ∧ Below W.heap.size W w')) (M : Hid (∀ W, Calls Try.prog 52 #[p9v t, ptv x, .int .i64 D, .bool true] W fun e w' => e = .returned (spr r) ∧ Below W.heap.size W w')) :
    Calls Try.prog 19 #[p9v t, ptv x, .int .i64 D] w fun e w' => e = .returned (spr r) ∧ Below w.heap.size w w' := by
  obtain ⟨a, b, c⟩ := t
  have P0 := Lib.hid (pan_alloc (pan_alloc (pan_new w a b c 25) (ptc x 23)) (.cells #[.int .i64 0, .int .i64 0] 35))
  have X0 := Lib.hid (own_alloc (own_new (w.alloc (pnc a b c 25)) x 23) (.cells #[.int .i64 0, .int .i64 0] 35))
  have R0 := Lib.hid (owp_new ((w.alloc (pnc a b c 25)).alloc (ptc x 23)) (0, 0) 35)
  have B0 := Lib.hid (show Below w.heap.size w (((w.alloc (pnc a b c 25)).alloc (ptc x 23)).alloc (.cells #[.int .i64 0, .int .i64 0] 35)) by (repeat' (first | exact Below.refl _ _ | refine Below.setCell ?_ (by simp <;> omega) _ | refine balloc ?_ _ | refine Below.drew ?_ | refine bdrewN ?_ _)))
  simp only [World.size_alloc] at R0 X0
  go_enter Try.func19, Try.ntmps19
  go_wp2_with fail
  refine (V.out _).mono ?_
  rintro e w1 ⟨rfl, hb1⟩
  obtain ⟨o0, o1, o2, o3, o4⟩ := owp_below R0.out hb1
  have hB := bstep B0.out hb1
  obtain ⟨k0, k1, k2, k3, k4, k5, k6, k7, k8, k9⟩ := pan_below P0.out hb1
  obtain ⟨x0, x1, x2, x3, x4, x5, x6⟩ := own_below X0.out hb1
  have R1 := Lib.hid (owp_below R0.out hb1)
  clear P0 X0 o0 o1 o2 o3 o4
  go_wp2_with fail
  with_reducible refine (M.out _).mono ?_
  rintro e w2 ⟨rfl, hb2⟩
  have hB2 := bstep hB hb2
  obtain ⟨o0, o1, o2, o3, o4⟩ := owp_below R1.out hb2
  clear R0 B0 hB hb1 hb2 k0 k1 k2 k3 k4 k5 k6 k7 k8 k9 x0 x1 x2 x3 x4 x5 x6
  go_wp2
  refine bodyPost_ret (v := spr r) (by rw [results_cell_tmp rfl]; go_simp) rfl ⟨rfl, ?_⟩
  (repeat' (first | with_reducible exact hB2 | (with_reducible refine Below.setCell ?_ (by simp <;> omega) _)))
theorem rmeant_no (t : P9) (x : P3) (D pc : Int) (w : World) (V : Hid (∀ W, Calls Try.prog 51 #[p9v t, ptv x, .int .i64 D] W fun e w' => e = .returned (.int .i64 pc) ∧ Below W.heap.size W w')) (z : (pc != 0) = true) :
    Calls Try.prog 19 #[p9v t, ptv x, .int .i64 D] w fun e w' => e = .returned (spr ((0, 0), pc)) ∧ Below w.heap.size w w' := by
  obtain ⟨a, b, c⟩ := t
  have P0 := Lib.hid (pan_alloc (pan_alloc (pan_new w a b c 25) (ptc x 23)) (.cells #[.int .i64 0, .int .i64 0] 35))
  have X0 := Lib.hid (own_alloc (own_new (w.alloc (pnc a b c 25)) x 23) (.cells #[.int .i64 0, .int .i64 0] 35))
  have R0 := Lib.hid (owp_new ((w.alloc (pnc a b c 25)).alloc (ptc x 23)) (0, 0) 35)
  have B0 := Lib.hid (show Below w.heap.size w (((w.alloc (pnc a b c 25)).alloc (ptc x 23)).alloc (.cells #[.int .i64 0, .int .i64 0] 35)) by (repeat' (first | exact Below.refl _ _ | refine Below.setCell ?_ (by simp <;> omega) _ | refine balloc ?_ _ | refine Below.drew ?_ | refine bdrewN ?_ _)))
  simp only [World.size_alloc] at R0 X0
  go_enter Try.func19, Try.ntmps19
  go_wp2_with fail
  refine (V.out _).mono ?_
  rintro e w1 ⟨rfl, hb1⟩
  obtain ⟨o0, o1, o2, o3, o4⟩ := owp_below R0.out hb1
  have hB := bstep B0.out hb1
  clear R0 B0 P0 X0
  go_wp2
  refine bodyPost_ret (v := spr ((0, 0), pc)) (by rw [results_cell_tmp rfl]; go_simp) rfl ⟨rfl, ?_⟩
  (repeat' (first | with_reducible exact hB | (with_reducible refine Below.setCell ?_ (by simp <;> omega) _)))
theorem rmeant_any (t : P9) (x : P3) (D : Int) (w : World) : Calls Try.prog 19 #[p9v t, ptv x, .int .i64 D] w fun e w' => e = .returned (spr (meF true t x D)) ∧ Below w.heap.size w w' := by
  have V := fun W => rask_any t x D W
  unfold meF
  by_cases h : snc t x D = 0
  · rw [if_pos h]
    rw [h] at V
    exact rmeant_ok t x D w _ (Lib.hid V) (Lib.hid fun W => rmet_ok t x D W h)
  · rw [if_neg h]
    exact rmeant_no t x D _ w (Lib.hid V) (bne_iff_ne.2 h)
/-- the chapter's panel -/
def exT : P9 := ((0, 0, 0), (2, 0, 0), (0, 2, 0))
theorem iv1_66 : invR 66 1 = ((129070, 129071), 0) := by
  have e : Rt.isq (QT 1099511627776 66 1) = 129070 := isq_eq8 (by decide) (by decide)
  unfold invR
  rw [if_pos ⟨by decide, by decide, by decide, by decide⟩]
  show belowR 1099511627776 66 1 = _
  unfold belowR qUp
  rw [show QW 1099511627776 66 1 = false by decide, e]
  simp only [Bool.false_eq_true, if_false]
  exact Sp.told_yes (by decide)
theorem iv1_64 : invR 64 1 = ((131072, 131072), 0) := by
  have e : Rt.isq (QT 1099511627776 64 1) = 131072 := isq_eq8 (by decide) (by decide)
  unfold invR
  rw [if_pos ⟨by decide, by decide, by decide, by decide⟩]
  show belowR 1099511627776 64 1 = _
  unfold belowR qUp Rt.csq
  rw [show QW 1099511627776 64 1 = true by decide, e]
  simp only [if_true]
  rw [if_pos (by decide)]
  exact Sp.told_yes (by decide)
theorem sm_one9 (f : Nat → Int) : sm f 1 = f 0 := by
  show 0 + f 0 = f 0
  omega
theorem kv_no (n s : Int) : kV false n s = invR n s := by
  unfold kV
  rw [if_neg (by decide)]
theorem ex_0 : ptk exT 0 0 = exT := by decide
theorem ex_s : scl 0 = 1 := by decide
theorem ex_n : ptd exT 0 (1, 1, 8) 0 = 64 := by unfold ptd; rw [ex_0, ex_s]; decide
theorem ex_f : ptf exT 0 (1, 1, 8) 0 = 66 := by unfold ptf; rw [ex_0, ex_s]; decide
theorem ex_p : ptn 0 = 1 := by decide
theorem anyz_1 (f : Nat → Int) (h : f 0 ≠ 0) : anyz f 1 = false := by
  show (false || f 0 == 0) = false
  rw [beq_eq_false_iff_ne.2 h]; rfl
theorem mlo_eq (c : Bool) (t : P9) (d : Int) (x : P3) (k : Nat) : mLo c t d x k = (kV c (ptf t d x k) (scl d)).1.1 := rfl
theorem mhi_eq (c : Bool) (t : P9) (d : Int) (x : P3) (k : Nat) : mHi c t d x k = (kV c (ptd t d x k) (scl d)).1.2 := rfl
theorem ex_lo : sm (mLo false exT 0 (1, 1, 8)) 1 = 129070 := by
  rw [sm_one9, mlo_eq, ex_f, ex_s, kv_no, iv1_66]
theorem ex_hi : sm (mHi false exT 0 (1, 1, 8)) 1 = 131072 := by
  rw [sm_one9, mhi_eq, ex_n, ex_s, kv_no, iv1_64]
theorem ex_mn : mnF false exT (1, 1, 8) 0 = ((129070, 131072), 0) := by
  unfold mnF
  rw [ex_p, if_neg (by rw [anyz_1 _ (by rw [ex_n]; decide)]; decide), ex_lo, ex_hi]
  decide
theorem ex_sn : snc exT (1, 1, 8) 0 = 0 := by decide
theorem ex_mean : meF false exT (1, 1, 8) 0 = ((129070, 131072), 0) := by
  unfold meF
  rw [if_pos ex_sn, ex_mn]
theorem fkn_any (w : World) : Calls Try.prog 15 #[] w fun e w' => e = .returned (.bool true) ∧ Below w.heap.size w w' := by
  have M := fun W => meani_any exT (1, 1, 8) 0 W
  rw [ex_mean] at M
  have M' := Lib.hid M
  clear M
  go_enter Try.func15, Try.ntmps15
  go_wp2_with fail
  refine (M'.out _).mono ?_
  rintro e w1 ⟨rfl, hb1⟩
  go_wp2
  go_ret
  exact ⟨rfl, by (repeat' (first | exact Below.refl _ _ | refine bstep ?_ hb1 | refine Below.setCell ?_ (by simp <;> omega) _ | refine balloc ?_ _ | refine Below.drew ?_ | refine bdrewN ?_ _))⟩

end Go.Proofs.Ytjigcgpcglfjfaa
