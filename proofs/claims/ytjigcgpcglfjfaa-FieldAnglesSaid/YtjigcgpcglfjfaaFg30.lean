/-
  The contracts of SolidAngle: the walks.
-/
import Derived.Test.YtjigcgpcglfjfaaFg29
namespace Go.Proofs.Ytjigcgpcglfjfaa
open Go.ChangeShapes Go.WideShapes Go.RowKit
open Sh
set_option maxRecDepth 100000 in
theorem fsa_e1 (t : P9) (x : P3) (D a b c : Int) (w : World) (M : Hid (∀ W, Calls Try.prog 18 #[pnv t.1 t.2.1 t.2.2, ptv x, .int .i64 D] W fun e w' => e = .returned (spr ((a, b), c)) ∧ Below W.heap.size W w')) (z : (c != 0) = true) : Calls Try.prog 20 #[pnv t.1 t.2.1 t.2.2, ptv x, .int .i64 D] w fun e w' => e = .returned (spr ((0, 0), c)) ∧ Below w.heap.size w w' := by
  have P0 := Lib.hid (pan_alloc (pan_alloc (pan_new w t.1 t.2.1 t.2.2 25) (ptc x 23)) (.cells #[.int .i64 0, .int .i64 0] 35))
  have X0 := Lib.hid (own_alloc (own_new (w.alloc (pnc t.1 t.2.1 t.2.2 25)) x 23) (.cells #[.int .i64 0, .int .i64 0] 35))
  have Z0 := Lib.hid (owp_new ((w.alloc (pnc t.1 t.2.1 t.2.2 25)).alloc (ptc x 23)) (0, 0) 35)
  simp only [World.size_alloc] at X0 Z0
  have B0 := Lib.hid (show Below w.heap.size w (((w.alloc (pnc t.1 t.2.1 t.2.2 25)).alloc (ptc x 23)).alloc (.cells #[.int .i64 0, .int .i64 0] 35)) by (repeat' (first | exact Below.refl _ _ | refine Below.setCell ?_ (by simp <;> omega) _ | refine balloc ?_ _ | refine Below.drew ?_ | refine bdrewN ?_ _)))
  obtain ⟨k0, k1, k2, k3, k4, k5, k6, k7, k8, k9⟩ := P0.out
  obtain ⟨x0, x1, x2, x3, x4, x5, x6⟩ := X0.out
  go_enter Try.func20, Try.ntmps20
  go_wp2_with fail
  with_reducible refine (M.out _).mono ?_
  rintro e w1 ⟨rfl, hb1⟩
  clear k0 k1 k2 k3 k4 k5 k6 k7 k8 k9 x0 x1 x2 x3 x4 x5 x6
  have P1 := Lib.hid (pan_alloc (pan_below P0.out hb1) (.cells #[.int .i64 a, .int .i64 b] 35))
  have X1 := Lib.hid (own_alloc (own_below X0.out hb1) (.cells #[.int .i64 a, .int .i64 b] 35))
  have Z1 := Lib.hid (owp_alloc (owp_below Z0.out hb1) (.cells #[.int .i64 a, .int .i64 b] 35))
  have B1 := Lib.hid (balloc (bstep B0.out hb1) (.cells #[.int .i64 a, .int .i64 b] 35))
  have M1 := Lib.hid (owp_new w1 (a, b) 35)
  clear P0 X0 Z0 B0 hb1
  obtain ⟨o0, o1, o2, o3, o4⟩ := Z1.out
  have hB := B1.out
  go_wp2
  refine bodyPost_ret (v := spr ((0, 0), c)) (by rw [results_cell_tmp rfl]; go_simp) rfl ⟨rfl, ?_⟩
  (repeat' (first | with_reducible exact hB | with_reducible refine Below.drew ?_ | (with_reducible refine Below.setCell ?_ (by simp <;> omega) _)))
set_option maxRecDepth 100000 in
set_option maxHeartbeats 4000000 in
theorem fsa_e2 (t : P9) (x v n : P3) (D a b h p q c : Int) (w : World) (M : Hid (∀ W, Calls Try.prog 18 #[pnv t.1 t.2.1 t.2.2, ptv x, .int .i64 D] W fun e w' => e = .returned (spr ((a, b), 0)) ∧ Below W.heap.size W w')) (NN : Hid (∀ W, Calls Try.prog 54 #[pnv t.1 t.2.1 t.2.2] W fun e w' => e = .returned (.tuple #[ptv n, .int .i64 0]) ∧ Below W.heap.size W w')) (MI : Hid (∀ W, Calls Try.prog 56 #[ptv t.1, ptv x] W fun e w' => e = .returned (ptv v) ∧ Below W.heap.size W w')) (SC : Hid (∀ W, Calls Try.prog 55 #[ptv v, ptv n] W fun e w' => e = .returned (.int .i64 h) ∧ Below W.heap.size W w')) (SL : Hid (∀ W, Calls Try.prog 38 #[spv a b, .int .i64 h] W fun e w' => e = .returned (spr ((p, q), c)) ∧ Below W.heap.size W w')) (z : (c != 0) = true) : Calls Try.prog 20 #[pnv t.1 t.2.1 t.2.2, ptv x, .int .i64 D] w fun e w' => e = .returned (spr ((0, 0), c)) ∧ Below w.heap.size w w' := by
  have P0 := Lib.hid (pan_alloc (pan_alloc (pan_new w t.1 t.2.1 t.2.2 25) (ptc x 23)) (.cells #[.int .i64 0, .int .i64 0] 35))
  have X0 := Lib.hid (own_alloc (own_new (w.alloc (pnc t.1 t.2.1 t.2.2 25)) x 23) (.cells #[.int .i64 0, .int .i64 0] 35))
  have Z0 := Lib.hid (owp_new ((w.alloc (pnc t.1 t.2.1 t.2.2 25)).alloc (ptc x 23)) (0, 0) 35)
  simp only [World.size_alloc] at X0 Z0
  have B0 := Lib.hid (show Below w.heap.size w (((w.alloc (pnc t.1 t.2.1 t.2.2 25)).alloc (ptc x 23)).alloc (.cells #[.int .i64 0, .int .i64 0] 35)) by (repeat' (first | exact Below.refl _ _ | refine Below.setCell ?_ (by simp <;> omega) _ | refine balloc ?_ _ | refine Below.drew ?_ | refine bdrewN ?_ _)))
  obtain ⟨k0, k1, k2, k3, k4, k5, k6, k7, k8, k9⟩ := P0.out
  obtain ⟨x0, x1, x2, x3, x4, x5, x6⟩ := X0.out
  go_enter Try.func20, Try.ntmps20
  go_wp2_with fail
  with_reducible refine (M.out _).mono ?_
  rintro e w1 ⟨rfl, hb1⟩
  clear k0 k1 k2 k3 k4 k5 k6 k7 k8 k9 x0 x1 x2 x3 x4 x5 x6
  have P1 := Lib.hid (pan_alloc (pan_below P0.out hb1) (.cells #[.int .i64 a, .int .i64 b] 35))
  have X1 := Lib.hid (own_alloc (own_below X0.out hb1) (.cells #[.int .i64 a, .int .i64 b] 35))
  have Z1 := Lib.hid (owp_alloc (owp_below Z0.out hb1) (.cells #[.int .i64 a, .int .i64 b] 35))
  have B1 := Lib.hid (balloc (bstep B0.out hb1) (.cells #[.int .i64 a, .int .i64 b] 35))
  have M1 := Lib.hid (owp_new w1 (a, b) 35)
  clear P0 X0 Z0 B0 hb1
  obtain ⟨m0, m1, m2, m3, m4⟩ := M1.out
  obtain ⟨k0, k1, k2, k3, k4, k5, k6, k7, k8, k9⟩ := P1.out
  go_wp2_with fail
  with_reducible refine (NN.out _).mono ?_
  rintro e w2 ⟨rfl, hb2⟩
  have P2 := Lib.hid (pan_alloc (pan_below P1.out hb2) (ptc n 23))
  have X2 := Lib.hid (own_alloc (own_below X1.out hb2) (ptc n 23))
  have Z2 := Lib.hid (owp_alloc (owp_below Z1.out hb2) (ptc n 23))
  have B2 := Lib.hid (balloc (bstep B1.out hb2) (ptc n 23))
  have M2 := Lib.hid (owp_alloc (owp_below M1.out hb2) (ptc n 23))
  have N2 := Lib.hid (own_new w2 n 23)
  clear k0 k1 k2 k3 k4 k5 k6 k7 k8 k9 m0 m1 m2 m3 m4 P1 X1 Z1 B1 M1 hb2
  have i1 := pxn_drew (show Pxn (w2.alloc (ptc n 23)) w.heap.size (w.heap.size + 1) w2.heap.size t x n from ⟨P2.out, X2.out, N2.out⟩)
  have b1 := Lib.hid (show Below (w2.alloc (ptc n 23)).heap.size (w2.alloc (ptc n 23)) (w2.alloc (ptc n 23)).drew from Below.drew (Below.refl _ _))
  go_wp2_with fail
  go_region_held3 (fun w' => w'.cell? ⟨w.heap.size, 0, none⟩ = some (.int .i64 t.1.1) ∧ w'.cell? ⟨w.heap.size, 1, none⟩ = some (.int .i64 t.1.2.1) ∧ w'.cell? ⟨w.heap.size, 2, none⟩ = some (.int .i64 t.1.2.2) ∧ w'.cell? ⟨w.heap.size + 1, 0, none⟩ = some (.int .i64 x.1) ∧ w'.cell? ⟨w.heap.size + 1, 1, none⟩ = some (.int .i64 x.2.1) ∧ w'.cell? ⟨w.heap.size + 1, 2, none⟩ = some (.int .i64 x.2.2) ∧ w'.cell? ⟨w2.heap.size, 0, none⟩ = some (.int .i64 n.1) ∧ w'.cell? ⟨w2.heap.size, 1, none⟩ = some (.int .i64 n.2.1) ∧ w'.cell? ⟨w2.heap.size, 2, none⟩ = some (.int .i64 n.2.2))
    (first | (refine pxn_cells i1) | (refine pxn_cells q1) | (refine pxn_cells q2) | fail)
    (first | (go_at_call 56; (with_reducible refine (MI.out _).mono ?_); rintro e v1 ⟨rfl, hv1⟩; have q1 := pxn_below i1 hv1; have d1 := Lib.hid (bstep b1.out hv1)) | (go_at_call 55; (with_reducible refine (SC.out _).mono ?_); rintro e v2 ⟨rfl, hv2⟩; have q2 := pxn_below q1 hv2; have d2 := Lib.hid (bstep d1.out hv2)) | fail)
  all_goals
    have Z3 := Lib.hid (owp_in Z2.out d2.out Z2.out.2.2.2.2)
    have M3 := Lib.hid (owp_in M2.out d2.out M2.out.2.2.2.2)
    have B3 := Lib.hid (bjoin B2.out d2.out)
    obtain ⟨m0, m1, m2, m3, m4⟩ := M3.out
    clear i1 b1 q1 d1 q2 hv1 hv2 d2
    go_wp2_with fail
    with_reducible refine (SL.out _).mono ?_
    rintro e w4 ⟨rfl, hb4⟩
    have Z4 := Lib.hid (owp_alloc (owp_below Z3.out hb4) (.cells #[.int .i64 p, .int .i64 q] 35))
    have B4 := Lib.hid (balloc (bstep B3.out hb4) (.cells #[.int .i64 p, .int .i64 q] 35))
    have S4 := Lib.hid (owp_new w4 (p, q) 35)
    clear m0 m1 m2 m3 m4 hb4
    obtain ⟨o0, o1, o2, o3, o4⟩ := Z4.out
    have hB := B4.out
    go_wp2
    refine bodyPost_ret (v := spr ((0, 0), c)) (by rw [results_cell_tmp rfl]; go_simp) rfl ⟨rfl, ?_⟩
    (repeat' (first | with_reducible exact hB | with_reducible refine Below.drew ?_ | (with_reducible refine Below.setCell ?_ (by simp <;> omega) _)))
set_option maxRecDepth 100000 in
set_option maxHeartbeats 4000000 in
theorem fsa_ok (t : P9) (x v n : P3) (D a b h p q : Int) (r : Sp.R) (w : World) (M : Hid (∀ W, Calls Try.prog 18 #[pnv t.1 t.2.1 t.2.2, ptv x, .int .i64 D] W fun e w' => e = .returned (spr ((a, b), 0)) ∧ Below W.heap.size W w')) (NN : Hid (∀ W, Calls Try.prog 54 #[pnv t.1 t.2.1 t.2.2] W fun e w' => e = .returned (.tuple #[ptv n, .int .i64 0]) ∧ Below W.heap.size W w')) (MI : Hid (∀ W, Calls Try.prog 56 #[ptv t.1, ptv x] W fun e w' => e = .returned (ptv v) ∧ Below W.heap.size W w')) (SC : Hid (∀ W, Calls Try.prog 55 #[ptv v, ptv n] W fun e w' => e = .returned (.int .i64 h) ∧ Below W.heap.size W w')) (SL : Hid (∀ W, Calls Try.prog 38 #[spv a b, .int .i64 h] W fun e w' => e = .returned (spr ((p, q), 0)) ∧ Below W.heap.size W w')) (PT : Hid (∀ W, Calls Try.prog 57 #[spv p q, .int .i64 2] W fun e w' => e = .returned (spr r) ∧ Below W.heap.size W w')) : Calls Try.prog 20 #[pnv t.1 t.2.1 t.2.2, ptv x, .int .i64 D] w fun e w' => e = .returned (spr r) ∧ Below w.heap.size w w' := by
  have P0 := Lib.hid (pan_alloc (pan_alloc (pan_new w t.1 t.2.1 t.2.2 25) (ptc x 23)) (.cells #[.int .i64 0, .int .i64 0] 35))
  have X0 := Lib.hid (own_alloc (own_new (w.alloc (pnc t.1 t.2.1 t.2.2 25)) x 23) (.cells #[.int .i64 0, .int .i64 0] 35))
  have Z0 := Lib.hid (owp_new ((w.alloc (pnc t.1 t.2.1 t.2.2 25)).alloc (ptc x 23)) (0, 0) 35)
  simp only [World.size_alloc] at X0 Z0
  have B0 := Lib.hid (show Below w.heap.size w (((w.alloc (pnc t.1 t.2.1 t.2.2 25)).alloc (ptc x 23)).alloc (.cells #[.int .i64 0, .int .i64 0] 35)) by (repeat' (first | exact Below.refl _ _ | refine Below.setCell ?_ (by simp <;> omega) _ | refine balloc ?_ _ | refine Below.drew ?_ | refine bdrewN ?_ _)))
  obtain ⟨k0, k1, k2, k3, k4, k5, k6, k7, k8, k9⟩ := P0.out
  obtain ⟨x0, x1, x2, x3, x4, x5, x6⟩ := X0.out
  go_enter Try.func20, Try.ntmps20
  go_wp2_with fail
  with_reducible refine (M.out _).mono ?_
  rintro e w1 ⟨rfl, hb1⟩
  clear k0 k1 k2 k3 k4 k5 k6 k7 k8 k9 x0 x1 x2 x3 x4 x5 x6
  have P1 := Lib.hid (pan_alloc (pan_below P0.out hb1) (.cells #[.int .i64 a, .int .i64 b] 35))
  have X1 := Lib.hid (own_alloc (own_below X0.out hb1) (.cells #[.int .i64 a, .int .i64 b] 35))
  have Z1 := Lib.hid (owp_alloc (owp_below Z0.out hb1) (.cells #[.int .i64 a, .int .i64 b] 35))
  have B1 := Lib.hid (balloc (bstep B0.out hb1) (.cells #[.int .i64 a, .int .i64 b] 35))
  have M1 := Lib.hid (owp_new w1 (a, b) 35)
  clear P0 X0 Z0 B0 hb1
  obtain ⟨m0, m1, m2, m3, m4⟩ := M1.out
  obtain ⟨k0, k1, k2, k3, k4, k5, k6, k7, k8, k9⟩ := P1.out
  go_wp2_with fail
  with_reducible refine (NN.out _).mono ?_
  rintro e w2 ⟨rfl, hb2⟩
  have P2 := Lib.hid (pan_alloc (pan_below P1.out hb2) (ptc n 23))
  have X2 := Lib.hid (own_alloc (own_below X1.out hb2) (ptc n 23))
  have Z2 := Lib.hid (owp_alloc (owp_below Z1.out hb2) (ptc n 23))
  have B2 := Lib.hid (balloc (bstep B1.out hb2) (ptc n 23))
  have M2 := Lib.hid (owp_alloc (owp_below M1.out hb2) (ptc n 23))
  have N2 := Lib.hid (own_new w2 n 23)
  clear k0 k1 k2 k3 k4 k5 k6 k7 k8 k9 m0 m1 m2 m3 m4 P1 X1 Z1 B1 M1 hb2
  have i1 := pxn_drew (show Pxn (w2.alloc (ptc n 23)) w.heap.size (w.heap.size + 1) w2.heap.size t x n from ⟨P2.out, X2.out, N2.out⟩)
  have b1 := Lib.hid (show Below (w2.alloc (ptc n 23)).heap.size (w2.alloc (ptc n 23)) (w2.alloc (ptc n 23)).drew from Below.drew (Below.refl _ _))
  go_wp2_with fail
  go_region_held3 (fun w' => w'.cell? ⟨w.heap.size, 0, none⟩ = some (.int .i64 t.1.1) ∧ w'.cell? ⟨w.heap.size, 1, none⟩ = some (.int .i64 t.1.2.1) ∧ w'.cell? ⟨w.heap.size, 2, none⟩ = some (.int .i64 t.1.2.2) ∧ w'.cell? ⟨w.heap.size + 1, 0, none⟩ = some (.int .i64 x.1) ∧ w'.cell? ⟨w.heap.size + 1, 1, none⟩ = some (.int .i64 x.2.1) ∧ w'.cell? ⟨w.heap.size + 1, 2, none⟩ = some (.int .i64 x.2.2) ∧ w'.cell? ⟨w2.heap.size, 0, none⟩ = some (.int .i64 n.1) ∧ w'.cell? ⟨w2.heap.size, 1, none⟩ = some (.int .i64 n.2.1) ∧ w'.cell? ⟨w2.heap.size, 2, none⟩ = some (.int .i64 n.2.2))
    (first | (refine pxn_cells i1) | (refine pxn_cells q1) | (refine pxn_cells q2) | fail)
    (first | (go_at_call 56; (with_reducible refine (MI.out _).mono ?_); rintro e v1 ⟨rfl, hv1⟩; have q1 := pxn_below i1 hv1; have d1 := Lib.hid (bstep b1.out hv1)) | (go_at_call 55; (with_reducible refine (SC.out _).mono ?_); rintro e v2 ⟨rfl, hv2⟩; have q2 := pxn_below q1 hv2; have d2 := Lib.hid (bstep d1.out hv2)) | fail)
  all_goals
    have Z3 := Lib.hid (owp_in Z2.out d2.out Z2.out.2.2.2.2)
    have M3 := Lib.hid (owp_in M2.out d2.out M2.out.2.2.2.2)
    have B3 := Lib.hid (bjoin B2.out d2.out)
    obtain ⟨m0, m1, m2, m3, m4⟩ := M3.out
    clear i1 b1 q1 d1 q2 hv1 hv2 d2
    go_wp2_with fail
    with_reducible refine (SL.out _).mono ?_
    rintro e w4 ⟨rfl, hb4⟩
    have Z4 := Lib.hid (owp_alloc (owp_below Z3.out hb4) (.cells #[.int .i64 p, .int .i64 q] 35))
    have B4 := Lib.hid (balloc (bstep B3.out hb4) (.cells #[.int .i64 p, .int .i64 q] 35))
    have S4 := Lib.hid (owp_new w4 (p, q) 35)
    clear m0 m1 m2 m3 m4 hb4
    obtain ⟨s0, s1, s2, s3, s4⟩ := S4.out
    go_wp2_with fail
    with_reducible refine (PT.out _).mono ?_
    rintro e w5 ⟨rfl, hb5⟩
    obtain ⟨o0, o1, o2, o3, o4⟩ := owp_below Z4.out hb5
    have hB := bstep B4.out hb5
    clear s0 s1 s2 s3 s4
    go_wp2
    refine bodyPost_ret (v := spr r) (by rw [results_cell_tmp rfl]; go_simp) rfl ⟨rfl, ?_⟩
    (repeat' (first | with_reducible exact hB | with_reducible refine Below.drew ?_ | (with_reducible refine Below.setCell ?_ (by simp <;> omega) _)))
theorem fsa_any (t : P9) (x : P3) (D : Int) (w : World) : Calls Try.prog 20 #[p9v t, ptv x, .int .i64 D] w fun e w' => e = .returned (spr (angF t x D)) ∧ Below w.heap.size w w' := by
  have M := fun W => meanc_any t x D W
  unfold angF angR
  by_cases h : (meF true t x D).2 = 0
  · rw [if_pos h]
    have hs : snc t x D = 0 := Classical.byContradiction fun k => by
      unfold meF at h
      rw [if_neg k] at h
      exact k h
    obtain ⟨hB, hx, d0, d3⟩ := snc_ok hs
    have hp : pcode t.1 t.2.1 t.2.2 = 0 := Classical.byContradiction fun k => by
      unfold snc at hs
      rw [if_neg k] at hs
      exact k hs
    generalize meF true t x D = m at *
    obtain ⟨⟨a, b⟩, c⟩ := m
    obtain rfl : c = 0 := h
    dsimp only
    have S := fun W => scale_any a b (hgt t x) W
    have NN := fun W => norm_any t.1 t.2.1 t.2.2 W
    rw [hp] at NN
    have MI := fun W => fminus_any t.1 x W ((bd320 hB.1 hx).mono (by decide))
    have SC := fun W => fscalar_any (sub t.1 x) (nrm t.1 t.2.1 t.2.2) W (pw_bd320 (bd320 hB.1 hx) (nrm_bd hB.1 hB.2.1 hB.2.2))
    rw [hgt_nrm] at SC
    by_cases k : (scaleR a b (hgt t x)).2 = 0
    · rw [if_pos k]
      have PT := fun W => part_any (scaleR a b (hgt t x)).1.1 (scaleR a b (hgt t x)).1.2 2 W
      generalize scaleR a b (hgt t x) = r at *
      obtain ⟨⟨p, q⟩, c⟩ := r
      obtain rfl : c = 0 := k
      exact fsa_ok t x _ _ D a b _ p q _ w (Lib.hid M) (Lib.hid NN) (Lib.hid MI) (Lib.hid SC) (Lib.hid S) (Lib.hid PT)
    · rw [if_neg k]
      generalize scaleR a b (hgt t x) = r at *
      obtain ⟨⟨p, q⟩, c⟩ := r
      exact fsa_e2 t x _ _ D a b _ p q c w (Lib.hid M) (Lib.hid NN) (Lib.hid MI) (Lib.hid SC) (Lib.hid S) (bne_iff_ne.2 k)
  · rw [if_neg h]
    generalize meF true t x D = m at *
    obtain ⟨⟨a, b⟩, c⟩ := m
    exact fsa_e1 t x D a b c w (Lib.hid M) (bne_iff_ne.2 h)
set_option maxRecDepth 100000 in
theorem rsa_e1 (t : P9) (x : P3) (D a b c : Int) (w : World) (M : Hid (∀ W, Calls Try.prog 19 #[pnv t.1 t.2.1 t.2.2, ptv x, .int .i64 D] W fun e w' => e = .returned (spr ((a, b), c)) ∧ Below W.heap.size W w')) (z : (c != 0) = true) : Calls Try.prog 21 #[pnv t.1 t.2.1 t.2.2, ptv x, .int .i64 D] w fun e w' => e = .returned (spr ((0, 0), c)) ∧ Below w.heap.size w w' := by
  have P0 := Lib.hid (pan_alloc (pan_alloc (pan_new w t.1 t.2.1 t.2.2 25) (ptc x 23)) (.cells #[.int .i64 0, .int .i64 0] 35))
  have X0 := Lib.hid (own_alloc (own_new (w.alloc (pnc t.1 t.2.1 t.2.2 25)) x 23) (.cells #[.int .i64 0, .int .i64 0] 35))
  have Z0 := Lib.hid (owp_new ((w.alloc (pnc t.1 t.2.1 t.2.2 25)).alloc (ptc x 23)) (0, 0) 35)
  simp only [World.size_alloc] at X0 Z0
  have B0 := Lib.hid (show Below w.heap.size w (((w.alloc (pnc t.1 t.2.1 t.2.2 25)).alloc (ptc x 23)).alloc (.cells #[.int .i64 0, .int .i64 0] 35)) by (repeat' (first | exact Below.refl _ _ | refine Below.setCell ?_ (by simp <;> omega) _ | refine balloc ?_ _ | refine Below.drew ?_ | refine bdrewN ?_ _)))
  obtain ⟨k0, k1, k2, k3, k4, k5, k6, k7, k8, k9⟩ := P0.out
  obtain ⟨x0, x1, x2, x3, x4, x5, x6⟩ := X0.out
  go_enter Try.func21, Try.ntmps21
  go_wp2_with fail
  with_reducible refine (M.out _).mono ?_
  rintro e w1 ⟨rfl, hb1⟩
  clear k0 k1 k2 k3 k4 k5 k6 k7 k8 k9 x0 x1 x2 x3 x4 x5 x6
  have P1 := Lib.hid (pan_alloc (pan_below P0.out hb1) (.cells #[.int .i64 a, .int .i64 b] 35))
  have X1 := Lib.hid (own_alloc (own_below X0.out hb1) (.cells #[.int .i64 a, .int .i64 b] 35))
  have Z1 := Lib.hid (owp_alloc (owp_below Z0.out hb1) (.cells #[.int .i64 a, .int .i64 b] 35))
  have B1 := Lib.hid (balloc (bstep B0.out hb1) (.cells #[.int .i64 a, .int .i64 b] 35))
  have M1 := Lib.hid (owp_new w1 (a, b) 35)
  clear P0 X0 Z0 B0 hb1
  obtain ⟨o0, o1, o2, o3, o4⟩ := Z1.out
  have hB := B1.out
  go_wp2
  refine bodyPost_ret (v := spr ((0, 0), c)) (by rw [results_cell_tmp rfl]; go_simp) rfl ⟨rfl, ?_⟩
  (repeat' (first | with_reducible exact hB | with_reducible refine Below.drew ?_ | (with_reducible refine Below.setCell ?_ (by simp <;> omega) _)))
set_option maxRecDepth 100000 in
set_option maxHeartbeats 4000000 in
theorem rsa_e2 (t : P9) (x : P3) (D a b h p q c : Int) (w : World) (M : Hid (∀ W, Calls Try.prog 19 #[pnv t.1 t.2.1 t.2.2, ptv x, .int .i64 D] W fun e w' => e = .returned (spr ((a, b), 0)) ∧ Below W.heap.size W w')) (HC : Hid (∀ W, Calls Try.prog 59 #[pnv t.1 t.2.1 t.2.2, ptv x] W fun e w' => e = .returned (.int .i64 h) ∧ Below W.heap.size W w')) (SL : Hid (∀ W, Calls Try.prog 58 #[spv a b, .int .i64 h] W fun e w' => e = .returned (spr ((p, q), c)) ∧ Below W.heap.size W w')) (z : (c != 0) = true) : Calls Try.prog 21 #[pnv t.1 t.2.1 t.2.2, ptv x, .int .i64 D] w fun e w' => e = .returned (spr ((0, 0), c)) ∧ Below w.heap.size w w' := by
  have P0 := Lib.hid (pan_alloc (pan_alloc (pan_new w t.1 t.2.1 t.2.2 25) (ptc x 23)) (.cells #[.int .i64 0, .int .i64 0] 35))
  have X0 := Lib.hid (own_alloc (own_new (w.alloc (pnc t.1 t.2.1 t.2.2 25)) x 23) (.cells #[.int .i64 0, .int .i64 0] 35))
  have Z0 := Lib.hid (owp_new ((w.alloc (pnc t.1 t.2.1 t.2.2 25)).alloc (ptc x 23)) (0, 0) 35)
  simp only [World.size_alloc] at X0 Z0
  have B0 := Lib.hid (show Below w.heap.size w (((w.alloc (pnc t.1 t.2.1 t.2.2 25)).alloc (ptc x 23)).alloc (.cells #[.int .i64 0, .int .i64 0] 35)) by (repeat' (first | exact Below.refl _ _ | refine Below.setCell ?_ (by simp <;> omega) _ | refine balloc ?_ _ | refine Below.drew ?_ | refine bdrewN ?_ _)))
  obtain ⟨k0, k1, k2, k3, k4, k5, k6, k7, k8, k9⟩ := P0.out
  obtain ⟨x0, x1, x2, x3, x4, x5, x6⟩ := X0.out
  go_enter Try.func21, Try.ntmps21
  go_wp2_with fail
  with_reducible refine (M.out _).mono ?_
  rintro e w1 ⟨rfl, hb1⟩
  clear k0 k1 k2 k3 k4 k5 k6 k7 k8 k9 x0 x1 x2 x3 x4 x5 x6
  have P1 := Lib.hid (pan_alloc (pan_below P0.out hb1) (.cells #[.int .i64 a, .int .i64 b] 35))
  have X1 := Lib.hid (own_alloc (own_below X0.out hb1) (.cells #[.int .i64 a, .int .i64 b] 35))
  have Z1 := Lib.hid (owp_alloc (owp_below Z0.out hb1) (.cells #[.int .i64 a, .int .i64 b] 35))
  have B1 := Lib.hid (balloc (bstep B0.out hb1) (.cells #[.int .i64 a, .int .i64 b] 35))
  have M1 := Lib.hid (owp_new w1 (a, b) 35)
  clear P0 X0 Z0 B0 hb1
  obtain ⟨m0, m1, m2, m3, m4⟩ := M1.out
  go_wp2_with fail
  rename_i K8 hK8
  have HK8 := Lib.hid hK8
  clear hK8 m0 m1 m2 m3 m4
  have NS := Lib.hid (show w.heap.size + 1 + 1 < (w1.alloc (.cells #[.int .i64 a, .int .i64 b] 35)).heap.size ∧ w1.heap.size < (w1.alloc (.cells #[.int .i64 a, .int .i64 b] 35)).heap.size from ⟨Z1.out.2.2.2.2, M1.out.2.2.2.2⟩)
  refine rsg_reg (fun W => (Pan W w.heap.size t.1 t.2.1 t.2.2 ∧ Own W (w.heap.size + 1) x) ∧ OwP W w1.heap.size (a, b) ∧ OwP W (w.heap.size + 1 + 1) (0, 0) ∧ Below w.heap.size w W) (w1.alloc (.cells #[.int .i64 a, .int .i64 b] 35)).heap.size w.heap.size (w.heap.size + 1) w1.heap.size t x ((a, b), 0) ((p, q), c) h (Lib.hid HC.out) (Lib.hid SL.out) (Lib.hid fun W g => ?_) (Lib.hid fun W W' hb g => ?_) (Nat.le_refl _) ⟨⟨pan_drew P1.out, own_drew X1.out⟩, M1.out, Z1.out, Below.drew B1.out⟩ ?_
  · have z := pax_cells g.1
    exact ⟨g.2.1.1, g.2.1.2.1, z⟩
  · have n := NS.out
    exact ⟨⟨pan_in' g.1.1 hb (by omega), own_in' g.1.2 hb (by omega)⟩, owp_in g.2.1 hb (by omega), owp_in g.2.2.1 hb (by omega), g.2.2.2.trans (hb.mono (by omega))⟩
  intro x22 x23 x24 x25 x26 x27 x28 x29 b0 W' hN g no ow
  have Z4 := Lib.hid g.2.2.1
  have B4 := Lib.hid g.2.2.2
  have S4 := Lib.hid ow
  clear g ow
  refine HK8.out _ _ ?_
  clear HK8
  obtain ⟨o0, o1, o2, o3, o4⟩ := Z4.out
  have hB := B4.out
  go_wp2
  refine bodyPost_ret (v := spr ((0, 0), c)) (by rw [results_cell_tmp rfl]; go_simp) rfl ⟨rfl, ?_⟩
  (repeat' (first | with_reducible exact hB | with_reducible refine Below.drew ?_ | (with_reducible refine Below.setCell ?_ (by simp <;> omega) _)))
set_option maxRecDepth 100000 in
set_option maxHeartbeats 4000000 in
theorem rsa_ok (t : P9) (x : P3) (D a b h p q : Int) (r : Sp.R) (w : World) (M : Hid (∀ W, Calls Try.prog 19 #[pnv t.1 t.2.1 t.2.2, ptv x, .int .i64 D] W fun e w' => e = .returned (spr ((a, b), 0)) ∧ Below W.heap.size W w')) (HC : Hid (∀ W, Calls Try.prog 59 #[pnv t.1 t.2.1 t.2.2, ptv x] W fun e w' => e = .returned (.int .i64 h) ∧ Below W.heap.size W w')) (SL : Hid (∀ W, Calls Try.prog 58 #[spv a b, .int .i64 h] W fun e w' => e = .returned (spr ((p, q), 0)) ∧ Below W.heap.size W w')) (PT : Hid (∀ W, Calls Try.prog 60 #[spv p q, .int .i64 2] W fun e w' => e = .returned (spr r) ∧ Below W.heap.size W w')) : Calls Try.prog 21 #[pnv t.1 t.2.1 t.2.2, ptv x, .int .i64 D] w fun e w' => e = .returned (spr r) ∧ Below w.heap.size w w' := by
  have P0 := Lib.hid (pan_alloc (pan_alloc (pan_new w t.1 t.2.1 t.2.2 25) (ptc x 23)) (.cells #[.int .i64 0, .int .i64 0] 35))
  have X0 := Lib.hid (own_alloc (own_new (w.alloc (pnc t.1 t.2.1 t.2.2 25)) x 23) (.cells #[.int .i64 0, .int .i64 0] 35))
  have Z0 := Lib.hid (owp_new ((w.alloc (pnc t.1 t.2.1 t.2.2 25)).alloc (ptc x 23)) (0, 0) 35)
  simp only [World.size_alloc] at X0 Z0
  have B0 := Lib.hid (show Below w.heap.size w (((w.alloc (pnc t.1 t.2.1 t.2.2 25)).alloc (ptc x 23)).alloc (.cells #[.int .i64 0, .int .i64 0] 35)) by (repeat' (first | exact Below.refl _ _ | refine Below.setCell ?_ (by simp <;> omega) _ | refine balloc ?_ _ | refine Below.drew ?_ | refine bdrewN ?_ _)))
  obtain ⟨k0, k1, k2, k3, k4, k5, k6, k7, k8, k9⟩ := P0.out
  obtain ⟨x0, x1, x2, x3, x4, x5, x6⟩ := X0.out
  go_enter Try.func21, Try.ntmps21
  go_wp2_with fail
  with_reducible refine (M.out _).mono ?_
  rintro e w1 ⟨rfl, hb1⟩
  clear k0 k1 k2 k3 k4 k5 k6 k7 k8 k9 x0 x1 x2 x3 x4 x5 x6
  have P1 := Lib.hid (pan_alloc (pan_below P0.out hb1) (.cells #[.int .i64 a, .int .i64 b] 35))
  have X1 := Lib.hid (own_alloc (own_below X0.out hb1) (.cells #[.int .i64 a, .int .i64 b] 35))
  have Z1 := Lib.hid (owp_alloc (owp_below Z0.out hb1) (.cells #[.int .i64 a, .int .i64 b] 35))
  have B1 := Lib.hid (balloc (bstep B0.out hb1) (.cells #[.int .i64 a, .int .i64 b] 35))
  have M1 := Lib.hid (owp_new w1 (a, b) 35)
  clear P0 X0 Z0 B0 hb1
  obtain ⟨m0, m1, m2, m3, m4⟩ := M1.out
  go_wp2_with fail
  rename_i K8 hK8
  have HK8 := Lib.hid hK8
  clear hK8 m0 m1 m2 m3 m4
  have NS := Lib.hid (show w.heap.size + 1 + 1 < (w1.alloc (.cells #[.int .i64 a, .int .i64 b] 35)).heap.size ∧ w1.heap.size < (w1.alloc (.cells #[.int .i64 a, .int .i64 b] 35)).heap.size from ⟨Z1.out.2.2.2.2, M1.out.2.2.2.2⟩)
  refine rsg_reg (fun W => (Pan W w.heap.size t.1 t.2.1 t.2.2 ∧ Own W (w.heap.size + 1) x) ∧ OwP W w1.heap.size (a, b) ∧ OwP W (w.heap.size + 1 + 1) (0, 0) ∧ Below w.heap.size w W) (w1.alloc (.cells #[.int .i64 a, .int .i64 b] 35)).heap.size w.heap.size (w.heap.size + 1) w1.heap.size t x ((a, b), 0) ((p, q), 0) h (Lib.hid HC.out) (Lib.hid SL.out) (Lib.hid fun W g => ?_) (Lib.hid fun W W' hb g => ?_) (Nat.le_refl _) ⟨⟨pan_drew P1.out, own_drew X1.out⟩, M1.out, Z1.out, Below.drew B1.out⟩ ?_
  · have z := pax_cells g.1
    exact ⟨g.2.1.1, g.2.1.2.1, z⟩
  · have n := NS.out
    exact ⟨⟨pan_in' g.1.1 hb (by omega), own_in' g.1.2 hb (by omega)⟩, owp_in g.2.1 hb (by omega), owp_in g.2.2.1 hb (by omega), g.2.2.2.trans (hb.mono (by omega))⟩
  intro x22 x23 x24 x25 x26 x27 x28 x29 b0 W' hN g no ow
  have Z4 := Lib.hid g.2.2.1
  have B4 := Lib.hid g.2.2.2
  have S4 := Lib.hid ow
  clear g ow
  refine HK8.out _ _ ?_
  clear HK8
  obtain ⟨s0, s1, s2, s3, s4⟩ := S4.out
  go_wp2_with fail
  with_reducible refine (PT.out _).mono ?_
  rintro e w5 ⟨rfl, hb5⟩
  obtain ⟨o0, o1, o2, o3, o4⟩ := owp_below Z4.out hb5
  have hB := bstep B4.out hb5
  clear s0 s1 s2 s3 s4
  go_wp2
  refine bodyPost_ret (v := spr r) (by rw [results_cell_tmp rfl]; go_simp) rfl ⟨rfl, ?_⟩
  (repeat' (first | with_reducible exact hB | with_reducible refine Below.drew ?_ | (with_reducible refine Below.setCell ?_ (by simp <;> omega) _)))
theorem rsa_any (t : P9) (x : P3) (D : Int) (w : World) : Calls Try.prog 21 #[p9v t, ptv x, .int .i64 D] w fun e w' => e = .returned (spr (angF t x D)) ∧ Below w.heap.size w w' := by
  have M := fun W => rmeant_any t x D W
  unfold angF angR
  by_cases h : (meF true t x D).2 = 0
  · rw [if_pos h]
    have hs : snc t x D = 0 := Classical.byContradiction fun k => by
      unfold meF at h
      rw [if_neg k] at h
      exact k h
    obtain ⟨hB, hx, d0, d3⟩ := snc_ok hs
    have hp : pcode t.1 t.2.1 t.2.2 = 0 := Classical.byContradiction fun k => by
      unfold snc at hs
      rw [if_neg k] at hs
      exact k hs
    generalize meF true t x D = m at *
    obtain ⟨⟨a, b⟩, c⟩ := m
    obtain rfl : c = 0 := h
    dsimp only
    have S := fun W => rscale_any a b (hgt t x) W
    have HC := fun W => hgt_any t x W hB hx
    by_cases k : (scaleR a b (hgt t x)).2 = 0
    · rw [if_pos k]
      have PT := fun W => rpart_any (scaleR a b (hgt t x)).1.1 (scaleR a b (hgt t x)).1.2 2 W
      generalize scaleR a b (hgt t x) = r at *
      obtain ⟨⟨p, q⟩, c⟩ := r
      obtain rfl : c = 0 := k
      exact rsa_ok t x D a b _ p q _ w (Lib.hid M) (Lib.hid HC) (Lib.hid S) (Lib.hid PT)
    · rw [if_neg k]
      generalize scaleR a b (hgt t x) = r at *
      obtain ⟨⟨p, q⟩, c⟩ := r
      exact rsa_e2 t x D a b _ p q c w (Lib.hid M) (Lib.hid HC) (Lib.hid S) (bne_iff_ne.2 k)
  · rw [if_neg h]
    generalize meF true t x D = m at *
    obtain ⟨⟨a, b⟩, c⟩ := m
    exact rsa_e1 t x D a b c w (Lib.hid M) (bne_iff_ne.2 h)

end Go.Proofs.Ytjigcgpcglfjfaa
