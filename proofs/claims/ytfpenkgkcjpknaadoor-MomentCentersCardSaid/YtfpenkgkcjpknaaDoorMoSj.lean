/-
  The contract of the document's Shift for moments, and what both Shifts answer.
-/
import Derived.Test.YtfpenkgkcjpknaaDoorMoSi
namespace Go.Proofs.YtfpenkgkcjpknaaDoor
open Go.ChangeShapes Go.WideShapes Go.RowKit
open Sh
set_option maxHeartbeats 1000000 in
theorem rmshf_bad (m : Mo) (t : P3) (w : World) (h : mokB m = false) :
    Calls Tryd.prog 28 #[mov m, ptv t] w fun e w' => e = .returned (.tuple #[mov0, .int .i64 1]) ∧ Below w.heap.size w w' := by
  have V := Lib.hid (fun W => rmval_bad m W h)
  clear h
  go_enter Tryd.func28, Tryd.ntmps28
  go_wp2_with fail
  refine (V.out _).mono ?_
  rintro e w1 ⟨rfl, hb1⟩
  have PM := Lib.hid (ownMo_below (ownMo_alloc (ownMo_alloc (ownMo_new w m 28) (ptc t 24)) (mob0 28)) hb1)
  have PT := Lib.hid (by have z := own_below (own_alloc (own_new (w.alloc (mob m 28)) t 24) (mob0 28)) hb1; simp only [World.size_alloc] at z; exact z : Own w1 (w.heap.size + 1) t)
  have PR := Lib.hid (by have z := ownMo_below (ownMo_new0 ((w.alloc (mob m 28)).alloc (ptc t 24)) 28) hb1; simp only [World.size_alloc] at z; exact z : OwnMo w1 (w.heap.size + 1 + 1) mzero)
  have B1 := Lib.hid (bstep (balloc (balloc (balloc (Below.refl _ w) _) _) _) hb1)
  clear hb1
  have OR' := PR.out
  simp only [OwnMo, mzero] at OR'
  obtain ⟨⟨y0, y1, y2, y3, y4, y5, y6, y7, y8, y9, y10⟩, ⟨g0, g1, g2, g3, g4, g5, g6, g7, g8, g9, g10⟩, lr⟩ := OR'
  go_wp2
  refine bodyPost_ret (v := .tuple #[mov0, .int .i64 1]) (by rw [results_cell_tmp rfl]; go_simp) rfl ⟨rfl, ?_⟩
  exact below_put11 B1.out (by omega)
set_option maxHeartbeats 1000000 in
theorem rmshf_far (m : Mo) (t : P3) (w : World) (h : mokB m = true) (hk : inP 128 t = false) :
    Calls Tryd.prog 28 #[mov m, ptv t] w fun e w' => e = .returned (.tuple #[mov0, .int .i64 1]) ∧ Below w.heap.size w w' := by
  have V := Lib.hid (fun W => rmval_ok m W h)
  have I : Hid (∀ W, Calls Tryd.prog 29 #[ptv t, .int .i64 128] W fun e w' => e = .returned (.bool false) ∧ Below W.heap.size W w') := Lib.hid (fun W => by have z := small_any t 128 W (by decide) (by decide); rw [hk] at z; exact z)
  clear h hk
  go_enter Tryd.func28, Tryd.ntmps28
  go_wp2_with fail
  refine (V.out _).mono ?_
  rintro e w1 ⟨rfl, hb1⟩
  have PM := Lib.hid (ownMo_below (ownMo_alloc (ownMo_alloc (ownMo_new w m 28) (ptc t 24)) (mob0 28)) hb1)
  have PT := Lib.hid (by have z := own_below (own_alloc (own_new (w.alloc (mob m 28)) t 24) (mob0 28)) hb1; simp only [World.size_alloc] at z; exact z : Own w1 (w.heap.size + 1) t)
  have PR := Lib.hid (by have z := ownMo_below (ownMo_new0 ((w.alloc (mob m 28)).alloc (ptc t 24)) 28) hb1; simp only [World.size_alloc] at z; exact z : OwnMo w1 (w.heap.size + 1 + 1) mzero)
  have B1 := Lib.hid (bstep (balloc (balloc (balloc (Below.refl _ w) _) _) _) hb1)
  clear hb1
  have PT' := PT.out
  obtain ⟨t1, t2, t3, t4, t5, t6, t7⟩ := PT'
  go_wp2_with fail
  refine (I.out _).mono ?_
  rintro e w2 ⟨rfl, hb2⟩
  clear t1 t2 t3 t4 t5 t6 t7
  have PM := Lib.hid (ownMo_below PM.out hb2)
  have PR := Lib.hid (ownMo_below PR.out hb2)
  have PT := Lib.hid (own_below PT.out hb2)
  have B2 := Lib.hid (bstep B1.out hb2)
  clear hb2
  have OR' := PR.out
  simp only [OwnMo, mzero] at OR'
  obtain ⟨⟨y0, y1, y2, y3, y4, y5, y6, y7, y8, y9, y10⟩, ⟨g0, g1, g2, g3, g4, g5, g6, g7, g8, g9, g10⟩, lr⟩ := OR'
  go_wp2
  refine bodyPost_ret (v := .tuple #[mov0, .int .i64 1]) (by rw [results_cell_tmp rfl]; go_simp) rfl ⟨rfl, ?_⟩
  exact below_put11 B2.out (by omega)
set_option maxRecDepth 100000 in
set_option maxHeartbeats 4000000 in
theorem rmshf_row (m : Mo) (t : P3) (w : World) (h : mokB m = true) (hk : inP 128 t = true) :
    Calls Tryd.prog 28 #[mov m, ptv t] w fun e w' => e = .returned (.tuple #[mov (mtold (mshift m t)), .int .i64 (mlarge (mshift m t))]) ∧ Below w.heap.size w w' := by
  have V := Lib.hid (fun W => rmval_ok m W h)
  have I : Hid (∀ W, Calls Tryd.prog 29 #[ptv t, .int .i64 128] W fun e w' => e = .returned (.bool true) ∧ Below W.heap.size W w') := Lib.hid (fun W => by have z := small_any t 128 W (by decide) (by decide); rw [hk] at z; exact z)
  obtain ⟨mt, mc, hd, z0, z1, z2, z3, z4, z5⟩ := mokB_iff.1 h
  have hk' := inP_iff.1 hk
  have N0 := Lib.hid (sh_bd (s := m.s0) (c := m.c) (di := m.d.1) (dj := m.d.1) (ti := t.1) (tj := t.1) ⟨by omega, by omega⟩ z0 (cor1 hd) (cor1 hd) (cor1 hk') (cor1 hk'))
  have N1 := Lib.hid (sh_bd (s := m.s1) (c := m.c) (di := m.d.1) (dj := m.d.2.1) (ti := t.1) (tj := t.2.1) ⟨by omega, by omega⟩ z1 (cor1 hd) (cor2 hd) (cor1 hk') (cor2 hk'))
  have N2 := Lib.hid (sh_bd (s := m.s2) (c := m.c) (di := m.d.1) (dj := m.d.2.2) (ti := t.1) (tj := t.2.2) ⟨by omega, by omega⟩ z2 (cor1 hd) (cor3 hd) (cor1 hk') (cor3 hk'))
  have N3 := Lib.hid (sh_bd (s := m.s3) (c := m.c) (di := m.d.2.1) (dj := m.d.2.1) (ti := t.2.1) (tj := t.2.1) ⟨by omega, by omega⟩ z3 (cor2 hd) (cor2 hd) (cor2 hk') (cor2 hk'))
  have N4 := Lib.hid (sh_bd (s := m.s4) (c := m.c) (di := m.d.2.1) (dj := m.d.2.2) (ti := t.2.1) (tj := t.2.2) ⟨by omega, by omega⟩ z4 (cor2 hd) (cor3 hd) (cor2 hk') (cor3 hk'))
  have N5 := Lib.hid (sh_bd (s := m.s5) (c := m.c) (di := m.d.2.2) (dj := m.d.2.2) (ti := t.2.2) (tj := t.2.2) ⟨by omega, by omega⟩ z5 (cor3 hd) (cor3 hd) (cor3 hk') (cor3 hk'))
  have TB := Lib.hid (tim_bd (K := 3145728) (k := 3 * m.c) (by omega) (by omega) hk')
  have HD := Lib.hid hd
  have NL : Hid (∀ W, Calls Tryd.prog 55 #[mov (mshift m t)] W fun e w' => e = .returned (.tuple #[mov (mtold (mshift m t)), .int .i64 (mlarge (mshift m t))]) ∧ Below W.heap.size W w') := Lib.hid (fun W => rtd_any (mshift m t) W)
  obtain ⟨R, hR⟩ : ∃ R, mtold (mshift m t) = R := ⟨_, rfl⟩
  obtain ⟨E, hE⟩ : ∃ E, mlarge (mshift m t) = E := ⟨_, rfl⟩
  rw [hR, hE] at NL ⊢
  clear hR hE h hk hk' mt mc hd z0 z1 z2 z3 z4 z5
  go_enter Tryd.func28, Tryd.ntmps28
  go_wp2_with fail
  refine (V.out _).mono ?_
  rintro e w1 ⟨rfl, hb1⟩
  have PM := Lib.hid (ownMo_below (ownMo_alloc (ownMo_alloc (ownMo_new w m 28) (ptc t 24)) (mob0 28)) hb1)
  have PT := Lib.hid (by have z := own_below (own_alloc (own_new (w.alloc (mob m 28)) t 24) (mob0 28)) hb1; simp only [World.size_alloc] at z; exact z : Own w1 (w.heap.size + 1) t)
  have PR := Lib.hid (by have z := ownMo_below (ownMo_new0 ((w.alloc (mob m 28)).alloc (ptc t 24)) 28) hb1; simp only [World.size_alloc] at z; exact z : OwnMo w1 (w.heap.size + 1 + 1) mzero)
  have B1 := Lib.hid (bstep (balloc (balloc (balloc (Below.refl _ w) _) _) _) hb1)
  clear hb1
  have PT' := PT.out
  obtain ⟨t1, t2, t3, t4, t5, t6, t7⟩ := PT'
  go_wp2_with fail
  refine (I.out _).mono ?_
  rintro e w2 ⟨rfl, hb2⟩
  clear t1 t2 t3 t4 t5 t6 t7
  have PM := Lib.hid (ownMo_below PM.out hb2)
  have PR := Lib.hid (ownMo_below PR.out hb2)
  have PT := Lib.hid (own_below PT.out hb2)
  have B2 := Lib.hid (bstep B1.out hb2)
  clear hb2
  have PM' := PM.out
  obtain ⟨⟨x0, x1, x2, x3, x4, x5, x6, x7, x8, x9, x10⟩, ⟨f0, f1, f2, f3, f4, f5, f6, f7, f8, f9, f10⟩, lx⟩ := PM'
  have PT' := PT.out
  obtain ⟨r1, r2, r3, r4, r5, r6, r7⟩ := PT'
  go_wp2
  refine wp_loop_rounds 4 ?_
  rw [rounds_succ]
  go_wp2
  refine wp_loop_rounds 4 ?_
  rw [rounds_succ]
  obtain ⟨⟨u1, u2⟩, ⟨u3, u4⟩, ⟨u5, u6⟩, ⟨u7, u8⟩, ⟨u9, u10⟩, u11, u12⟩ := N0.out
  go_wp2
  have L2 := Lib.hid (show w.heap.size + 1 + 1 < w2.heap.size from PR.out.2.2)
  have PM := ownMo_alloc (ownMo_alloc PM.out (ptc m.d 63)) (ptc t 63)
  have PR := ownMo_alloc (ownMo_alloc PR.out (ptc m.d 63)) (ptc t 63)
  have PD := own_alloc (own_new w2 m.d 63) (ptc t 63)
  have PV := own_new (w2.alloc (ptc m.d 63)) t 63
  simp only [World.size_alloc] at PV
  have BB := balloc (balloc B2.out (ptc m.d 63)) (ptc t 63)
  clear x0 x1 x2 x3 x4 x5 x6 x7 x8 x9 x10 f0 f1 f2 f3 f4 f5 f6 f7 f8 f9 f10 lx r1 r2 r3 r4 r5 r6 r7
  generalize ((w2.alloc (ptc m.d 63)).alloc (ptc t 63)) = W0 at *
  have PM := Lib.hid PM
  have PR := Lib.hid PR
  have PD := Lib.hid PD
  have PV := Lib.hid PV
  have BB := Lib.hid BB
  have PM' := PM.out
  have PD' := PD.out
  have PV' := PV.out
  obtain ⟨⟨x0, x1, x2, x3, x4, x5, x6, x7, x8, x9, x10⟩, ⟨f0, f1, f2, f3, f4, f5, f6, f7, f8, f9, f10⟩, lx⟩ := PM'
  obtain ⟨t1, t2, t3, t4, t5, t6, t7⟩ := PV'
  obtain ⟨d1, d2, d3, d4, d5, d6, d7⟩ := PD'
  go_still_tail 35, (by kernel_rfl)
  change wpList _ _ _ _ _ (World.drew _)
  go_wp2
  clear u1 u2 u3 u4 u5 u6 u7 u8 u9 u10 u11 u12
  rw [rounds_succ]
  obtain ⟨⟨u1, u2⟩, ⟨u3, u4⟩, ⟨u5, u6⟩, ⟨u7, u8⟩, ⟨u9, u10⟩, u11, u12⟩ := N1.out
  go_wp2
  have PM := ownMo_drew (ownMo_put5 PM.out (m.s0 + (12 * m.c * t.1 * t.1 - 4 * (m.d.1 * t.1 + t.1 * m.d.1))))
  have PR := ownMo_drew (ownMo_set (o := 5) (v := .int .i64 (m.s0 + (12 * m.c * t.1 * t.1 - 4 * (m.d.1 * t.1 + t.1 * m.d.1)))) PR.out (show w.heap.size + 1 + 1 ≠ w.heap.size by omega))
  have PD := own_drew (own_set (o := 5) (v := .int .i64 (m.s0 + (12 * m.c * t.1 * t.1 - 4 * (m.d.1 * t.1 + t.1 * m.d.1)))) PD.out (show w2.heap.size ≠ w.heap.size by have := L2.out; omega))
  have PV := own_drew (own_set (o := 5) (v := .int .i64 (m.s0 + (12 * m.c * t.1 * t.1 - 4 * (m.d.1 * t.1 + t.1 * m.d.1)))) PV.out (show w2.heap.size + 1 ≠ w.heap.size by have := L2.out; omega))
  have BB := Below.drew (below_set1 (o := 5) (v := .int .i64 (m.s0 + (12 * m.c * t.1 * t.1 - 4 * (m.d.1 * t.1 + t.1 * m.d.1)))) BB.out (Nat.le_refl _))
  clear x0 x1 x2 x3 x4 x5 x6 x7 x8 x9 x10 f0 f1 f2 f3 f4 f5 f6 f7 f8 f9 f10 lx t1 t2 t3 t4 t5 t6 t7 d1 d2 d3 d4 d5 d6 d7
  generalize (W0.setCell ⟨w.heap.size, 5, none⟩ (.int .i64 (m.s0 + (12 * m.c * t.1 * t.1 - 4 * (m.d.1 * t.1 + t.1 * m.d.1))))).drew = W1 at *
  have PM := Lib.hid PM
  have PR := Lib.hid PR
  have PD := Lib.hid PD
  have PV := Lib.hid PV
  have BB := Lib.hid BB
  have PM' := PM.out
  have PD' := PD.out
  have PV' := PV.out
  obtain ⟨⟨x0, x1, x2, x3, x4, x5, x6, x7, x8, x9, x10⟩, ⟨f0, f1, f2, f3, f4, f5, f6, f7, f8, f9, f10⟩, lx⟩ := PM'
  obtain ⟨t1, t2, t3, t4, t5, t6, t7⟩ := PV'
  obtain ⟨d1, d2, d3, d4, d5, d6, d7⟩ := PD'
  go_still_tail 35, (by kernel_rfl)
  change wpList _ _ _ _ _ (World.drew _)
  go_wp2
  clear u1 u2 u3 u4 u5 u6 u7 u8 u9 u10 u11 u12
  rw [rounds_succ]
  obtain ⟨⟨u1, u2⟩, ⟨u3, u4⟩, ⟨u5, u6⟩, ⟨u7, u8⟩, ⟨u9, u10⟩, u11, u12⟩ := N2.out
  go_wp2
  have PM := ownMo_drew (ownMo_put6 PM.out (m.s1 + (12 * m.c * t.1 * t.2.1 - 4 * (m.d.1 * t.2.1 + t.1 * m.d.2.1))))
  have PR := ownMo_drew (ownMo_set (o := 6) (v := .int .i64 (m.s1 + (12 * m.c * t.1 * t.2.1 - 4 * (m.d.1 * t.2.1 + t.1 * m.d.2.1)))) PR.out (show w.heap.size + 1 + 1 ≠ w.heap.size by omega))
  have PD := own_drew (own_set (o := 6) (v := .int .i64 (m.s1 + (12 * m.c * t.1 * t.2.1 - 4 * (m.d.1 * t.2.1 + t.1 * m.d.2.1)))) PD.out (show w2.heap.size ≠ w.heap.size by have := L2.out; omega))
  have PV := own_drew (own_set (o := 6) (v := .int .i64 (m.s1 + (12 * m.c * t.1 * t.2.1 - 4 * (m.d.1 * t.2.1 + t.1 * m.d.2.1)))) PV.out (show w2.heap.size + 1 ≠ w.heap.size by have := L2.out; omega))
  have BB := Below.drew (below_set1 (o := 6) (v := .int .i64 (m.s1 + (12 * m.c * t.1 * t.2.1 - 4 * (m.d.1 * t.2.1 + t.1 * m.d.2.1)))) BB.out (Nat.le_refl _))
  clear x0 x1 x2 x3 x4 x5 x6 x7 x8 x9 x10 f0 f1 f2 f3 f4 f5 f6 f7 f8 f9 f10 lx t1 t2 t3 t4 t5 t6 t7 d1 d2 d3 d4 d5 d6 d7
  generalize (W1.setCell ⟨w.heap.size, 6, none⟩ (.int .i64 (m.s1 + (12 * m.c * t.1 * t.2.1 - 4 * (m.d.1 * t.2.1 + t.1 * m.d.2.1))))).drew = W2 at *
  have PM := Lib.hid PM
  have PR := Lib.hid PR
  have PD := Lib.hid PD
  have PV := Lib.hid PV
  have BB := Lib.hid BB
  have PM' := PM.out
  have PD' := PD.out
  have PV' := PV.out
  obtain ⟨⟨x0, x1, x2, x3, x4, x5, x6, x7, x8, x9, x10⟩, ⟨f0, f1, f2, f3, f4, f5, f6, f7, f8, f9, f10⟩, lx⟩ := PM'
  obtain ⟨t1, t2, t3, t4, t5, t6, t7⟩ := PV'
  obtain ⟨d1, d2, d3, d4, d5, d6, d7⟩ := PD'
  go_still_tail 35, (by kernel_rfl)
  change wpList _ _ _ _ _ (World.drew _)
  go_wp2
  clear u1 u2 u3 u4 u5 u6 u7 u8 u9 u10 u11 u12
  rw [rounds_succ]
  go_wp2
  rw [rounds_succ]
  go_wp2
  refine wp_loop_rounds 3 ?_
  rw [rounds_succ]
  obtain ⟨⟨u1, u2⟩, ⟨u3, u4⟩, ⟨u5, u6⟩, ⟨u7, u8⟩, ⟨u9, u10⟩, u11, u12⟩ := N3.out
  go_wp2
  have PM := ownMo_drew (ownMo_put7 PM.out (m.s2 + (12 * m.c * t.1 * t.2.2 - 4 * (m.d.1 * t.2.2 + t.1 * m.d.2.2))))
  have PR := ownMo_drew (ownMo_set (o := 7) (v := .int .i64 (m.s2 + (12 * m.c * t.1 * t.2.2 - 4 * (m.d.1 * t.2.2 + t.1 * m.d.2.2)))) PR.out (show w.heap.size + 1 + 1 ≠ w.heap.size by omega))
  have PD := own_drew (own_set (o := 7) (v := .int .i64 (m.s2 + (12 * m.c * t.1 * t.2.2 - 4 * (m.d.1 * t.2.2 + t.1 * m.d.2.2)))) PD.out (show w2.heap.size ≠ w.heap.size by have := L2.out; omega))
  have PV := own_drew (own_set (o := 7) (v := .int .i64 (m.s2 + (12 * m.c * t.1 * t.2.2 - 4 * (m.d.1 * t.2.2 + t.1 * m.d.2.2)))) PV.out (show w2.heap.size + 1 ≠ w.heap.size by have := L2.out; omega))
  have BB := Below.drew (below_set1 (o := 7) (v := .int .i64 (m.s2 + (12 * m.c * t.1 * t.2.2 - 4 * (m.d.1 * t.2.2 + t.1 * m.d.2.2)))) BB.out (Nat.le_refl _))
  clear x0 x1 x2 x3 x4 x5 x6 x7 x8 x9 x10 f0 f1 f2 f3 f4 f5 f6 f7 f8 f9 f10 lx t1 t2 t3 t4 t5 t6 t7 d1 d2 d3 d4 d5 d6 d7
  generalize (W2.setCell ⟨w.heap.size, 7, none⟩ (.int .i64 (m.s2 + (12 * m.c * t.1 * t.2.2 - 4 * (m.d.1 * t.2.2 + t.1 * m.d.2.2))))).drew = W3 at *
  have PM := Lib.hid PM
  have PR := Lib.hid PR
  have PD := Lib.hid PD
  have PV := Lib.hid PV
  have BB := Lib.hid BB
  have PM' := PM.out
  have PD' := PD.out
  have PV' := PV.out
  obtain ⟨⟨x0, x1, x2, x3, x4, x5, x6, x7, x8, x9, x10⟩, ⟨f0, f1, f2, f3, f4, f5, f6, f7, f8, f9, f10⟩, lx⟩ := PM'
  obtain ⟨t1, t2, t3, t4, t5, t6, t7⟩ := PV'
  obtain ⟨d1, d2, d3, d4, d5, d6, d7⟩ := PD'
  go_still_tail 35, (by kernel_rfl)
  change wpList _ _ _ _ _ (World.drew _)
  go_wp2
  clear u1 u2 u3 u4 u5 u6 u7 u8 u9 u10 u11 u12
  rw [rounds_succ]
  obtain ⟨⟨u1, u2⟩, ⟨u3, u4⟩, ⟨u5, u6⟩, ⟨u7, u8⟩, ⟨u9, u10⟩, u11, u12⟩ := N4.out
  go_wp2
  have PM := ownMo_drew (ownMo_put8 PM.out (m.s3 + (12 * m.c * t.2.1 * t.2.1 - 4 * (m.d.2.1 * t.2.1 + t.2.1 * m.d.2.1))))
  have PR := ownMo_drew (ownMo_set (o := 8) (v := .int .i64 (m.s3 + (12 * m.c * t.2.1 * t.2.1 - 4 * (m.d.2.1 * t.2.1 + t.2.1 * m.d.2.1)))) PR.out (show w.heap.size + 1 + 1 ≠ w.heap.size by omega))
  have PD := own_drew (own_set (o := 8) (v := .int .i64 (m.s3 + (12 * m.c * t.2.1 * t.2.1 - 4 * (m.d.2.1 * t.2.1 + t.2.1 * m.d.2.1)))) PD.out (show w2.heap.size ≠ w.heap.size by have := L2.out; omega))
  have PV := own_drew (own_set (o := 8) (v := .int .i64 (m.s3 + (12 * m.c * t.2.1 * t.2.1 - 4 * (m.d.2.1 * t.2.1 + t.2.1 * m.d.2.1)))) PV.out (show w2.heap.size + 1 ≠ w.heap.size by have := L2.out; omega))
  have BB := Below.drew (below_set1 (o := 8) (v := .int .i64 (m.s3 + (12 * m.c * t.2.1 * t.2.1 - 4 * (m.d.2.1 * t.2.1 + t.2.1 * m.d.2.1)))) BB.out (Nat.le_refl _))
  clear x0 x1 x2 x3 x4 x5 x6 x7 x8 x9 x10 f0 f1 f2 f3 f4 f5 f6 f7 f8 f9 f10 lx t1 t2 t3 t4 t5 t6 t7 d1 d2 d3 d4 d5 d6 d7
  generalize (W3.setCell ⟨w.heap.size, 8, none⟩ (.int .i64 (m.s3 + (12 * m.c * t.2.1 * t.2.1 - 4 * (m.d.2.1 * t.2.1 + t.2.1 * m.d.2.1))))).drew = W4 at *
  have PM := Lib.hid PM
  have PR := Lib.hid PR
  have PD := Lib.hid PD
  have PV := Lib.hid PV
  have BB := Lib.hid BB
  have PM' := PM.out
  have PD' := PD.out
  have PV' := PV.out
  obtain ⟨⟨x0, x1, x2, x3, x4, x5, x6, x7, x8, x9, x10⟩, ⟨f0, f1, f2, f3, f4, f5, f6, f7, f8, f9, f10⟩, lx⟩ := PM'
  obtain ⟨t1, t2, t3, t4, t5, t6, t7⟩ := PV'
  obtain ⟨d1, d2, d3, d4, d5, d6, d7⟩ := PD'
  go_still_tail 35, (by kernel_rfl)
  change wpList _ _ _ _ _ (World.drew _)
  go_wp2
  clear u1 u2 u3 u4 u5 u6 u7 u8 u9 u10 u11 u12
  rw [rounds_succ]
  go_wp2
  rw [rounds_succ]
  go_wp2
  refine wp_loop_rounds 2 ?_
  rw [rounds_succ]
  obtain ⟨⟨u1, u2⟩, ⟨u3, u4⟩, ⟨u5, u6⟩, ⟨u7, u8⟩, ⟨u9, u10⟩, u11, u12⟩ := N5.out
  go_wp2
  have PM := ownMo_drew (ownMo_put9 PM.out (m.s4 + (12 * m.c * t.2.1 * t.2.2 - 4 * (m.d.2.1 * t.2.2 + t.2.1 * m.d.2.2))))
  have PR := ownMo_drew (ownMo_set (o := 9) (v := .int .i64 (m.s4 + (12 * m.c * t.2.1 * t.2.2 - 4 * (m.d.2.1 * t.2.2 + t.2.1 * m.d.2.2)))) PR.out (show w.heap.size + 1 + 1 ≠ w.heap.size by omega))
  have PD := own_drew (own_set (o := 9) (v := .int .i64 (m.s4 + (12 * m.c * t.2.1 * t.2.2 - 4 * (m.d.2.1 * t.2.2 + t.2.1 * m.d.2.2)))) PD.out (show w2.heap.size ≠ w.heap.size by have := L2.out; omega))
  have PV := own_drew (own_set (o := 9) (v := .int .i64 (m.s4 + (12 * m.c * t.2.1 * t.2.2 - 4 * (m.d.2.1 * t.2.2 + t.2.1 * m.d.2.2)))) PV.out (show w2.heap.size + 1 ≠ w.heap.size by have := L2.out; omega))
  have BB := Below.drew (below_set1 (o := 9) (v := .int .i64 (m.s4 + (12 * m.c * t.2.1 * t.2.2 - 4 * (m.d.2.1 * t.2.2 + t.2.1 * m.d.2.2)))) BB.out (Nat.le_refl _))
  clear x0 x1 x2 x3 x4 x5 x6 x7 x8 x9 x10 f0 f1 f2 f3 f4 f5 f6 f7 f8 f9 f10 lx t1 t2 t3 t4 t5 t6 t7 d1 d2 d3 d4 d5 d6 d7
  generalize (W4.setCell ⟨w.heap.size, 9, none⟩ (.int .i64 (m.s4 + (12 * m.c * t.2.1 * t.2.2 - 4 * (m.d.2.1 * t.2.2 + t.2.1 * m.d.2.2))))).drew = W5 at *
  have PM := Lib.hid PM
  have PR := Lib.hid PR
  have PD := Lib.hid PD
  have PV := Lib.hid PV
  have BB := Lib.hid BB
  have PM' := PM.out
  have PD' := PD.out
  have PV' := PV.out
  obtain ⟨⟨x0, x1, x2, x3, x4, x5, x6, x7, x8, x9, x10⟩, ⟨f0, f1, f2, f3, f4, f5, f6, f7, f8, f9, f10⟩, lx⟩ := PM'
  obtain ⟨t1, t2, t3, t4, t5, t6, t7⟩ := PV'
  obtain ⟨d1, d2, d3, d4, d5, d6, d7⟩ := PD'
  go_still_tail 35, (by kernel_rfl)
  change wpList _ _ _ _ _ (World.drew _)
  go_wp2
  clear u1 u2 u3 u4 u5 u6 u7 u8 u9 u10 u11 u12
  rw [rounds_succ]
  go_wp2
  rw [rounds_succ]
  have PM := ownMo_drew (ownMo_put10 PM.out (m.s5 + (12 * m.c * t.2.2 * t.2.2 - 4 * (m.d.2.2 * t.2.2 + t.2.2 * m.d.2.2))))
  have PR := ownMo_drew (ownMo_set (o := 10) (v := .int .i64 (m.s5 + (12 * m.c * t.2.2 * t.2.2 - 4 * (m.d.2.2 * t.2.2 + t.2.2 * m.d.2.2)))) PR.out (show w.heap.size + 1 + 1 ≠ w.heap.size by omega))
  have PD := own_drew (own_set (o := 10) (v := .int .i64 (m.s5 + (12 * m.c * t.2.2 * t.2.2 - 4 * (m.d.2.2 * t.2.2 + t.2.2 * m.d.2.2)))) PD.out (show w2.heap.size ≠ w.heap.size by have := L2.out; omega))
  have PV := own_drew (own_set (o := 10) (v := .int .i64 (m.s5 + (12 * m.c * t.2.2 * t.2.2 - 4 * (m.d.2.2 * t.2.2 + t.2.2 * m.d.2.2)))) PV.out (show w2.heap.size + 1 ≠ w.heap.size by have := L2.out; omega))
  have BB := Below.drew (below_set1 (o := 10) (v := .int .i64 (m.s5 + (12 * m.c * t.2.2 * t.2.2 - 4 * (m.d.2.2 * t.2.2 + t.2.2 * m.d.2.2)))) BB.out (Nat.le_refl _))
  clear x0 x1 x2 x3 x4 x5 x6 x7 x8 x9 x10 f0 f1 f2 f3 f4 f5 f6 f7 f8 f9 f10 lx t1 t2 t3 t4 t5 t6 t7 d1 d2 d3 d4 d5 d6 d7
  generalize (W5.setCell ⟨w.heap.size, 10, none⟩ (.int .i64 (m.s5 + (12 * m.c * t.2.2 * t.2.2 - 4 * (m.d.2.2 * t.2.2 + t.2.2 * m.d.2.2))))).drew = W6 at *
  have PM := Lib.hid PM
  have PR := Lib.hid PR
  have PD := Lib.hid PD
  have PV := Lib.hid PV
  have BB := Lib.hid BB
  have PM' := PM.out
  have PD' := PD.out
  have PV' := PV.out
  obtain ⟨⟨x0, x1, x2, x3, x4, x5, x6, x7, x8, x9, x10⟩, ⟨f0, f1, f2, f3, f4, f5, f6, f7, f8, f9, f10⟩, lx⟩ := PM'
  obtain ⟨t1, t2, t3, t4, t5, t6, t7⟩ := PV'
  obtain ⟨d1, d2, d3, d4, d5, d6, d7⟩ := PD'
  clear d4 d5 d6 t4 t5 t6
  have TB' := TB.out
  have HD' := HD.out
  simp only [BdP, tim] at TB' HD'
  obtain ⟨v1, v2, v3, v4, v5, v6⟩ := TB'
  obtain ⟨q1, q2, q3, q4, q5, q6⟩ := HD'
  obtain ⟨_, ⟨u3, u4⟩, _⟩ := N0.out
  go_wp2_with fail
  refine (NL.out _).mono ?_
  rintro e w8 ⟨rfl, hb8⟩
  have OR5 : Hid (OwnMo w8 (w.heap.size + 1 + 1) mzero) := Lib.hid (ownMo_below (by (repeat first | with_reducible refine ownMo_set ?_ (by omega) | with_reducible refine ownMo_drew ?_ | with_reducible refine ownMo_alloc ?_ _); exact PR.out) hb8)
  have B8 : Hid (Below w.heap.size w w8) := Lib.hid (bstep (by (repeat first | with_reducible refine below_set1 ?_ (Nat.le_refl _) | with_reducible refine Below.drew ?_ | with_reducible refine balloc ?_ _); exact BB.out) hb8)
  clear hb8 x0 x1 x2 x3 x4 x5 x6 x7 x8 x9 x10 f0 f1 f2 f3 f4 f5 f6 f7 f8 f9 f10 lx
  have OR' := OR5.out
  simp only [OwnMo, mzero] at OR'
  obtain ⟨⟨y0, y1, y2, y3, y4, y5, y6, y7, y8, y9, y10⟩, ⟨g0, g1, g2, g3, g4, g5, g6, g7, g8, g9, g10⟩, lr⟩ := OR'
  clear t1 t2 t3 t7 d1 d2 d3 d7 v1 v2 v3 v4 v5 v6 q1 q2 q3 q4 q5 q6 u3 u4
  go_wp2
  refine bodyPost_ret (v := .tuple #[mov R, .int .i64 E]) (by rw [results_cell_tmp rfl]; go_simp) rfl ⟨rfl, ?_⟩
  exact below_put11 B8.out (by omega)
theorem shR_bad {m : Mo} {t : P3} (h : mokB m = false) : shR m t = (mzero, 1) := by unfold shR; rw [h]; rfl
theorem shR_far {m : Mo} {t : P3} (h : inP 128 t = false) : shR m t = (mzero, 1) := by unfold shR; rw [h, Bool.and_false]; rfl
theorem shR_ok {m : Mo} {t : P3} (h : mokB m = true) (k : inP 128 t = true) : shR m t = (mtold (mshift m t), mlarge (mshift m t)) := by unfold shR; rw [h, k]; rfl
theorem mshf_any (m : Mo) (t : P3) (w : World) (pl : Plc w) : Calls Tryd.prog 27 #[mov m, ptv t] w fun e w' => e = .returned (mor (shR m t)) ∧ Below w.heap.size w w' := by
  cases h : mokB m with
  | false => rw [shR_bad h]; exact mshf_bad m t w h
  | true =>
    cases k : inP 128 t with
    | false => rw [shR_far k]; exact mshf_far m t w h k
    | true => rw [shR_ok h k]; exact mshf_row m t w pl h k
theorem rmshf_any (m : Mo) (t : P3) (w : World) : Calls Tryd.prog 28 #[mov m, ptv t] w fun e w' => e = .returned (mor (shR m t)) ∧ Below w.heap.size w w' := by
  cases h : mokB m with
  | false => rw [shR_bad h]; exact rmshf_bad m t w h
  | true =>
    cases k : inP 128 t with
    | false => rw [shR_far k]; exact rmshf_far m t w h k
    | true => rw [shR_ok h k]; exact rmshf_row m t w h k

end Go.Proofs.YtfpenkgkcjpknaaDoor
