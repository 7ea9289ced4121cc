/-
  The contract of Add for moments that are valid.
-/
import Derived.Test.YtjflgiegnibgmaaDoorMoAd
namespace Go.Proofs.YtjflgiegnibgmaaDoor
open Go.ChangeShapes Go.WideShapes Go.RowKit
open Sh
set_option maxRecDepth 100000 in
set_option maxHeartbeats 4000000 in
theorem mad_row (a b : Mo) (w : World) (h : mokB a = true) (k : mokB b = true) :
    Calls Tryd.prog 14 #[mov a, mov b] w fun e w' => e = .returned (.tuple #[mov (mtold (madd a b)), .int .i64 (mlarge (madd a b))]) ∧ Below w.heap.size w w' := by
  have V := Lib.hid (fun W => mval_ok a W h)
  have U := Lib.hid (fun W => mval_ok b W k)
  obtain ⟨_, _, hd, z0, z1, z2, z3, z4, z5⟩ := mokB_iff.1 h
  obtain ⟨_, _, kd, u0, u1, u2, u3, u4, u5⟩ := mokB_iff.1 k
  have CT := Lib.hid (ct_bd (mokB_iff.1 h) (mokB_iff.1 k))
  have S0 := Lib.hid (sum_bd z0 u0)
  have S1 := Lib.hid (sum_bd z1 u1)
  have S2 := Lib.hid (sum_bd z2 u2)
  have S3 := Lib.hid (sum_bd z3 u3)
  have S4 := Lib.hid (sum_bd z4 u4)
  have S5 := Lib.hid (sum_bd z5 u5)
  have D := Lib.hid (add_bd hd kd)
  have PV : Hid (∀ W, Calls Tryd.prog 41 #[ptv a.d, .int .i64 1, ptv b.d] W fun e w' => e = .returned (ptv (add a.d b.d)) ∧ Below W.heap.size W w') := Lib.hid (fun W => by
    have z := vpl_any a.d b.d 1 W (by rw [tim1]; exact kd.mono (by decide)) (by rw [tim1]; exact D.out.mono (by decide))
    rw [tim1] at z
    exact z)
  have NL := Lib.hid (fun W => nlg_any (madd a b) W)
  obtain ⟨R, hR⟩ : ∃ R, mtold (madd a b) = R := ⟨_, rfl⟩
  obtain ⟨E, hE⟩ : ∃ E, mlarge (madd a b) = E := ⟨_, rfl⟩
  rw [hR, hE] at NL ⊢
  clear h k hd kd z0 z1 z2 z3 z4 z5 u0 u1 u2 u3 u4 u5 hR hE
  have i0 : ∀ w, (Instr.index 74 (.agg #[.int .i64 a.c, .int .i64 a.t, .int .i64 a.d.1, .int .i64 a.d.2.1, .int .i64 a.d.2.2, .int .i64 a.s0, .int .i64 a.s1, .int .i64 a.s2, .int .i64 a.s3, .int .i64 a.s4, .int .i64 a.s5, .int .i64 b.c, .int .i64 b.t, .int .i64 b.d.1, .int .i64 b.d.2.1, .int .i64 b.d.2.2, .int .i64 b.s0, .int .i64 b.s1, .int .i64 b.s2, .int .i64 b.s3, .int .i64 b.s4, .int .i64 b.s5]) (.int .i64 0)).run Tryd.prog w = .ok (mov a) w := fun _ => by kernel_rfl
  have i1 : ∀ w, (Instr.index 74 (.agg #[.int .i64 a.c, .int .i64 a.t, .int .i64 a.d.1, .int .i64 a.d.2.1, .int .i64 a.d.2.2, .int .i64 a.s0, .int .i64 a.s1, .int .i64 a.s2, .int .i64 a.s3, .int .i64 a.s4, .int .i64 a.s5, .int .i64 b.c, .int .i64 b.t, .int .i64 b.d.1, .int .i64 b.d.2.1, .int .i64 b.d.2.2, .int .i64 b.s0, .int .i64 b.s1, .int .i64 b.s2, .int .i64 b.s3, .int .i64 b.s4, .int .i64 b.s5]) (.int .i64 1)).run Tryd.prog w = .ok (mov b) w := fun _ => by kernel_rfl
  go_enter Tryd.func14, Tryd.ntmps14
  go_wp2
  refine wp_loop_rounds 3 ?_
  rw [rounds_succ]
  go_wp2_with fail
  refine (V.out _).mono ?_
  rintro e w1 ⟨rfl, hb1⟩
  have PA := Lib.hid (by have z := ownMo_below (ownMo_alloc (ownMo_alloc (ownMo_alloc (ownMo_new w a 28) (mob b 28)) (mob0 28)) (mob a 28)) hb1; exact z : OwnMo w1 w.heap.size a)
  have PB := Lib.hid (by have z := ownMo_below (ownMo_alloc (ownMo_alloc (ownMo_new (w.alloc (mob a 28)) b 28) (mob0 28)) (mob a 28)) hb1; simp only [World.size_alloc] at z; exact z : OwnMo w1 (w.heap.size + 1) b)
  have PR := Lib.hid (by have z := ownMo_below (ownMo_alloc (ownMo_new0 ((w.alloc (mob a 28)).alloc (mob b 28)) 28) (mob a 28)) hb1; simp only [World.size_alloc] at z; exact z : OwnMo w1 (w.heap.size + 1 + 1) mzero)
  have B1 := Lib.hid (bstep (balloc (balloc (balloc (balloc (Below.refl _ w) _) _) _) _) hb1)
  clear hb1
  go_wp2
  rw [rounds_succ]
  go_wp2_with fail
  refine (U.out _).mono ?_
  rintro e w2 ⟨rfl, hb2⟩
  have PA := Lib.hid (ownMo_below (ownMo_alloc PA.out (mob b 28)) hb2)
  have PB := Lib.hid (ownMo_below (ownMo_alloc PB.out (mob b 28)) hb2)
  have PR := Lib.hid (ownMo_below (ownMo_alloc PR.out (mob b 28)) hb2)
  have B2 := Lib.hid (bstep (balloc B1.out _) hb2)
  clear hb2
  go_wp2
  clear i0 i1
  rw [rounds_succ]
  have PA' := PA.out
  obtain ⟨⟨x0, x1, x2, x3, x4, x5, x6, x7, x8, x9, x10⟩, ⟨f0, f1, f2, f3, f4, f5, f6, f7, f8, f9, f10⟩, lx⟩ := PA'
  have PB' := PB.out
  obtain ⟨⟨y0, y1, y2, y3, y4, y5, y6, y7, y8, y9, y10⟩, ⟨g0, g1, g2, g3, g4, g5, g6, g7, g8, g9, g10⟩, ly⟩ := PB'
  obtain ⟨⟨ct1, ct2⟩, ct3, ct4⟩ := CT.out
  go_wp2_with fail
  have Q0 := ownMo_drew (ownMo_put1 (ownMo_put0 PA.out (a.c + b.c)) (a.t + b.t))
  have Q1 : OwnMo (((w2.setCell ⟨w.heap.size, 0, none⟩ (.int .i64 (a.c + b.c))).setCell ⟨w.heap.size, 1, none⟩ (.int .i64 (a.t + b.t)))).drew (w.heap.size + 1) b := ownMo_drew (ownMo_set (ownMo_set PB.out (by omega)) (by omega))
  have Q2 : OwnMo (((w2.setCell ⟨w.heap.size, 0, none⟩ (.int .i64 (a.c + b.c))).setCell ⟨w.heap.size, 1, none⟩ (.int .i64 (a.t + b.t)))).drew (w.heap.size + 1 + 1) mzero := ownMo_drew (ownMo_set (ownMo_set PR.out (by omega)) (by omega))
  have Q3 : Below w.heap.size w (((w2.setCell ⟨w.heap.size, 0, none⟩ (.int .i64 (a.c + b.c))).setCell ⟨w.heap.size, 1, none⟩ (.int .i64 (a.t + b.t)))).drew := Below.drew (below_set1 (below_set1 B2.out (Nat.le_refl _)) (Nat.le_refl _))
  go_region_with (first | (go_at_call 40; (with_reducible refine (vof_any a.d _).mono ?_); rintro e v0 ⟨rfl, hv0⟩; have q0_0 := ownMo_below Q0 hv0; have q0_1 := ownMo_below Q1 hv0; have q0_2 := ownMo_below Q2 hv0; have q0_3 := below_step Q3 hv0 Q3.size; clear Q0 Q1 Q2 Q3 hv0; clear x0 x1 x2 x3 x4 x5 x6 x7 x8 x9 x10 f0 f1 f2 f3 f4 f5 f6 f7 f8 f9 f10 lx y0 y1 y2 y3 y4 y5 y6 y7 y8 y9 y10 g0 g1 g2 g3 g4 g5 g6 g7 g8 g9 g10 ly; obtain ⟨h2, h3, h4⟩ := dip_cells q0_1) | (go_at_call 40; (with_reducible refine (vof_any b.d _).mono ?_); rintro e v1 ⟨rfl, hv1⟩; have q1_0 := ownMo_below q0_0 hv1; have q1_1 := ownMo_below q0_1 hv1; have q1_2 := ownMo_below q0_2 hv1; have q1_3 := below_step q0_3 hv1 q0_3.size; clear q0_0 q0_1 q0_2 q0_3 hv1; (try clear h2 h3 h4)) | (go_at_call 41; (with_reducible refine (PV.out _).mono ?_); rintro e v2 ⟨rfl, hv2⟩; have q2_0 := ownMo_below q1_0 hv2; have q2_1 := ownMo_below q1_1 hv2; have q2_2 := ownMo_below q1_2 hv2; have q2_3 := below_step q1_3 hv2 q1_3.size; clear q1_0 q1_1 q1_2 q1_3 hv2) | (go_at_call 42; (with_reducible refine (vpt_any (add a.d b.d) _).mono ?_); rintro e v3 ⟨rfl, hv3⟩; have q3_0 := ownMo_below q2_0 hv3; have q3_1 := ownMo_below q2_1 hv3; have q3_2 := ownMo_below q2_2 hv3; have q3_3 := below_step q2_3 hv3 q2_3.size; clear q2_0 q2_1 q2_2 q2_3 hv3; have r3 := q3_0; obtain ⟨⟨d0, d1, d2, d3, d4, d5, d6, d7, d8, d9, d10⟩, ⟨e0, e1, e2, e3, e4, e5, e6, e7, e8, e9, e10⟩, ld⟩ := r3) | fail)
  all_goals
    have PB' := q3_1
    obtain ⟨⟨y0, y1, y2, y3, y4, y5, y6, y7, y8, y9, y10⟩, ⟨g0, g1, g2, g3, g4, g5, g6, g7, g8, g9, g10⟩, ly⟩ := PB'
    have PR := Lib.hid q3_2
    have B4 := Lib.hid q3_3
    clear q3_0 q3_1 q3_2 q3_3
    obtain ⟨s0a, s0b⟩ := S0.out
    obtain ⟨s1a, s1b⟩ := S1.out
    obtain ⟨s2a, s2b⟩ := S2.out
    obtain ⟨s3a, s3b⟩ := S3.out
    obtain ⟨s4a, s4b⟩ := S4.out
    obtain ⟨s5a, s5b⟩ := S5.out
    go_wp2
    refine wp_loop_rounds 7 ?_
    rw [rounds_succ]
    go_wp2
    go_region
    go_wp2
    rw [rounds_succ]
    go_wp2
    go_region
    go_wp2
    rw [rounds_succ]
    go_wp2
    go_region
    go_wp2
    rw [rounds_succ]
    go_wp2
    go_region
    go_wp2
    rw [rounds_succ]
    go_wp2
    go_region
    go_wp2
    rw [rounds_succ]
    go_wp2
    go_region
    go_wp2
    rw [rounds_succ]
    go_wp2_with fail
    refine (NL.out _).mono ?_
    rintro e w5 ⟨rfl, hb5⟩
    have OR5 : Hid (OwnMo w5 (w.heap.size + 1 + 1) mzero) := Lib.hid (ownMo_below (by (repeat first | with_reducible refine ownMo_set ?_ (by omega) | with_reducible refine ownMo_drew ?_); exact PR.out) hb5)
    have B5 : Hid (Below w.heap.size w w5) := Lib.hid (bstep (by (repeat first | with_reducible refine below_set1 ?_ (Nat.le_refl _) | with_reducible refine Below.drew ?_); exact B4.out) hb5)
    clear hb5 d0 d1 d2 d3 d4 d5 d6 d7 d8 d9 d10 e0 e1 e2 e3 e4 e5 e6 e7 e8 e9 e10 ld y0 y1 y2 y3 y4 y5 y6 y7 y8 y9 y10 g0 g1 g2 g3 g4 g5 g6 g7 g8 g9 g10 ly
    have OR' := OR5.out
    simp only [OwnMo, mzero] at OR'
    obtain ⟨⟨y0, y1, y2, y3, y4, y5, y6, y7, y8, y9, y10⟩, ⟨g0, g1, g2, g3, g4, g5, g6, g7, g8, g9, g10⟩, lr⟩ := OR'
    go_wp2
    refine bodyPost_ret (v := .tuple #[mov R, .int .i64 E]) (by rw [results_cell_tmp rfl]; go_simp) rfl ⟨rfl, ?_⟩
    exact below_put11 B5.out (by omega)

end Go.Proofs.YtjflgiegnibgmaaDoor
