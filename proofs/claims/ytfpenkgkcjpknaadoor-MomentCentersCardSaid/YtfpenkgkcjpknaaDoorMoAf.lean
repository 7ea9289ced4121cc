/-
  The contract of the document's Add for moments, and what both Adds answer.
-/
import Derived.Test.YtfpenkgkcjpknaaDoorMoP6
import Derived.Test.YtfpenkgkcjpknaaDoorMoAe
namespace Go.Proofs.YtfpenkgkcjpknaaDoor
open Go.ChangeShapes Go.WideShapes Go.RowKit
open Sh
theorem two_cells {w : World} {b c : Nat} {m n : Mo} (h : OwnMo w b m) (k : OwnMo w c n) : (w.cell? ⟨b, 0, none⟩ = some (.int .i64 m.c) ∧ w.cell? ⟨b, 1, none⟩ = some (.int .i64 m.t) ∧ w.cell? ⟨b, 2, none⟩ = some (.int .i64 m.d.1) ∧ w.cell? ⟨b, 3, none⟩ = some (.int .i64 m.d.2.1) ∧ w.cell? ⟨b, 4, none⟩ = some (.int .i64 m.d.2.2) ∧ w.cell? ⟨b, 5, none⟩ = some (.int .i64 m.s0) ∧ w.cell? ⟨b, 6, none⟩ = some (.int .i64 m.s1) ∧ w.cell? ⟨b, 7, none⟩ = some (.int .i64 m.s2) ∧ w.cell? ⟨b, 8, none⟩ = some (.int .i64 m.s3) ∧ w.cell? ⟨b, 9, none⟩ = some (.int .i64 m.s4) ∧ w.cell? ⟨b, 10, none⟩ = some (.int .i64 m.s5)) ∧ (w.cell? ⟨c, 0, none⟩ = some (.int .i64 n.c) ∧ w.cell? ⟨c, 1, none⟩ = some (.int .i64 n.t) ∧ w.cell? ⟨c, 2, none⟩ = some (.int .i64 n.d.1) ∧ w.cell? ⟨c, 3, none⟩ = some (.int .i64 n.d.2.1) ∧ w.cell? ⟨c, 4, none⟩ = some (.int .i64 n.d.2.2) ∧ w.cell? ⟨c, 5, none⟩ = some (.int .i64 n.s0) ∧ w.cell? ⟨c, 6, none⟩ = some (.int .i64 n.s1) ∧ w.cell? ⟨c, 7, none⟩ = some (.int .i64 n.s2) ∧ w.cell? ⟨c, 8, none⟩ = some (.int .i64 n.s3) ∧ w.cell? ⟨c, 9, none⟩ = some (.int .i64 n.s4) ∧ w.cell? ⟨c, 10, none⟩ = some (.int .i64 n.s5)) := ⟨h.1, k.1⟩
set_option maxHeartbeats 1000000 in
theorem rmad_bad0 (a b : Mo) (w : World) (h : mokB a = false) :
    Calls Tryd.prog 26 #[mov a, mov b] w fun e w' => e = .returned (.tuple #[mov0, .int .i64 1]) ∧ Below w.heap.size w w' := by
  have V := Lib.hid (fun W => rmval_bad a W h)
  clear h
  go_enter Tryd.func26, Tryd.ntmps26
  go_wp2_with fail
  refine (V.out _).mono ?_
  rintro e w1 ⟨rfl, hb1⟩
  have PA := Lib.hid (by have z := ownMo_below (ownMo_alloc (ownMo_alloc (ownMo_new w a 28) (mob b 28)) (mob0 28)) hb1; exact z : OwnMo w1 w.heap.size a)
  have PB := Lib.hid (by have z := ownMo_below (ownMo_alloc (ownMo_new (w.alloc (mob a 28)) b 28) (mob0 28)) hb1; simp only [World.size_alloc] at z; exact z : OwnMo w1 (w.heap.size + 1) b)
  have PR := Lib.hid (by have z := ownMo_below (ownMo_new0 ((w.alloc (mob a 28)).alloc (mob b 28)) 28) hb1; simp only [World.size_alloc] at z; exact z : OwnMo w1 (w.heap.size + 1 + 1) mzero)
  have B1 := Lib.hid (bstep (balloc (balloc (balloc (Below.refl _ w) _) _) _) hb1)
  clear hb1
  have PR' := PR.out
  simp only [OwnMo, mzero] at PR'
  obtain ⟨⟨y0, y1, y2, y3, y4, y5, y6, y7, y8, y9, y10⟩, ⟨g0, g1, g2, g3, g4, g5, g6, g7, g8, g9, g10⟩, ly⟩ := PR'
  go_wp2
  refine bodyPost_ret (v := .tuple #[mov0, .int .i64 1]) (by rw [results_cell_tmp rfl]; go_simp) rfl ⟨rfl, ?_⟩
  exact below_put11 B1.out (by omega)
set_option maxHeartbeats 1000000 in
theorem rmad_bad1 (a b : Mo) (w : World) (h : mokB a = true) (k : mokB b = false) :
    Calls Tryd.prog 26 #[mov a, mov b] w fun e w' => e = .returned (.tuple #[mov0, .int .i64 1]) ∧ Below w.heap.size w w' := by
  have V := Lib.hid (fun W => rmval_ok a W h)
  have U := Lib.hid (fun W => rmval_bad b W k)
  clear h k
  go_enter Tryd.func26, Tryd.ntmps26
  go_wp2_with fail
  refine (V.out _).mono ?_
  rintro e w1 ⟨rfl, hb1⟩
  have PA := Lib.hid (by have z := ownMo_below (ownMo_alloc (ownMo_alloc (ownMo_new w a 28) (mob b 28)) (mob0 28)) hb1; exact z : OwnMo w1 w.heap.size a)
  have PB := Lib.hid (by have z := ownMo_below (ownMo_alloc (ownMo_new (w.alloc (mob a 28)) b 28) (mob0 28)) hb1; simp only [World.size_alloc] at z; exact z : OwnMo w1 (w.heap.size + 1) b)
  have PR := Lib.hid (by have z := ownMo_below (ownMo_new0 ((w.alloc (mob a 28)).alloc (mob b 28)) 28) hb1; simp only [World.size_alloc] at z; exact z : OwnMo w1 (w.heap.size + 1 + 1) mzero)
  have B1 := Lib.hid (bstep (balloc (balloc (balloc (Below.refl _ w) _) _) _) hb1)
  clear hb1
  have PB' := PB.out
  obtain ⟨⟨x0, x1, x2, x3, x4, x5, x6, x7, x8, x9, x10⟩, ⟨f0, f1, f2, f3, f4, f5, f6, f7, f8, f9, f10⟩, lx⟩ := PB'
  go_wp2_with fail
  refine (U.out _).mono ?_
  rintro e w2 ⟨rfl, hb2⟩
  clear x0 x1 x2 x3 x4 x5 x6 x7 x8 x9 x10 f0 f1 f2 f3 f4 f5 f6 f7 f8 f9 f10 lx
  have PA := Lib.hid (ownMo_below PA.out hb2)
  have PB := Lib.hid (ownMo_below PB.out hb2)
  have PR := Lib.hid (ownMo_below PR.out hb2)
  have B2 := Lib.hid (bstep B1.out hb2)
  clear hb2
  have PR' := PR.out
  simp only [OwnMo, mzero] at PR'
  obtain ⟨⟨y0, y1, y2, y3, y4, y5, y6, y7, y8, y9, y10⟩, ⟨g0, g1, g2, g3, g4, g5, g6, g7, g8, g9, g10⟩, ly⟩ := PR'
  go_wp2
  refine bodyPost_ret (v := .tuple #[mov0, .int .i64 1]) (by rw [results_cell_tmp rfl]; go_simp) rfl ⟨rfl, ?_⟩
  exact below_put11 B2.out (by omega)
set_option maxRecDepth 100000 in
set_option maxHeartbeats 4000000 in
theorem rmad_row (a b : Mo) (w : World) (h : mokB a = true) (k : mokB b = true) :
    Calls Tryd.prog 26 #[mov a, mov b] w fun e w' => e = .returned (.tuple #[mov (mtold (madd a b)), .int .i64 (mlarge (madd a b))]) ∧ Below w.heap.size w w' := by
  have V := Lib.hid (fun W => rmval_ok a W h)
  have U := Lib.hid (fun W => rmval_ok b W k)
  have CT := Lib.hid (ct_bd (mokB_iff.1 h) (mokB_iff.1 k))
  obtain ⟨_, _, hd, z0, z1, z2, z3, z4, z5⟩ := mokB_iff.1 h
  obtain ⟨_, _, kd, u0, u1, u2, u3, u4, u5⟩ := mokB_iff.1 k
  have D := Lib.hid (add_bd hd kd)
  have PV : Hid (∀ W, Calls Tryd.prog 30 #[ptv a.d, ptv b.d] W fun e w' => e = .returned (ptv (add a.d b.d)) ∧ Below W.heap.size W w') := Lib.hid (fun W => plus4_any a.d b.d W (D.out.mono (by decide)))
  have P6c : Hid (∀ W, Calls Tryd.prog 44 #[.agg #[.int .i64 a.s0, .int .i64 a.s1, .int .i64 a.s2, .int .i64 a.s3, .int .i64 a.s4, .int .i64 a.s5], .agg #[.int .i64 b.s0, .int .i64 b.s1, .int .i64 b.s2, .int .i64 b.s3, .int .i64 b.s4, .int .i64 b.s5]] W fun e w' => e = .returned (.agg #[.int .i64 (a.s0 + b.s0), .int .i64 (a.s1 + b.s1), .int .i64 (a.s2 + b.s2), .int .i64 (a.s3 + b.s3), .int .i64 (a.s4 + b.s4), .int .i64 (a.s5 + b.s5)]) ∧ Below W.heap.size W w') :=
    Lib.hid (fun W => plus6_any (a.s0, a.s1, a.s2, a.s3, a.s4, a.s5) (b.s0, b.s1, b.s2, b.s3, b.s4, b.s5) W (by unfold Bd6 add6; dsimp only; omega))
  have NL : Hid (∀ W, Calls Tryd.prog 55 #[.agg #[.int .i64 (a.c + b.c), .int .i64 (a.t + b.t), .int .i64 (add a.d b.d).1, .int .i64 (add a.d b.d).2.1, .int .i64 (add a.d b.d).2.2, .int .i64 (a.s0 + b.s0), .int .i64 (a.s1 + b.s1), .int .i64 (a.s2 + b.s2), .int .i64 (a.s3 + b.s3), .int .i64 (a.s4 + b.s4), .int .i64 (a.s5 + b.s5)]] W fun e w' => e = .returned (.tuple #[mov (mtold (madd a b)), .int .i64 (mlarge (madd a b))]) ∧ Below W.heap.size W w') := Lib.hid (fun W => rtd_any (madd a b) W)
  obtain ⟨R, hR⟩ : ∃ R, mtold (madd a b) = R := ⟨_, rfl⟩
  obtain ⟨E, hE⟩ : ∃ E, mlarge (madd a b) = E := ⟨_, rfl⟩
  rw [hR, hE] at NL ⊢
  clear h k hd kd z0 z1 z2 z3 z4 z5 u0 u1 u2 u3 u4 u5 hR hE
  obtain ⟨⟨ct1, ct2⟩, ct3, ct4⟩ := CT.out
  go_enter Tryd.func26, Tryd.ntmps26
  go_wp2_with fail
  refine (V.out _).mono ?_
  rintro e w1 ⟨rfl, hb1⟩
  have PA := Lib.hid (by have z := ownMo_below (ownMo_alloc (ownMo_alloc (ownMo_new w a 28) (mob b 28)) (mob0 28)) hb1; exact z : OwnMo w1 w.heap.size a)
  have PB := Lib.hid (by have z := ownMo_below (ownMo_alloc (ownMo_new (w.alloc (mob a 28)) b 28) (mob0 28)) hb1; simp only [World.size_alloc] at z; exact z : OwnMo w1 (w.heap.size + 1) b)
  have PR := Lib.hid (by have z := ownMo_below (ownMo_new0 ((w.alloc (mob a 28)).alloc (mob b 28)) 28) hb1; simp only [World.size_alloc] at z; exact z : OwnMo w1 (w.heap.size + 1 + 1) mzero)
  have B1 := Lib.hid (bstep (balloc (balloc (balloc (Below.refl _ w) _) _) _) hb1)
  clear hb1
  have PB' := PB.out
  obtain ⟨⟨x0, x1, x2, x3, x4, x5, x6, x7, x8, x9, x10⟩, ⟨f0, f1, f2, f3, f4, f5, f6, f7, f8, f9, f10⟩, lx⟩ := PB'
  go_wp2_with fail
  refine (U.out _).mono ?_
  rintro e w2 ⟨rfl, hb2⟩
  clear x0 x1 x2 x3 x4 x5 x6 x7 x8 x9 x10 f0 f1 f2 f3 f4 f5 f6 f7 f8 f9 f10 lx
  have PA := Lib.hid (ownMo_below PA.out hb2)
  have PB := Lib.hid (ownMo_below PB.out hb2)
  have PR := Lib.hid (ownMo_below PR.out hb2)
  have B2 := Lib.hid (bstep B1.out hb2)
  clear hb2
  go_wp2_with fail
  have Q0 := ownMo_drew PA.out
  have Q1 := ownMo_drew PB.out
  have Q2 := ownMo_drew PR.out
  have Q3 := Below.drew B2.out
  generalize add a.d b.d = ad at *
  have W1 := IntWalk.i64_in (a.c + b.c) (by omega)
  have W2 := IntWalk.i64_in (a.t + b.t) (by omega)
  go_region_held3 (fun w' => (w'.cell? ⟨w.heap.size, 0, none⟩ = some (.int .i64 a.c) ∧ w'.cell? ⟨w.heap.size, 1, none⟩ = some (.int .i64 a.t) ∧ w'.cell? ⟨w.heap.size, 2, none⟩ = some (.int .i64 a.d.1) ∧ w'.cell? ⟨w.heap.size, 3, none⟩ = some (.int .i64 a.d.2.1) ∧ w'.cell? ⟨w.heap.size, 4, none⟩ = some (.int .i64 a.d.2.2) ∧ w'.cell? ⟨w.heap.size, 5, none⟩ = some (.int .i64 a.s0) ∧ w'.cell? ⟨w.heap.size, 6, none⟩ = some (.int .i64 a.s1) ∧ w'.cell? ⟨w.heap.size, 7, none⟩ = some (.int .i64 a.s2) ∧ w'.cell? ⟨w.heap.size, 8, none⟩ = some (.int .i64 a.s3) ∧ w'.cell? ⟨w.heap.size, 9, none⟩ = some (.int .i64 a.s4) ∧ w'.cell? ⟨w.heap.size, 10, none⟩ = some (.int .i64 a.s5)) ∧ (w'.cell? ⟨w.heap.size + 1, 0, none⟩ = some (.int .i64 b.c) ∧ w'.cell? ⟨w.heap.size + 1, 1, none⟩ = some (.int .i64 b.t) ∧ w'.cell? ⟨w.heap.size + 1, 2, none⟩ = some (.int .i64 b.d.1) ∧ w'.cell? ⟨w.heap.size + 1, 3, none⟩ = some (.int .i64 b.d.2.1) ∧ w'.cell? ⟨w.heap.size + 1, 4, none⟩ = some (.int .i64 b.d.2.2) ∧ w'.cell? ⟨w.heap.size + 1, 5, none⟩ = some (.int .i64 b.s0) ∧ w'.cell? ⟨w.heap.size + 1, 6, none⟩ = some (.int .i64 b.s1) ∧ w'.cell? ⟨w.heap.size + 1, 7, none⟩ = some (.int .i64 b.s2) ∧ w'.cell? ⟨w.heap.size + 1, 8, none⟩ = some (.int .i64 b.s3) ∧ w'.cell? ⟨w.heap.size + 1, 9, none⟩ = some (.int .i64 b.s4) ∧ w'.cell? ⟨w.heap.size + 1, 10, none⟩ = some (.int .i64 b.s5)))
    (first | (refine two_cells ?_ ?_ <;> with_reducible assumption) | (refine two_cells ?_ ?_ <;> ((repeat with_reducible refine ownMo_set ?_ (by omega)); with_reducible assumption)))
    (first | (go_at_call 30; (with_reducible refine (PV.out _).mono ?_); rintro e v0 ⟨rfl, hv0⟩; have q0_0 := ownMo_below Q0 hv0; have q0_1 := ownMo_below Q1 hv0; have q0_2 := ownMo_below Q2 hv0; have q0_3 := below_step Q3 hv0 Q3.size) | (go_at_call 44; (with_reducible refine (P6c.out _).mono ?_); rintro e v1 ⟨rfl, hv1⟩; have q1_0 := ownMo_below q0_0 hv1; have q1_1 := ownMo_below q0_1 hv1; have q1_2 := ownMo_below q0_2 hv1; have q1_3 := below_step q0_3 hv1 q0_3.size) | (go_at_call 55; (with_reducible refine (NL.out _).mono ?_); rintro e v2 ⟨rfl, hv2⟩; have q2_0 := ownMo_below q1_0 hv2; have q2_1 := ownMo_below q1_1 hv2; have q2_2 := ownMo_below q1_2 hv2; have q2_3 := below_step q1_3 hv2 q1_3.size; have r2 := q2_2; simp only [OwnMo, mzero] at r2; obtain ⟨⟨d0, d1, d2, d3, d4, d5, d6, d7, d8, d9, d10⟩, ⟨e0, e1, e2, e3, e4, e5, e6, e7, e8, e9, e10⟩, ld⟩ := r2))
  all_goals
    clear W1 W2
    go_wp2
    refine bodyPost_ret (v := .tuple #[mov R, .int .i64 E]) (by rw [results_cell_tmp rfl]; go_simp) rfl ⟨rfl, ?_⟩
    exact below_put11 q2_3 (by omega)
theorem adR_0 {a b : Mo} (h : mokB a = false) : adR a b = (mzero, 1) := by unfold adR; rw [h]; rfl
theorem adR_1 {a b : Mo} (h : mokB b = false) : adR a b = (mzero, 1) := by unfold adR; rw [h, Bool.and_false]; rfl
theorem adR_ok {a b : Mo} (h : mokB a = true) (k : mokB b = true) : adR a b = (mtold (madd a b), mlarge (madd a b)) := by unfold adR; rw [h, k]; rfl
theorem mad_any (a b : Mo) (w : World) : Calls Tryd.prog 17 #[mov a, mov b] w fun e w' => e = .returned (mor (adR a b)) ∧ Below w.heap.size w w' := by
  cases h : mokB a with
  | false => rw [adR_0 h]; exact mad_bad0 a b w h
  | true =>
    cases k : mokB b with
    | false => rw [adR_1 k]; exact mad_bad1 a b w h k
    | true => rw [adR_ok h k]; exact mad_row a b w h k
theorem rmad_any (a b : Mo) (w : World) : Calls Tryd.prog 26 #[mov a, mov b] w fun e w' => e = .returned (mor (adR a b)) ∧ Below w.heap.size w w' := by
  cases h : mokB a with
  | false => rw [adR_0 h]; exact rmad_bad0 a b w h
  | true =>
    cases k : mokB b with
    | false => rw [adR_1 k]; exact rmad_bad1 a b w h k
    | true => rw [adR_ok h k]; exact rmad_row a b w h k

end Go.Proofs.YtfpenkgkcjpknaaDoor
