/-
  The contracts of Scale for moments, in the program and in the document's answer.
-/
import Derived.Test.YtjflgiegnibgmaaDoorMo6
import Derived.Test.YtjflgiegnibgmaaDoorMo3
namespace Go.Proofs.YtjflgiegnibgmaaDoor
open Go.ChangeShapes Go.WideShapes Go.RowKit
open Sh
abbrev mor (r : Mo × Int) : Value := .tuple #[mov r.1, .int .i64 r.2]
def scR (k : Int) (m : Mo) : Mo × Int := if mokB m && rngB k 1 128 then (mtold (mscale k m), mlarge (mscale k m)) else (mzero, 1)
theorem below_set1 {a w : World} {B r o : Nat} {v : Value} (h : Below B a w) (n : B ≤ r) : Below B a (w.setCell ⟨r, o, none⟩ v) := h.setCell n _
theorem zadd (a : P3) : add (0, 0, 0) a = a := by unfold add; simp
theorem k2_bd {k : Int} (h1 : 1 ≤ k) (h2 : k ≤ 128) : 0 ≤ k * k ∧ k * k ≤ 16384 := by
  have := mul_bd (A := 128) (B := 128) (x := k) (y := k) (by omega) h2 (by omega) h2
  exact ⟨Int.mul_nonneg (by omega) (by omega), this.2⟩
theorem sk_bd {k s : Int} (h : -17179869184 ≤ s ∧ s ≤ 17179869184) (a : 0 ≤ k) (b : k ≤ 16384) : -281474976710656 ≤ s * k ∧ s * k ≤ 281474976710656 := by
  have := mul_bd (A := 17179869184) (B := 16384) (x := s) (y := k) h.1 h.2 (by omega) b
  omega
theorem dk_bd {k : Int} {d : P3} (h1 : 1 ≤ k) (h2 : k ≤ 128) (h : BdP 1073741824 d) : BdP 137438953472 (tim k d) := (tim_bd (K := 128) (by omega) h2 h).mono (by decide)
set_option maxHeartbeats 1000000 in
theorem msc_bad (m : Mo) (k : Int) (w : World) (h : mokB m = false) :
    Calls Tryd.prog 17 #[mov m, .int .i64 k] w fun e w' => e = .returned (.tuple #[mov0, .int .i64 1]) ∧ Below w.heap.size w w' := by
  have V := Lib.hid (fun W => mval_bad m W h)
  clear h
  go_enter Tryd.func17, Tryd.ntmps17
  go_wp2_with fail
  refine (V.out _).mono ?_
  rintro e w1 ⟨rfl, hb1⟩
  have OM := Lib.hid (ownMo_below (ownMo_alloc (ownMo_new w m 28) (mob0 28)) hb1)
  have OR := Lib.hid (by have z := ownMo_below (ownMo_new0 (w.alloc (mob m 28)) 28) hb1; simp only [World.size_alloc] at z; exact z : OwnMo w1 (w.heap.size + 1) mzero)
  have B1 := Lib.hid (bstep (balloc (balloc (Below.refl _ w) _) _) hb1)
  clear hb1
  have OR' := OR.out
  simp only [OwnMo, mzero] at OR'
  obtain ⟨⟨y0, y1, y2, y3, y4, y5, y6, y7, y8, y9, y10⟩, ⟨g0, g1, g2, g3, g4, g5, g6, g7, g8, g9, g10⟩, lr⟩ := OR'
  go_wp2
  refine bodyPost_ret (v := .tuple #[mov0, .int .i64 1]) (by rw [results_cell_tmp rfl]; go_simp) rfl ⟨rfl, ?_⟩
  exact below_put11 B1.out (by omega)
set_option maxHeartbeats 1000000 in
theorem msc_far (m : Mo) (k : Int) (w : World) (h : mokB m = true) (hk : rngB k 1 128 = false) :
    Calls Tryd.prog 17 #[mov m, .int .i64 k] w fun e w' => e = .returned (.tuple #[mov0, .int .i64 1]) ∧ Below w.heap.size w w' := by
  have V := Lib.hid (fun W => mval_ok m W h)
  have I := Lib.hid (fun W => (hk ▸ inr_any k 1 128 W : Calls Tryd.prog 44 #[.int .i64 k, .int .i64 1, .int .i64 128] W fun e w' => e = .returned (.bool false) ∧ W = w'))
  clear h hk
  go_enter Tryd.func17, Tryd.ntmps17
  go_wp2_with fail
  refine (V.out _).mono ?_
  rintro e w1 ⟨rfl, hb1⟩
  have OM := Lib.hid (ownMo_below (ownMo_alloc (ownMo_new w m 28) (mob0 28)) hb1)
  have OR := Lib.hid (by have z := ownMo_below (ownMo_new0 (w.alloc (mob m 28)) 28) hb1; simp only [World.size_alloc] at z; exact z : OwnMo w1 (w.heap.size + 1) mzero)
  have B1 := Lib.hid (bstep (balloc (balloc (Below.refl _ w) _) _) hb1)
  clear hb1
  go_wp2_with fail
  refine (I.out _).mono ?_
  rintro e w' ⟨rfl, rfl⟩
  have OR' := OR.out
  simp only [OwnMo, mzero] at OR'
  obtain ⟨⟨y0, y1, y2, y3, y4, y5, y6, y7, y8, y9, y10⟩, ⟨g0, g1, g2, g3, g4, g5, g6, g7, g8, g9, g10⟩, lr⟩ := OR'
  go_wp2
  refine bodyPost_ret (v := .tuple #[mov0, .int .i64 1]) (by rw [results_cell_tmp rfl]; go_simp) rfl ⟨rfl, ?_⟩
  exact below_put11 B1.out (by omega)
set_option maxRecDepth 100000 in
set_option maxHeartbeats 4000000 in
theorem msc_row (m : Mo) (k : Int) (w : World) (h : mokB m = true) (hk : rngB k 1 128 = true) :
    Calls Tryd.prog 17 #[mov m, .int .i64 k] w fun e w' => e = .returned (.tuple #[mov (mtold (mscale k m)), .int .i64 (mlarge (mscale k m))]) ∧ Below w.heap.size w w' := by
  have V := Lib.hid (fun W => mval_ok m W h)
  have I := Lib.hid (fun W => (hk ▸ inr_any k 1 128 W : Calls Tryd.prog 44 #[.int .i64 k, .int .i64 1, .int .i64 128] W fun e w' => e = .returned (.bool true) ∧ W = w'))
  obtain ⟨k1, k2⟩ := rngB_iff.1 hk
  have K0 := Lib.hid (k2_bd k1 k2)
  obtain ⟨_, _, hd, z0, z1, z2, z3, z4, z5⟩ := mokB_iff.1 h
  have S0 := Lib.hid z0
  have S1 := Lib.hid z1
  have S2 := Lib.hid z2
  have S3 := Lib.hid z3
  have S4 := Lib.hid z4
  have S5 := Lib.hid z5
  have D := Lib.hid (dk_bd k1 k2 hd)
  have PV := Lib.hid (fun W => (zadd (tim k m.d) ▸ vpl_any (0, 0, 0) m.d k W (D.out.mono (by decide)) (by rw [zadd]; exact D.out.mono (by decide)) : Calls Tryd.prog 41 #[.agg #[.int .i64 0, .int .i64 0, .int .i64 0], .int .i64 k, ptv m.d] W fun e w' => e = .returned (ptv (tim k m.d)) ∧ Below W.heap.size W w'))
  have NL := Lib.hid (fun W => nlg_any (mscale k m) W)
  obtain ⟨R, hR⟩ : ∃ R, mtold (mscale k m) = R := ⟨_, rfl⟩
  obtain ⟨E, hE⟩ : ∃ E, mlarge (mscale k m) = E := ⟨_, rfl⟩
  rw [hR, hE] at NL ⊢
  clear h hk hd z0 z1 z2 z3 z4 z5 hR hE
  go_enter Tryd.func17, Tryd.ntmps17
  go_wp2_with fail
  refine (V.out _).mono ?_
  rintro e w1 ⟨rfl, hb1⟩
  have OM := Lib.hid (ownMo_below (ownMo_alloc (ownMo_new w m 28) (mob0 28)) hb1)
  have OR := Lib.hid (by have z := ownMo_below (ownMo_new0 (w.alloc (mob m 28)) 28) hb1; simp only [World.size_alloc] at z; exact z : OwnMo w1 (w.heap.size + 1) mzero)
  have B1 := Lib.hid (bstep (balloc (balloc (Below.refl _ w) _) _) hb1)
  clear hb1
  go_wp2_with fail
  refine (I.out _).mono ?_
  rintro e w' ⟨rfl, rfl⟩
  obtain ⟨⟨x0, x1, x2, x3, x4, x5, x6, x7, x8, x9, x10⟩, ⟨f0, f1, f2, f3, f4, f5, f6, f7, f8, f9, f10⟩, ll⟩ := OM.out
  go_wp2_with fail
  refine (vof_any m.d _).mono ?_
  rintro e w2 ⟨rfl, hb2⟩
  clear x0 x1 x2 x3 x4 x5 x6 x7 x8 x9 x10 f0 f1 f2 f3 f4 f5 f6 f7 f8 f9 f10 ll
  have OM2 := Lib.hid (ownMo_below OM.out hb2)
  have OR2 := Lib.hid (ownMo_below OR.out hb2)
  have B2 := Lib.hid (bstep B1.out hb2)
  clear hb2 OM OR B1
  go_wp2_with fail
  refine (PV.out _).mono ?_
  rintro e w3 ⟨rfl, hb3⟩
  have OM3 := Lib.hid (ownMo_below OM2.out hb3)
  have OR3 := Lib.hid (ownMo_below OR2.out hb3)
  have B3 := Lib.hid (bstep B2.out hb3)
  clear hb3 OM2 OR2 B2
  go_wp2_with fail
  refine (vpt_any (tim k m.d) _).mono ?_
  rintro e w4 ⟨rfl, hb4⟩
  have OM := Lib.hid (ownMo_below OM3.out hb4)
  have OR := Lib.hid (ownMo_below OR3.out hb4)
  have B4 := Lib.hid (bstep B3.out hb4)
  clear hb4 OM3 OR3 B3
  obtain ⟨⟨x0, x1, x2, x3, x4, x5, x6, x7, x8, x9, x10⟩, ⟨f0, f1, f2, f3, f4, f5, f6, f7, f8, f9, f10⟩, ll⟩ := OM.out
  obtain ⟨kk1, kk2⟩ := K0.out
  have q0 := sk_bd S0.out K0.out.1 K0.out.2
  have p0a := q0.1
  have p0b := q0.2
  clear q0
  have q1 := sk_bd S1.out K0.out.1 K0.out.2
  have p1a := q1.1
  have p1b := q1.2
  clear q1
  have q2 := sk_bd S2.out K0.out.1 K0.out.2
  have p2a := q2.1
  have p2b := q2.2
  clear q2
  have q3 := sk_bd S3.out K0.out.1 K0.out.2
  have p3a := q3.1
  have p3b := q3.2
  clear q3
  have q4 := sk_bd S4.out K0.out.1 K0.out.2
  have p4a := q4.1
  have p4b := q4.2
  clear q4
  have q5 := sk_bd S5.out K0.out.1 K0.out.2
  have p5a := q5.1
  have p5b := q5.2
  clear q5
  go_wp2
  refine wp_loop_rounds 7 ?_
  rw [rounds_succ]
  go_wp2
  rw [rounds_succ]
  go_wp2
  rw [rounds_succ]
  go_wp2
  rw [rounds_succ]
  go_wp2
  rw [rounds_succ]
  go_wp2
  rw [rounds_succ]
  go_wp2
  rw [rounds_succ]
  go_wp2_with fail
  refine (NL.out _).mono ?_
  rintro e w5 ⟨rfl, hb5⟩
  have OR5 : Hid (OwnMo w5 (w.heap.size + 1) mzero) := Lib.hid (ownMo_below (by (repeat refine ownMo_set ?_ (by omega)); exact OR.out) hb5)
  have B5 : Hid (Below w.heap.size w w5) := Lib.hid (bstep (by (repeat refine below_set1 ?_ (Nat.le_refl _)); exact B4.out) hb5)
  clear hb5 x0 x1 x2 x3 x4 x5 x6 x7 x8 x9 x10 f0 f1 f2 f3 f4 f5 f6 f7 f8 f9 f10 ll
  have OR' := OR5.out
  simp only [OwnMo, mzero] at OR'
  obtain ⟨⟨y0, y1, y2, y3, y4, y5, y6, y7, y8, y9, y10⟩, ⟨g0, g1, g2, g3, g4, g5, g6, g7, g8, g9, g10⟩, lr⟩ := OR'
  go_wp2
  refine bodyPost_ret (v := .tuple #[mov R, .int .i64 E]) (by rw [results_cell_tmp rfl]; go_simp) rfl ⟨rfl, ?_⟩
  exact below_put11 B5.out (by omega)

end Go.Proofs.YtjflgiegnibgmaaDoor
