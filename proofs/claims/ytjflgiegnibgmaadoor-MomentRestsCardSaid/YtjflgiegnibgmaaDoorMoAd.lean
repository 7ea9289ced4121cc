/-
  The contracts of Add for moments, in the program and in the document's answer.
-/
import Derived.Test.YtjflgiegnibgmaaDoorMoSd
import Derived.Deep.RegionHeld3
import Derived.Deep.RegionWith
namespace Go.Proofs.YtjflgiegnibgmaaDoor
open Go.ChangeShapes Go.WideShapes Go.RowKit
open Sh
def adR (a b : Mo) : Mo × Int := if mokB a && mokB b then (mtold (madd a b), mlarge (madd a b)) else (mzero, 1)
theorem tim1 (a : P3) : tim 1 a = a := by unfold tim; simp
theorem ownMo_put0 {w : World} {b : Nat} {m : Mo} (h : OwnMo w b m) (x : Int) : OwnMo (w.setCell ⟨b, 0, none⟩ (.int .i64 x)) b { m with c := x } := by
  obtain ⟨⟨h0, h1, h2, h3, h4, h5, h6, h7, h8, h9, h10⟩, ⟨f0, f1, f2, f3, f4, f5, f6, f7, f8, f9, f10⟩, l⟩ := h
  exact ⟨⟨by go_simp, by go_simp, by go_simp, by go_simp, by go_simp, by go_simp, by go_simp, by go_simp, by go_simp, by go_simp, by go_simp⟩, ⟨by go_simp, by go_simp, by go_simp, by go_simp, by go_simp, by go_simp, by go_simp, by go_simp, by go_simp, by go_simp, by go_simp⟩, by simpa using l⟩
theorem ownMo_put1 {w : World} {b : Nat} {m : Mo} (h : OwnMo w b m) (x : Int) : OwnMo (w.setCell ⟨b, 1, none⟩ (.int .i64 x)) b { m with t := x } := by
  obtain ⟨⟨h0, h1, h2, h3, h4, h5, h6, h7, h8, h9, h10⟩, ⟨f0, f1, f2, f3, f4, f5, f6, f7, f8, f9, f10⟩, l⟩ := h
  exact ⟨⟨by go_simp, by go_simp, by go_simp, by go_simp, by go_simp, by go_simp, by go_simp, by go_simp, by go_simp, by go_simp, by go_simp⟩, ⟨by go_simp, by go_simp, by go_simp, by go_simp, by go_simp, by go_simp, by go_simp, by go_simp, by go_simp, by go_simp, by go_simp⟩, by simpa using l⟩
theorem ownMo_put2 {w : World} {b : Nat} {m : Mo} (h : OwnMo w b m) (x : Int) : OwnMo (w.setCell ⟨b, 2, none⟩ (.int .i64 x)) b { m with d := (x, m.d.2.1, m.d.2.2) } := by
  obtain ⟨⟨h0, h1, h2, h3, h4, h5, h6, h7, h8, h9, h10⟩, ⟨f0, f1, f2, f3, f4, f5, f6, f7, f8, f9, f10⟩, l⟩ := h
  exact ⟨⟨by go_simp, by go_simp, by go_simp, by go_simp, by go_simp, by go_simp, by go_simp, by go_simp, by go_simp, by go_simp, by go_simp⟩, ⟨by go_simp, by go_simp, by go_simp, by go_simp, by go_simp, by go_simp, by go_simp, by go_simp, by go_simp, by go_simp, by go_simp⟩, by simpa using l⟩
theorem ownMo_put3 {w : World} {b : Nat} {m : Mo} (h : OwnMo w b m) (x : Int) : OwnMo (w.setCell ⟨b, 3, none⟩ (.int .i64 x)) b { m with d := (m.d.1, x, m.d.2.2) } := by
  obtain ⟨⟨h0, h1, h2, h3, h4, h5, h6, h7, h8, h9, h10⟩, ⟨f0, f1, f2, f3, f4, f5, f6, f7, f8, f9, f10⟩, l⟩ := h
  exact ⟨⟨by go_simp, by go_simp, by go_simp, by go_simp, by go_simp, by go_simp, by go_simp, by go_simp, by go_simp, by go_simp, by go_simp⟩, ⟨by go_simp, by go_simp, by go_simp, by go_simp, by go_simp, by go_simp, by go_simp, by go_simp, by go_simp, by go_simp, by go_simp⟩, by simpa using l⟩
theorem ownMo_put4 {w : World} {b : Nat} {m : Mo} (h : OwnMo w b m) (x : Int) : OwnMo (w.setCell ⟨b, 4, none⟩ (.int .i64 x)) b { m with d := (m.d.1, m.d.2.1, x) } := by
  obtain ⟨⟨h0, h1, h2, h3, h4, h5, h6, h7, h8, h9, h10⟩, ⟨f0, f1, f2, f3, f4, f5, f6, f7, f8, f9, f10⟩, l⟩ := h
  exact ⟨⟨by go_simp, by go_simp, by go_simp, by go_simp, by go_simp, by go_simp, by go_simp, by go_simp, by go_simp, by go_simp, by go_simp⟩, ⟨by go_simp, by go_simp, by go_simp, by go_simp, by go_simp, by go_simp, by go_simp, by go_simp, by go_simp, by go_simp, by go_simp⟩, by simpa using l⟩
theorem ownMo_put5 {w : World} {b : Nat} {m : Mo} (h : OwnMo w b m) (x : Int) : OwnMo (w.setCell ⟨b, 5, none⟩ (.int .i64 x)) b { m with s0 := x } := by
  obtain ⟨⟨h0, h1, h2, h3, h4, h5, h6, h7, h8, h9, h10⟩, ⟨f0, f1, f2, f3, f4, f5, f6, f7, f8, f9, f10⟩, l⟩ := h
  exact ⟨⟨by go_simp, by go_simp, by go_simp, by go_simp, by go_simp, by go_simp, by go_simp, by go_simp, by go_simp, by go_simp, by go_simp⟩, ⟨by go_simp, by go_simp, by go_simp, by go_simp, by go_simp, by go_simp, by go_simp, by go_simp, by go_simp, by go_simp, by go_simp⟩, by simpa using l⟩
theorem ownMo_put6 {w : World} {b : Nat} {m : Mo} (h : OwnMo w b m) (x : Int) : OwnMo (w.setCell ⟨b, 6, none⟩ (.int .i64 x)) b { m with s1 := x } := by
  obtain ⟨⟨h0, h1, h2, h3, h4, h5, h6, h7, h8, h9, h10⟩, ⟨f0, f1, f2, f3, f4, f5, f6, f7, f8, f9, f10⟩, l⟩ := h
  exact ⟨⟨by go_simp, by go_simp, by go_simp, by go_simp, by go_simp, by go_simp, by go_simp, by go_simp, by go_simp, by go_simp, by go_simp⟩, ⟨by go_simp, by go_simp, by go_simp, by go_simp, by go_simp, by go_simp, by go_simp, by go_simp, by go_simp, by go_simp, by go_simp⟩, by simpa using l⟩
theorem ownMo_put7 {w : World} {b : Nat} {m : Mo} (h : OwnMo w b m) (x : Int) : OwnMo (w.setCell ⟨b, 7, none⟩ (.int .i64 x)) b { m with s2 := x } := by
  obtain ⟨⟨h0, h1, h2, h3, h4, h5, h6, h7, h8, h9, h10⟩, ⟨f0, f1, f2, f3, f4, f5, f6, f7, f8, f9, f10⟩, l⟩ := h
  exact ⟨⟨by go_simp, by go_simp, by go_simp, by go_simp, by go_simp, by go_simp, by go_simp, by go_simp, by go_simp, by go_simp, by go_simp⟩, ⟨by go_simp, by go_simp, by go_simp, by go_simp, by go_simp, by go_simp, by go_simp, by go_simp, by go_simp, by go_simp, by go_simp⟩, by simpa using l⟩
theorem ownMo_put8 {w : World} {b : Nat} {m : Mo} (h : OwnMo w b m) (x : Int) : OwnMo (w.setCell ⟨b, 8, none⟩ (.int .i64 x)) b { m with s3 := x } := by
  obtain ⟨⟨h0, h1, h2, h3, h4, h5, h6, h7, h8, h9, h10⟩, ⟨f0, f1, f2, f3, f4, f5, f6, f7, f8, f9, f10⟩, l⟩ := h
  exact ⟨⟨by go_simp, by go_simp, by go_simp, by go_simp, by go_simp, by go_simp, by go_simp, by go_simp, by go_simp, by go_simp, by go_simp⟩, ⟨by go_simp, by go_simp, by go_simp, by go_simp, by go_simp, by go_simp, by go_simp, by go_simp, by go_simp, by go_simp, by go_simp⟩, by simpa using l⟩
theorem ownMo_put9 {w : World} {b : Nat} {m : Mo} (h : OwnMo w b m) (x : Int) : OwnMo (w.setCell ⟨b, 9, none⟩ (.int .i64 x)) b { m with s4 := x } := by
  obtain ⟨⟨h0, h1, h2, h3, h4, h5, h6, h7, h8, h9, h10⟩, ⟨f0, f1, f2, f3, f4, f5, f6, f7, f8, f9, f10⟩, l⟩ := h
  exact ⟨⟨by go_simp, by go_simp, by go_simp, by go_simp, by go_simp, by go_simp, by go_simp, by go_simp, by go_simp, by go_simp, by go_simp⟩, ⟨by go_simp, by go_simp, by go_simp, by go_simp, by go_simp, by go_simp, by go_simp, by go_simp, by go_simp, by go_simp, by go_simp⟩, by simpa using l⟩
theorem ownMo_put10 {w : World} {b : Nat} {m : Mo} (h : OwnMo w b m) (x : Int) : OwnMo (w.setCell ⟨b, 10, none⟩ (.int .i64 x)) b { m with s5 := x } := by
  obtain ⟨⟨h0, h1, h2, h3, h4, h5, h6, h7, h8, h9, h10⟩, ⟨f0, f1, f2, f3, f4, f5, f6, f7, f8, f9, f10⟩, l⟩ := h
  exact ⟨⟨by go_simp, by go_simp, by go_simp, by go_simp, by go_simp, by go_simp, by go_simp, by go_simp, by go_simp, by go_simp, by go_simp⟩, ⟨by go_simp, by go_simp, by go_simp, by go_simp, by go_simp, by go_simp, by go_simp, by go_simp, by go_simp, by go_simp, by go_simp⟩, by simpa using l⟩
theorem ownMo_dip {w : World} {b : Nat} {m : Mo} (h : OwnMo w b m) (d : P3) : OwnMo (((w.setCell ⟨b, 2, none⟩ (.int .i64 d.1)).setCell ⟨b, 3, none⟩ (.int .i64 d.2.1)).setCell ⟨b, 4, none⟩ (.int .i64 d.2.2)) b { m with d := d } :=
  ownMo_put4 (ownMo_put3 (ownMo_put2 h d.1) d.2.1) d.2.2
theorem dip_cells {w : World} {b : Nat} {m : Mo} (h : OwnMo w b m) : w.cell? ⟨b, 2, none⟩ = some (.int .i64 m.d.1) ∧ w.cell? ⟨b, 3, none⟩ = some (.int .i64 m.d.2.1) ∧ w.cell? ⟨b, 4, none⟩ = some (.int .i64 m.d.2.2) := by
  obtain ⟨⟨_, _, h2, h3, h4, _⟩, _⟩ := h
  exact ⟨h2, h3, h4⟩
set_option maxHeartbeats 1000000 in
theorem mad_bad0 (a b : Mo) (w : World) (h : mokB a = false) :
    Calls Tryd.prog 14 #[mov a, mov b] w fun e w' => e = .returned (.tuple #[mov0, .int .i64 1]) ∧ Below w.heap.size w w' := by
  have V := Lib.hid (fun W => mval_bad a W h)
  clear h
  have i0 : ∀ w, (Instr.index 74 (.agg #[.int .i64 a.c, .int .i64 a.t, .int .i64 a.d.1, .int .i64 a.d.2.1, .int .i64 a.d.2.2, .int .i64 a.s0, .int .i64 a.s1, .int .i64 a.s2, .int .i64 a.s3, .int .i64 a.s4, .int .i64 a.s5, .int .i64 b.c, .int .i64 b.t, .int .i64 b.d.1, .int .i64 b.d.2.1, .int .i64 b.d.2.2, .int .i64 b.s0, .int .i64 b.s1, .int .i64 b.s2, .int .i64 b.s3, .int .i64 b.s4, .int .i64 b.s5]) (.int .i64 0)).run Tryd.prog w = .ok (mov a) w := fun _ => by kernel_rfl
  have i1 : ∀ w, (Instr.index 74 (.agg #[.int .i64 a.c, .int .i64 a.t, .int .i64 a.d.1, .int .i64 a.d.2.1, .int .i64 a.d.2.2, .int .i64 a.s0, .int .i64 a.s1, .int .i64 a.s2, .int .i64 a.s3, .int .i64 a.s4, .int .i64 a.s5, .int .i64 b.c, .int .i64 b.t, .int .i64 b.d.1, .int .i64 b.d.2.1, .int .i64 b.d.2.2, .int .i64 b.s0, .int .i64 b.s1, .int .i64 b.s2, .int .i64 b.s3, .int .i64 b.s4, .int .i64 b.s5]) (.int .i64 1)).run Tryd.prog w = .ok (mov b) w := fun _ => by kernel_rfl
  go_enter Tryd.func14, Tryd.ntmps14
  go_wp2
  refine wp_loop_rounds 3 ?_
  rw [rounds_succ]
  go_wp2_with fail
  refine (V.out _).mono ?_
  rintro e w1 ⟨rfl, hb1⟩
  have PA := Lib.hid (by have z := ownMo_below (ownMo_alloc (ownMo_alloc (ownMo_alloc (ownMo_new w a 28) (mob b 28)) (mob0 28)) (mob a 28)) hb1; exact z : OwnMo w1 w.heap.size a)
  have PB := Lib.hid (by have z := ownMo_below (ownMo_alloc (ownMo_alloc (ownMo_new (w.alloc (mob a 28)) b 28) (mob0 28)) (mob a 28)) hb1; simp only [World.size_alloc] at z; exact z : OwnMo w1 (w.heap.size + 1) b)
  have PR := Lib.hid (by have z := ownMo_below (ownMo_alloc (ownMo_new0 ((w.alloc (mob a 28)).alloc (mob b 28)) 28) (mob a 28)) hb1; simp only [World.size_alloc] at z; exact z : OwnMo w1 (w.heap.size + 1 + 1) mzero)
  have B1 := Lib.hid (bstep (balloc (balloc (balloc (balloc (Below.refl _ w) _) _) _) _) hb1)
  clear hb1
  have PR' := PR.out
  simp only [OwnMo, mzero] at PR'
  obtain ⟨⟨y0, y1, y2, y3, y4, y5, y6, y7, y8, y9, y10⟩, ⟨g0, g1, g2, g3, g4, g5, g6, g7, g8, g9, g10⟩, ly⟩ := PR'
  go_wp2
  refine bodyPost_ret (v := .tuple #[mov0, .int .i64 1]) (by rw [results_cell_tmp rfl]; go_simp) rfl ⟨rfl, ?_⟩
  exact below_put11 B1.out (by omega)
set_option maxHeartbeats 1000000 in
theorem mad_bad1 (a b : Mo) (w : World) (h : mokB a = true) (k : mokB b = false) :
    Calls Tryd.prog 14 #[mov a, mov b] w fun e w' => e = .returned (.tuple #[mov0, .int .i64 1]) ∧ Below w.heap.size w w' := by
  have V := Lib.hid (fun W => mval_ok a W h)
  have U := Lib.hid (fun W => mval_bad b W k)
  clear h k
  have i0 : ∀ w, (Instr.index 74 (.agg #[.int .i64 a.c, .int .i64 a.t, .int .i64 a.d.1, .int .i64 a.d.2.1, .int .i64 a.d.2.2, .int .i64 a.s0, .int .i64 a.s1, .int .i64 a.s2, .int .i64 a.s3, .int .i64 a.s4, .int .i64 a.s5, .int .i64 b.c, .int .i64 b.t, .int .i64 b.d.1, .int .i64 b.d.2.1, .int .i64 b.d.2.2, .int .i64 b.s0, .int .i64 b.s1, .int .i64 b.s2, .int .i64 b.s3, .int .i64 b.s4, .int .i64 b.s5]) (.int .i64 0)).run Tryd.prog w = .ok (mov a) w := fun _ => by kernel_rfl
  have i1 : ∀ w, (Instr.index 74 (.agg #[.int .i64 a.c, .int .i64 a.t, .int .i64 a.d.1, .int .i64 a.d.2.1, .int .i64 a.d.2.2, .int .i64 a.s0, .int .i64 a.s1, .int .i64 a.s2, .int .i64 a.s3, .int .i64 a.s4, .int .i64 a.s5, .int .i64 b.c, .int .i64 b.t, .int .i64 b.d.1, .int .i64 b.d.2.1, .int .i64 b.d.2.2, .int .i64 b.s0, .int .i64 b.s1, .int .i64 b.s2, .int .i64 b.s3, .int .i64 b.s4, .int .i64 b.s5]) (.int .i64 1)).run Tryd.prog w = .ok (mov b) w := fun _ => by kernel_rfl
  go_enter Tryd.func14, Tryd.ntmps14
  go_wp2
  refine wp_loop_rounds 3 ?_
  rw [rounds_succ]
  go_wp2_with fail
  refine (V.out _).mono ?_
  rintro e w1 ⟨rfl, hb1⟩
  have PA := Lib.hid (by have z := ownMo_below (ownMo_alloc (ownMo_alloc (ownMo_alloc (ownMo_new w a 28) (mob b 28)) (mob0 28)) (mob a 28)) hb1; exact z : OwnMo w1 w.heap.size a)
  have PB := Lib.hid (by have z := ownMo_below (ownMo_alloc (ownMo_alloc (ownMo_new (w.alloc (mob a 28)) b 28) (mob0 28)) (mob a 28)) hb1; simp only [World.size_alloc] at z; exact z : OwnMo w1 (w.heap.size + 1) b)
  have PR := Lib.hid (by have z := ownMo_below (ownMo_alloc (ownMo_new0 ((w.alloc (mob a 28)).alloc (mob b 28)) 28) (mob a 28)) hb1; simp only [World.size_alloc] at z; exact z : OwnMo w1 (w.heap.size + 1 + 1) mzero)
  have B1 := Lib.hid (bstep (balloc (balloc (balloc (balloc (Below.refl _ w) _) _) _) _) hb1)
  clear hb1
  go_wp2
  rw [rounds_succ]
  go_wp2_with fail
  refine (U.out _).mono ?_
  rintro e w2 ⟨rfl, hb2⟩
  have PA := Lib.hid (ownMo_below (ownMo_alloc PA.out (mob b 28)) hb2)
  have PB := Lib.hid (ownMo_below (ownMo_alloc PB.out (mob b 28)) hb2)
  have PR := Lib.hid (ownMo_below (ownMo_alloc PR.out (mob b 28)) hb2)
  have B2 := Lib.hid (bstep (balloc B1.out _) hb2)
  clear hb2
  have PR' := PR.out
  simp only [OwnMo, mzero] at PR'
  obtain ⟨⟨y0, y1, y2, y3, y4, y5, y6, y7, y8, y9, y10⟩, ⟨g0, g1, g2, g3, g4, g5, g6, g7, g8, g9, g10⟩, ly⟩ := PR'
  go_wp2
  refine bodyPost_ret (v := .tuple #[mov0, .int .i64 1]) (by rw [results_cell_tmp rfl]; go_simp) rfl ⟨rfl, ?_⟩
  exact below_put11 B2.out (by omega)
theorem sum_bd {B x y : Int} (h : -B ≤ x ∧ x ≤ B) (k : -B ≤ y ∧ y ≤ B) : -(2 * B) ≤ x + y ∧ x + y ≤ 2 * B := by omega
theorem ct_bd {a b : Mo} (h : mok a) (k : mok b) : (-2097152 ≤ a.c + b.c ∧ a.c + b.c ≤ 2097152) ∧ (0 ≤ a.t + b.t ∧ a.t + b.t ≤ 2097152) := by
  unfold mok at h k
  omega

end Go.Proofs.YtjflgiegnibgmaaDoor
