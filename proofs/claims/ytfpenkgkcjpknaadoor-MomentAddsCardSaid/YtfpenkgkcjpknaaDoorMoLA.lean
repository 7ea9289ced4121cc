/-
  The law MomentAdds: for all moments it answers true.
-/
import Derived.Test.YtfpenkgkcjpknaaDoorMoSa
namespace Go.Proofs.YtfpenkgkcjpknaaDoor
open Go.ChangeShapes Go.WideShapes Go.RowKit
open Sh
theorem three_cells2 {w : World} {a b c : Nat} {l m n : Mo} (h : OwnMo w a l) (k : OwnMo w b m) (i : OwnMo w c n) : (w.cell? ⟨a, 0, none⟩ = some (.int .i64 l.c) ∧ w.cell? ⟨a, 1, none⟩ = some (.int .i64 l.t) ∧ w.cell? ⟨a, 2, none⟩ = some (.int .i64 l.d.1) ∧ w.cell? ⟨a, 3, none⟩ = some (.int .i64 l.d.2.1) ∧ w.cell? ⟨a, 4, none⟩ = some (.int .i64 l.d.2.2) ∧ w.cell? ⟨a, 5, none⟩ = some (.int .i64 l.s0) ∧ w.cell? ⟨a, 6, none⟩ = some (.int .i64 l.s1) ∧ w.cell? ⟨a, 7, none⟩ = some (.int .i64 l.s2) ∧ w.cell? ⟨a, 8, none⟩ = some (.int .i64 l.s3) ∧ w.cell? ⟨a, 9, none⟩ = some (.int .i64 l.s4) ∧ w.cell? ⟨a, 10, none⟩ = some (.int .i64 l.s5)) ∧ (w.cell? ⟨b, 0, none⟩ = some (.int .i64 m.c) ∧ w.cell? ⟨b, 1, none⟩ = some (.int .i64 m.t) ∧ w.cell? ⟨b, 2, none⟩ = some (.int .i64 m.d.1) ∧ w.cell? ⟨b, 3, none⟩ = some (.int .i64 m.d.2.1) ∧ w.cell? ⟨b, 4, none⟩ = some (.int .i64 m.d.2.2) ∧ w.cell? ⟨b, 5, none⟩ = some (.int .i64 m.s0) ∧ w.cell? ⟨b, 6, none⟩ = some (.int .i64 m.s1) ∧ w.cell? ⟨b, 7, none⟩ = some (.int .i64 m.s2) ∧ w.cell? ⟨b, 8, none⟩ = some (.int .i64 m.s3) ∧ w.cell? ⟨b, 9, none⟩ = some (.int .i64 m.s4) ∧ w.cell? ⟨b, 10, none⟩ = some (.int .i64 m.s5)) ∧ (w.cell? ⟨c, 0, none⟩ = some (.int .i64 n.c) ∧ w.cell? ⟨c, 1, none⟩ = some (.int .i64 n.t) ∧ w.cell? ⟨c, 2, none⟩ = some (.int .i64 n.d.1) ∧ w.cell? ⟨c, 3, none⟩ = some (.int .i64 n.d.2.1) ∧ w.cell? ⟨c, 4, none⟩ = some (.int .i64 n.d.2.2) ∧ w.cell? ⟨c, 5, none⟩ = some (.int .i64 n.s0) ∧ w.cell? ⟨c, 6, none⟩ = some (.int .i64 n.s1) ∧ w.cell? ⟨c, 7, none⟩ = some (.int .i64 n.s2) ∧ w.cell? ⟨c, 8, none⟩ = some (.int .i64 n.s3) ∧ w.cell? ⟨c, 9, none⟩ = some (.int .i64 n.s4) ∧ w.cell? ⟨c, 10, none⟩ = some (.int .i64 n.s5)) := ⟨h.1, k.1, i.1⟩
theorem adR_comm (a b : Mo) : adR b a = adR a b := by unfold adR; rw [madd_comm b a, Bool.and_comm]
set_option maxRecDepth 100000 in
set_option maxHeartbeats 4000000 in
theorem madds_walk0 (a b R : Mo) (E : Int) (w : World) (pl : Plc w) (C0 : Hid (∀ W, Calls Tryd.prog 17 #[mov a, mov b] W fun e w' => e = .returned (.tuple #[mov R, .int .i64 E]) ∧ Below W.heap.size W w')) (C1 : Hid (∀ W, Calls Tryd.prog 26 #[mov a, mov b] W fun e w' => e = .returned (.tuple #[mov R, .int .i64 E]) ∧ Below W.heap.size W w')) (C2 : Hid (∀ W, Calls Tryd.prog 17 #[mov b, mov a] W fun e w' => e = .returned (.tuple #[mov R, .int .i64 E]) ∧ Below W.heap.size W w')) (C3 : Hid (∀ W, Plc W → Calls Tryd.prog 12 #[] W fun e w' => e = .returned (.bool true) ∧ Below W.heap.size W w')) :
    Calls Tryd.prog 6 #[mov a, mov b] w fun e w' => e = .returned (.bool true) ∧ Below w.heap.size w w' := by
  have PL := Lib.hid pl
  have gz : 0 < w.heap.size := pl.2
  clear pl
  go_enter Tryd.func6, Tryd.ntmps6
  go_wp2_with fail
  refine (C0.out _).mono ?_
  rintro e w1 ⟨rfl, hb1⟩
  have PA := Lib.hid (ownMo_below (ownMo_alloc (ownMo_new w a 28) (mob b 28)) hb1)
  have PB := Lib.hid (by have z := ownMo_below (ownMo_new (w.alloc (mob a 28)) b 28) hb1; simp only [World.size_alloc] at z; exact z : OwnMo w1 (w.heap.size + 1) b)
  have B1 := Lib.hid (bstep (balloc (balloc (Below.refl _ w) _) _) hb1)
  clear hb1
  have PA' := PA.out
  obtain ⟨⟨x0, x1, x2, x3, x4, x5, x6, x7, x8, x9, x10⟩, _, lx⟩ := PA'
  have PB' := PB.out
  obtain ⟨⟨y0, y1, y2, y3, y4, y5, y6, y7, y8, y9, y10⟩, _, ly⟩ := PB'
  go_wp2_with fail
  refine (C1.out _).mono ?_
  rintro e w2 ⟨rfl, hb2⟩
  clear x0 x1 x2 x3 x4 x5 x6 x7 x8 x9 x10 lx
  clear y0 y1 y2 y3 y4 y5 y6 y7 y8 y9 y10 ly
  have PA := Lib.hid (ownMo_below (ownMo_alloc PA.out (mob R 28)) hb2)
  have PB := Lib.hid (ownMo_below (ownMo_alloc PB.out (mob R 28)) hb2)
  have PX := Lib.hid (ownMo_below (ownMo_new w1 R 28) hb2)
  have B2 := Lib.hid (bstep (balloc B1.out _) hb2)
  clear hb2
  have PA' := PA.out
  obtain ⟨⟨x0, x1, x2, x3, x4, x5, x6, x7, x8, x9, x10⟩, _, lx⟩ := PA'
  have PB' := PB.out
  obtain ⟨⟨y0, y1, y2, y3, y4, y5, y6, y7, y8, y9, y10⟩, _, ly⟩ := PB'
  go_wp2_with fail
  refine (C2.out _).mono ?_
  rintro e w3 ⟨rfl, hb3⟩
  clear x0 x1 x2 x3 x4 x5 x6 x7 x8 x9 x10 lx
  clear y0 y1 y2 y3 y4 y5 y6 y7 y8 y9 y10 ly
  have PX := Lib.hid (ownMo_below (ownMo_alloc PX.out (mob R 28)) hb3)
  have PY := Lib.hid (ownMo_below (ownMo_new w2 R 28) hb3)
  have B3 := Lib.hid (bstep (balloc B2.out _) hb3)
  clear hb3 PA PB
  have Q_3 := balloc B3.out (mob R 28)
  have PX' := PX.out
  obtain ⟨⟨x0, x1, x2, x3, x4, x5, x6, x7, x8, x9, x10⟩, _, lx⟩ := PX'
  have PY' := PY.out
  obtain ⟨⟨y0, y1, y2, y3, y4, y5, y6, y7, y8, y9, y10⟩, _, ly⟩ := PY'
  have e6 := same6 9998
  have e7 := same6 9997
  go_wp2_with fail
  refine (C3.out _ (plc_in PL.out Q_3 gz)).mono ?_
  rintro e w4 ⟨rfl, hb4⟩
  have B4 := below_step Q_3 hb4 Q_3.size
  clear x0 x1 x2 x3 x4 x5 x6 x7 x8 x9 x10 lx
  clear y0 y1 y2 y3 y4 y5 y6 y7 y8 y9 y10 ly
  go_wp2
  go_ret
  exact ⟨rfl, B4⟩
theorem madds_walk (a b : Mo) (w : World) (pl : Plc w) :
    Calls Tryd.prog 6 #[mov a, mov b] w fun e w' => e = .returned (.bool true) ∧ Below w.heap.size w w' :=
  madds_walk0 a b (adR a b).1 (adR a b).2 w pl (Lib.hid fun W => mad_any a b W) (Lib.hid fun W => rmad_any a b W) (Lib.hid fun W => adR_comm a b ▸ mad_any b a W) (Lib.hid fun W p => sane_any W p)

end Go.Proofs.YtfpenkgkcjpknaaDoor
