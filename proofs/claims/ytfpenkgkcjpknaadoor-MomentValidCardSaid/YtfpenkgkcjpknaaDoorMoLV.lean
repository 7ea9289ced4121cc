/-
  The law MomentValid: for all moments and numbers it answers true.
-/
import Derived.Test.YtfpenkgkcjpknaaDoorMoSa
namespace Go.Proofs.YtfpenkgkcjpknaaDoor
open Go.ChangeShapes Go.WideShapes Go.RowKit
open Sh
theorem three_cells {w : World} {a b c : Nat} {l m n : Mo} (h : OwnMo w a l) (k : OwnMo w b m) (i : OwnMo w c n) : (w.cell? ⟨a, 0, none⟩ = some (.int .i64 l.c) ∧ w.cell? ⟨a, 1, none⟩ = some (.int .i64 l.t) ∧ w.cell? ⟨a, 2, none⟩ = some (.int .i64 l.d.1) ∧ w.cell? ⟨a, 3, none⟩ = some (.int .i64 l.d.2.1) ∧ w.cell? ⟨a, 4, none⟩ = some (.int .i64 l.d.2.2) ∧ w.cell? ⟨a, 5, none⟩ = some (.int .i64 l.s0) ∧ w.cell? ⟨a, 6, none⟩ = some (.int .i64 l.s1) ∧ w.cell? ⟨a, 7, none⟩ = some (.int .i64 l.s2) ∧ w.cell? ⟨a, 8, none⟩ = some (.int .i64 l.s3) ∧ w.cell? ⟨a, 9, none⟩ = some (.int .i64 l.s4) ∧ w.cell? ⟨a, 10, none⟩ = some (.int .i64 l.s5)) ∧ (w.cell? ⟨b, 0, none⟩ = some (.int .i64 m.c) ∧ w.cell? ⟨b, 1, none⟩ = some (.int .i64 m.t) ∧ w.cell? ⟨b, 2, none⟩ = some (.int .i64 m.d.1) ∧ w.cell? ⟨b, 3, none⟩ = some (.int .i64 m.d.2.1) ∧ w.cell? ⟨b, 4, none⟩ = some (.int .i64 m.d.2.2) ∧ w.cell? ⟨b, 5, none⟩ = some (.int .i64 m.s0) ∧ w.cell? ⟨b, 6, none⟩ = some (.int .i64 m.s1) ∧ w.cell? ⟨b, 7, none⟩ = some (.int .i64 m.s2) ∧ w.cell? ⟨b, 8, none⟩ = some (.int .i64 m.s3) ∧ w.cell? ⟨b, 9, none⟩ = some (.int .i64 m.s4) ∧ w.cell? ⟨b, 10, none⟩ = some (.int .i64 m.s5)) ∧ (w.cell? ⟨c, 0, none⟩ = some (.int .i64 n.c) ∧ w.cell? ⟨c, 1, none⟩ = some (.int .i64 n.t) ∧ w.cell? ⟨c, 2, none⟩ = some (.int .i64 n.d.1) ∧ w.cell? ⟨c, 3, none⟩ = some (.int .i64 n.d.2.1) ∧ w.cell? ⟨c, 4, none⟩ = some (.int .i64 n.d.2.2) ∧ w.cell? ⟨c, 5, none⟩ = some (.int .i64 n.s0) ∧ w.cell? ⟨c, 6, none⟩ = some (.int .i64 n.s1) ∧ w.cell? ⟨c, 7, none⟩ = some (.int .i64 n.s2) ∧ w.cell? ⟨c, 8, none⟩ = some (.int .i64 n.s3) ∧ w.cell? ⟨c, 9, none⟩ = some (.int .i64 n.s4) ∧ w.cell? ⟨c, 10, none⟩ = some (.int .i64 n.s5)) := ⟨h.1, k.1, i.1⟩
set_option maxRecDepth 100000 in
set_option maxHeartbeats 4000000 in
theorem mvalid_walk0 (m R : Mo) (k t c n E : Int) (w : World) (pl : Plc w) (C0 : Hid (∀ W, Plc W → Calls Tryd.prog 18 #[mov m] W fun e w' => e = .returned (.tuple #[.int .i64 t, .int .i64 c]) ∧ Below W.heap.size W w')) (C1 : Hid (∀ W, Calls Tryd.prog 19 #[mov m] W fun e w' => e = .returned (.tuple #[.int .i64 t, .int .i64 c]) ∧ Below W.heap.size W w')) (C2 : Hid (∀ W, Calls Tryd.prog 20 #[mov m] W fun e w' => e = .returned (.tuple #[.int .i64 n, .int .i64 c]) ∧ Below W.heap.size W w')) (C3 : Hid (∀ W, Calls Tryd.prog 21 #[mov m] W fun e w' => e = .returned (.tuple #[.int .i64 n, .int .i64 c]) ∧ Below W.heap.size W w')) (C4 : Hid (∀ W, Calls Tryd.prog 22 #[mov m, .int .i64 k] W fun e w' => e = .returned (.tuple #[mov R, .int .i64 E]) ∧ Below W.heap.size W w')) (C5 : Hid (∀ W, Calls Tryd.prog 23 #[mov m, .int .i64 k] W fun e w' => e = .returned (.tuple #[mov R, .int .i64 E]) ∧ Below W.heap.size W w')) (C6 : Hid (∀ W, Calls Tryd.prog 24 #[mov m] W fun e w' => e = .returned (.int .i64 c) ∧ Below W.heap.size W w')) (C7 : Hid (∀ W, Calls Tryd.prog 25 #[mov m] W fun e w' => e = .returned (.int .i64 c) ∧ Below W.heap.size W w')) (C8 : Hid (∀ W, Plc W → Calls Tryd.prog 12 #[] W fun e w' => e = .returned (.bool true) ∧ Below W.heap.size W w')) :
    Calls Tryd.prog 5 #[mov m, .int .i64 k] w fun e w' => e = .returned (.bool true) ∧ Below w.heap.size w w' := by
  have PL := Lib.hid pl
  have gz : 0 < w.heap.size := pl.2
  clear pl
  go_enter Tryd.func5, Tryd.ntmps5
  go_wp2_with fail
  refine (C0.out _ (plc_alloc PL.out _)).mono ?_
  rintro e w1 ⟨rfl, hb1⟩
  have PM := Lib.hid (ownMo_below (ownMo_new w m 28) hb1)
  have B1 := Lib.hid (bstep (balloc (Below.refl _ w) _) hb1)
  clear hb1
  have PM' := PM.out
  obtain ⟨⟨x0, x1, x2, x3, x4, x5, x6, x7, x8, x9, x10⟩, _, lx⟩ := PM'
  go_wp2_with fail
  refine (C1.out _).mono ?_
  rintro e w2 ⟨rfl, hb2⟩
  clear x0 x1 x2 x3 x4 x5 x6 x7 x8 x9 x10 lx
  have PM := Lib.hid (ownMo_below PM.out hb2)
  have B2 := Lib.hid (bstep B1.out hb2)
  clear hb2
  have PM' := PM.out
  obtain ⟨⟨x0, x1, x2, x3, x4, x5, x6, x7, x8, x9, x10⟩, _, lx⟩ := PM'
  go_wp2_with fail
  refine (C2.out _).mono ?_
  rintro e w3 ⟨rfl, hb3⟩
  clear x0 x1 x2 x3 x4 x5 x6 x7 x8 x9 x10 lx
  have PM := Lib.hid (ownMo_below PM.out hb3)
  have B3 := Lib.hid (bstep B2.out hb3)
  clear hb3
  have PM' := PM.out
  obtain ⟨⟨x0, x1, x2, x3, x4, x5, x6, x7, x8, x9, x10⟩, _, lx⟩ := PM'
  go_wp2_with fail
  refine (C3.out _).mono ?_
  rintro e w4 ⟨rfl, hb4⟩
  clear x0 x1 x2 x3 x4 x5 x6 x7 x8 x9 x10 lx
  have PM := Lib.hid (ownMo_below PM.out hb4)
  have B4 := Lib.hid (bstep B3.out hb4)
  clear hb4
  have PM' := PM.out
  obtain ⟨⟨x0, x1, x2, x3, x4, x5, x6, x7, x8, x9, x10⟩, _, lx⟩ := PM'
  go_wp2_with fail
  refine (C4.out _).mono ?_
  rintro e w5 ⟨rfl, hb5⟩
  clear x0 x1 x2 x3 x4 x5 x6 x7 x8 x9 x10 lx
  have PM := Lib.hid (ownMo_below PM.out hb5)
  have B5 := Lib.hid (bstep B4.out hb5)
  clear hb5
  have PM' := PM.out
  obtain ⟨⟨x0, x1, x2, x3, x4, x5, x6, x7, x8, x9, x10⟩, _, lx⟩ := PM'
  go_wp2_with fail
  refine (C5.out _).mono ?_
  rintro e w6 ⟨rfl, hb6⟩
  clear x0 x1 x2 x3 x4 x5 x6 x7 x8 x9 x10 lx
  have PM := Lib.hid (ownMo_below (ownMo_alloc PM.out (mob R 28)) hb6)
  have PX := Lib.hid (ownMo_below (ownMo_new w5 R 28) hb6)
  have B6 := Lib.hid (bstep (balloc B5.out _) hb6)
  clear hb6
  go_wp2_with fail
  have Q_0 := ownMo_drew (ownMo_alloc PM.out (mob R 28))
  have Q_1 := ownMo_drew (ownMo_alloc PX.out (mob R 28))
  have Q_2 := ownMo_drew (ownMo_new w6 R 28)
  have Q_3 := Below.drew (balloc B6.out (mob R 28))
  have e6 := same6 9998
  have e7 := same6 9997
  go_region_held3 (fun w' => (w'.cell? ⟨w.heap.size, 0, none⟩ = some (.int .i64 m.c) ∧ w'.cell? ⟨w.heap.size, 1, none⟩ = some (.int .i64 m.t) ∧ w'.cell? ⟨w.heap.size, 2, none⟩ = some (.int .i64 m.d.1) ∧ w'.cell? ⟨w.heap.size, 3, none⟩ = some (.int .i64 m.d.2.1) ∧ w'.cell? ⟨w.heap.size, 4, none⟩ = some (.int .i64 m.d.2.2) ∧ w'.cell? ⟨w.heap.size, 5, none⟩ = some (.int .i64 m.s0) ∧ w'.cell? ⟨w.heap.size, 6, none⟩ = some (.int .i64 m.s1) ∧ w'.cell? ⟨w.heap.size, 7, none⟩ = some (.int .i64 m.s2) ∧ w'.cell? ⟨w.heap.size, 8, none⟩ = some (.int .i64 m.s3) ∧ w'.cell? ⟨w.heap.size, 9, none⟩ = some (.int .i64 m.s4) ∧ w'.cell? ⟨w.heap.size, 10, none⟩ = some (.int .i64 m.s5)) ∧ (w'.cell? ⟨w5.heap.size, 0, none⟩ = some (.int .i64 R.c) ∧ w'.cell? ⟨w5.heap.size, 1, none⟩ = some (.int .i64 R.t) ∧ w'.cell? ⟨w5.heap.size, 2, none⟩ = some (.int .i64 R.d.1) ∧ w'.cell? ⟨w5.heap.size, 3, none⟩ = some (.int .i64 R.d.2.1) ∧ w'.cell? ⟨w5.heap.size, 4, none⟩ = some (.int .i64 R.d.2.2) ∧ w'.cell? ⟨w5.heap.size, 5, none⟩ = some (.int .i64 R.s0) ∧ w'.cell? ⟨w5.heap.size, 6, none⟩ = some (.int .i64 R.s1) ∧ w'.cell? ⟨w5.heap.size, 7, none⟩ = some (.int .i64 R.s2) ∧ w'.cell? ⟨w5.heap.size, 8, none⟩ = some (.int .i64 R.s3) ∧ w'.cell? ⟨w5.heap.size, 9, none⟩ = some (.int .i64 R.s4) ∧ w'.cell? ⟨w5.heap.size, 10, none⟩ = some (.int .i64 R.s5)) ∧ (w'.cell? ⟨w6.heap.size, 0, none⟩ = some (.int .i64 R.c) ∧ w'.cell? ⟨w6.heap.size, 1, none⟩ = some (.int .i64 R.t) ∧ w'.cell? ⟨w6.heap.size, 2, none⟩ = some (.int .i64 R.d.1) ∧ w'.cell? ⟨w6.heap.size, 3, none⟩ = some (.int .i64 R.d.2.1) ∧ w'.cell? ⟨w6.heap.size, 4, none⟩ = some (.int .i64 R.d.2.2) ∧ w'.cell? ⟨w6.heap.size, 5, none⟩ = some (.int .i64 R.s0) ∧ w'.cell? ⟨w6.heap.size, 6, none⟩ = some (.int .i64 R.s1) ∧ w'.cell? ⟨w6.heap.size, 7, none⟩ = some (.int .i64 R.s2) ∧ w'.cell? ⟨w6.heap.size, 8, none⟩ = some (.int .i64 R.s3) ∧ w'.cell? ⟨w6.heap.size, 9, none⟩ = some (.int .i64 R.s4) ∧ w'.cell? ⟨w6.heap.size, 10, none⟩ = some (.int .i64 R.s5)))
    (first | (refine three_cells ?_ ?_ ?_ <;> with_reducible assumption) | fail)
    (first | (go_at_call 24; (with_reducible refine (C6.out _).mono ?_); rintro e v6 ⟨rfl, hv6⟩; have q6_0 := ownMo_below Q_0 hv6; have q6_1 := ownMo_below Q_1 hv6; have q6_2 := ownMo_below Q_2 hv6; have q6_3 := below_step Q_3 hv6 Q_3.size) | (go_at_call 25; (with_reducible refine (C7.out _).mono ?_); rintro e v7 ⟨rfl, hv7⟩; have q7_0 := ownMo_below q6_0 hv7; have q7_1 := ownMo_below q6_1 hv7; have q7_2 := ownMo_below q6_2 hv7; have q7_3 := below_step q6_3 hv7 q6_3.size) | (go_at_call 12; (with_reducible refine (C8.out _ (plc_in PL.out q7_3 gz)).mono ?_); rintro e v8 ⟨rfl, hv8⟩; have q8_0 := ownMo_below q7_0 hv8; have q8_1 := ownMo_below q7_1 hv8; have q8_2 := ownMo_below q7_2 hv8; have q8_3 := below_step q7_3 hv8 q7_3.size) | fail)
  all_goals
    go_wp2
    go_ret
    exact ⟨rfl, q8_3⟩
theorem mvalid_walk (m : Mo) (k : Int) (w : World) (pl : Plc w) :
    Calls Tryd.prog 5 #[mov m, .int .i64 k] w fun e w' => e = .returned (.bool true) ∧ Below w.heap.size w w' :=
  mvalid_walk0 m (scR k m).1 k _ _ _ (scR k m).2 w pl (Lib.hid fun W p => trace_any m W p) (Lib.hid fun W => rtrace_any m W) (Lib.hid fun W => neut_any m W) (Lib.hid fun W => rneut_any m W)
    (Lib.hid fun W => msc_any m k W) (Lib.hid fun W => rmsc_any m k W) (Lib.hid fun W => mval_any m W) (Lib.hid fun W => rmval_any m W) (Lib.hid fun W p => sane_any W p)

end Go.Proofs.YtfpenkgkcjpknaaDoor
