/-
  The law MomentShifts: for all moments and vectors it answers true.
-/
import Derived.Test.YtfpenkgkcjpknaaDoorMoSa
namespace Go.Proofs.YtfpenkgkcjpknaaDoor
open Go.ChangeShapes Go.WideShapes Go.RowKit
open Sh
theorem shR_zero {m : Mo} {t : P3} (h : (shR m t).2 = 0) : mokB m = true ∧ inP 128 t = true ∧ mokB (mshift m t) = true ∧ (shR m t).1 = mshift m t := by
  unfold shR at h ⊢
  cases a : mokB m with
  | false => rw [a] at h; cases h
  | true =>
    cases b : inP 128 t with
    | false => rw [a, b] at h; cases h
    | true =>
      rw [a, b] at h
      unfold mtold
      cases c : mokB (mshift m t) with
      | false =>
        have h' : mlarge (mshift m t) = 0 := h
        unfold mlarge at h'
        rw [c] at h'
        cases h'
      | true => exact ⟨rfl, rfl, rfl, rfl⟩
theorem neg_in {t : P3} (h : inP 128 t = true) : inP 128 (neg t) = true := by
  have := inP_iff.1 h
  rw [inP_iff]
  unfold BdP neg at *
  dsimp only
  omega
theorem shR_back {m : Mo} {t : P3} (h : (shR m t).2 = 0) : shR (shR m t).1 (neg t) = (m, 0) := by
  obtain ⟨h1, h2, h3, h4⟩ := shR_zero h
  rw [h4]
  unfold shR
  rw [h3, neg_in h2, mshift_back]
  unfold mtold mlarge
  rw [h1]
  rfl
set_option maxRecDepth 100000 in
set_option maxHeartbeats 4000000 in
theorem mshifts_no (m R : Mo) (t : P3) (E : Int) (w : World) (pl : Plc w) (hE : E ≠ 0) (C0 : Hid (∀ W, Plc W → Calls Tryd.prog 27 #[mov m, ptv t] W fun e w' => e = .returned (.tuple #[mov R, .int .i64 E]) ∧ Below W.heap.size W w')) (C1 : Hid (∀ W, Calls Tryd.prog 28 #[mov m, ptv t] W fun e w' => e = .returned (.tuple #[mov R, .int .i64 E]) ∧ Below W.heap.size W w')) (C2 : Hid (∀ W, Plc W → Calls Tryd.prog 12 #[] W fun e w' => e = .returned (.bool true) ∧ Below W.heap.size W w')) :
    Calls Tryd.prog 7 #[mov m, ptv t] w fun e w' => e = .returned (.bool true) ∧ Below w.heap.size w w' := by
  have z1 := int_ne0 hE
  clear hE
  have PL := Lib.hid pl
  have gz : 0 < w.heap.size := pl.2
  clear pl
  go_enter Tryd.func7, Tryd.ntmps7
  go_wp2_with fail
  refine (C0.out _ (plc_alloc (plc_alloc PL.out _) _)).mono ?_
  rintro e w1 ⟨rfl, hb1⟩
  have PA := Lib.hid (ownMo_below (ownMo_alloc (ownMo_new w m 28) (ptc t 24)) hb1)
  have PT := Lib.hid (by have z := own_below (own_new (w.alloc (mob m 28)) t 24) hb1; simp only [World.size_alloc] at z; exact z : Own w1 (w.heap.size + 1) t)
  have B1 := Lib.hid (bstep (balloc (balloc (Below.refl _ w) _) _) hb1)
  clear hb1
  have PA' := PA.out
  obtain ⟨⟨x0, x1, x2, x3, x4, x5, x6, x7, x8, x9, x10⟩, _, lx⟩ := PA'
  have PT' := PT.out
  obtain ⟨t1, t2, t3, t4, t5, t6, t7⟩ := PT'
  go_wp2_with fail
  refine (C1.out _).mono ?_
  rintro e w2 ⟨rfl, hb2⟩
  clear x0 x1 x2 x3 x4 x5 x6 x7 x8 x9 x10 lx
  clear t1 t2 t3 t4 t5 t6 t7
  have PA := Lib.hid (ownMo_below (ownMo_alloc PA.out (mob R 28)) hb2)
  have PT := Lib.hid (own_below (own_alloc PT.out (mob R 28)) hb2)
  have PX := Lib.hid (ownMo_below (ownMo_new w1 R 28) hb2)
  have B2 := Lib.hid (bstep (balloc B1.out _) hb2)
  clear hb2
  have B3 := balloc B2.out (mob R 28)
  have PX' := PX.out
  obtain ⟨⟨x0, x1, x2, x3, x4, x5, x6, x7, x8, x9, x10⟩, _, lx⟩ := PX'
  have e6 := same6 9998
  have e7 := same6 9997
  go_wp2_with fail
  refine (C2.out _ (plc_in PL.out B3 gz)).mono ?_
  rintro e w4 ⟨rfl, hb4⟩
  have B4 := below_step B3 hb4 B3.size
  clear x0 x1 x2 x3 x4 x5 x6 x7 x8 x9 x10 lx
  go_wp2
  go_ret
  exact ⟨rfl, B4⟩
set_option maxRecDepth 100000 in
set_option maxHeartbeats 4000000 in
theorem mshifts_ok (m R : Mo) (t : P3) (w : World) (pl : Plc w) (ht : BdP 128 t) (C0 : Hid (∀ W, Plc W → Calls Tryd.prog 27 #[mov m, ptv t] W fun e w' => e = .returned (.tuple #[mov R, .int .i64 0]) ∧ Below W.heap.size W w')) (C1 : Hid (∀ W, Calls Tryd.prog 28 #[mov m, ptv t] W fun e w' => e = .returned (.tuple #[mov R, .int .i64 0]) ∧ Below W.heap.size W w')) (C2 : Hid (∀ W, Plc W → Calls Tryd.prog 12 #[] W fun e w' => e = .returned (.bool true) ∧ Below W.heap.size W w')) (C3 : Hid (∀ W, Plc W → Calls Tryd.prog 27 #[mov R, ptv (neg t)] W fun e w' => e = .returned (.tuple #[mov m, .int .i64 0]) ∧ Below W.heap.size W w')) :
    Calls Tryd.prog 7 #[mov m, ptv t] w fun e w' => e = .returned (.bool true) ∧ Below w.heap.size w w' := by
  have HT := Lib.hid ht
  clear ht
  have PL := Lib.hid pl
  have gz : 0 < w.heap.size := pl.2
  clear pl
  go_enter Tryd.func7, Tryd.ntmps7
  go_wp2_with fail
  refine (C0.out _ (plc_alloc (plc_alloc PL.out _) _)).mono ?_
  rintro e w1 ⟨rfl, hb1⟩
  have PA := Lib.hid (ownMo_below (ownMo_alloc (ownMo_new w m 28) (ptc t 24)) hb1)
  have PT := Lib.hid (by have z := own_below (own_new (w.alloc (mob m 28)) t 24) hb1; simp only [World.size_alloc] at z; exact z : Own w1 (w.heap.size + 1) t)
  have B1 := Lib.hid (bstep (balloc (balloc (Below.refl _ w) _) _) hb1)
  clear hb1
  have PA' := PA.out
  obtain ⟨⟨x0, x1, x2, x3, x4, x5, x6, x7, x8, x9, x10⟩, _, lx⟩ := PA'
  have PT' := PT.out
  obtain ⟨t1, t2, t3, t4, t5, t6, t7⟩ := PT'
  go_wp2_with fail
  refine (C1.out _).mono ?_
  rintro e w2 ⟨rfl, hb2⟩
  clear x0 x1 x2 x3 x4 x5 x6 x7 x8 x9 x10 lx
  clear t1 t2 t3 t4 t5 t6 t7
  have PA := Lib.hid (ownMo_below (ownMo_alloc PA.out (mob R 28)) hb2)
  have PT := Lib.hid (own_below (own_alloc PT.out (mob R 28)) hb2)
  have PX := Lib.hid (ownMo_below (ownMo_new w1 R 28) hb2)
  have B2 := Lib.hid (bstep (balloc B1.out _) hb2)
  clear hb2
  have B3 := balloc B2.out (mob R 28)
  have PX' := PX.out
  obtain ⟨⟨x0, x1, x2, x3, x4, x5, x6, x7, x8, x9, x10⟩, _, lx⟩ := PX'
  have e6 := same6 9998
  have e7 := same6 9997
  have PA' := PA.out
  obtain ⟨⟨z0, z1, z2, z3, z4, z5, z6, z7, z8, z9, z10⟩, _, lz⟩ := PA'
  have PT' := PT.out
  obtain ⟨t1, t2, t3, t4, t5, t6, t7⟩ := PT'
  obtain ⟨b1, b2, b3, b4, b5, b6⟩ := HT.out
  go_wp2_with fail
  refine (C3.out _ (plc_in PL.out B3 gz)).mono ?_
  rintro e w4 ⟨rfl, hb4⟩
  clear x0 x1 x2 x3 x4 x5 x6 x7 x8 x9 x10 lx
  clear z0 z1 z2 z3 z4 z5 z6 z7 z8 z9 z10 lz
  clear t1 t2 t3 t4 t5 t6 t7 b1 b2 b3 b4 b5 b6
  have PA := Lib.hid (ownMo_below (ownMo_alloc PA.out (mob R 28)) hb4)
  have B4 := balloc (below_step B3 hb4 B3.size) (mob m 28)
  clear hb4 PX PT
  have PA' := PA.out
  obtain ⟨⟨x0, x1, x2, x3, x4, x5, x6, x7, x8, x9, x10⟩, _, lx⟩ := PA'
  go_wp2_with fail
  refine (C2.out _ (plc_in PL.out B4 gz)).mono ?_
  rintro e w5 ⟨rfl, hb5⟩
  have B5 := below_step B4 hb5 B4.size
  clear x0 x1 x2 x3 x4 x5 x6 x7 x8 x9 x10 lx
  go_wp2
  go_ret
  exact ⟨rfl, B5⟩
theorem mshifts_walk (m : Mo) (t : P3) (w : World) (pl : Plc w) :
    Calls Tryd.prog 7 #[mov m, ptv t] w fun e w' => e = .returned (.bool true) ∧ Below w.heap.size w w' := by
  by_cases z : (shR m t).2 = 0
  · have c0 := fun W p => mshf_any m t W p
    have c1 := fun W => rmshf_any m t W
    have c3 := fun W p => mshf_any (shR m t).1 (neg t) W p
    rw [shR_back z] at c3
    simp only [mor, z] at c0 c1
    exact mshifts_ok m (shR m t).1 t w pl (inP_iff.1 (shR_zero z).2.1) (Lib.hid c0) (Lib.hid c1) (Lib.hid fun W p => sane_any W p) (Lib.hid c3)
  · exact mshifts_no m (shR m t).1 t (shR m t).2 w pl z (Lib.hid fun W p => mshf_any m t W p) (Lib.hid fun W => rmshf_any m t W) (Lib.hid fun W p => sane_any W p)

end Go.Proofs.YtfpenkgkcjpknaaDoor
