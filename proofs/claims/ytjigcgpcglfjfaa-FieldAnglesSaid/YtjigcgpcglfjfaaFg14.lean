/-
  The contracts of field.Mean and field.MeanCube.
-/
import Derived.Test.YtjigcgpcglfjfaaFg13
namespace Go.Proofs.Ytjigcgpcglfjfaa
open Go.ChangeShapes Go.WideShapes Go.RowKit
open Sh
theorem mfi_no (t : P9) (x : P3) (D pc : Int) (w : World) (V : Hid (∀ W, Calls Try.prog 77 #[p9v t, ptv x, .int .i64 D] W fun e w' => e = .returned (.int .i64 pc) ∧ Below W.heap.size W w')) (z : (pc != 0) = true) :
    Calls Try.prog 49 #[p9v t, ptv x, .int .i64 D, .func (.func 50) #[] #[]] w fun e w' => e = .returned (spr ((0, 0), pc)) ∧ Below w.heap.size w w' := by
  obtain ⟨a, b, c⟩ := t
  have R0 := Lib.hid (owp_new ((w.alloc (pnc a b c 25)).alloc (ptc x 23)) (0, 0) 35)
  have B0 := Lib.hid (show Below w.heap.size w (((w.alloc (pnc a b c 25)).alloc (ptc x 23)).alloc (.cells #[.int .i64 0, .int .i64 0] 35)) by (repeat' (first | exact Below.refl _ _ | refine Below.setCell ?_ (by simp <;> omega) _ | refine balloc ?_ _ | refine Below.drew ?_ | refine bdrewN ?_ _)))
  simp only [World.size_alloc] at R0
  go_enter Try.func49, Try.ntmps49
  go_wp2_with fail
  refine (V.out _).mono ?_
  rintro e w1 ⟨rfl, hb1⟩
  obtain ⟨o0, o1, o2, o3, o4⟩ := owp_below R0.out hb1
  have hB := bstep B0.out hb1
  clear R0 B0
  go_wp2
  refine bodyPost_ret (v := spr ((0, 0), pc)) (by rw [results_cell_tmp rfl]; go_simp) rfl ⟨rfl, ?_⟩
  (repeat' (first | with_reducible exact hB | (with_reducible refine Below.setCell ?_ (by simp <;> omega) _)))
theorem mfi_any (t : P9) (x : P3) (D : Int) (w : World) : Calls Try.prog 49 #[p9v t, ptv x, .int .i64 D, .func (.func 50) #[] #[]] w fun e w' => e = .returned (spr (meF false t x D)) ∧ Below w.heap.size w w' := by
  unfold meF
  by_cases h : snc t x D = 0
  · rw [if_pos h]
    exact mfi_ok t x D w h
  · rw [if_neg h]
    exact mfi_no t x D _ w (Lib.hid fun W => cks_any t x D W) (bne_iff_ne.2 h)
theorem meani_any (t : P9) (x : P3) (D : Int) (w : World) : Calls Try.prog 16 #[p9v t, ptv x, .int .i64 D] w fun e w' => e = .returned (spr (meF false t x D)) ∧ Below w.heap.size w w' := by
  have V := Lib.hid (fun W => mfi_any t x D W)
  obtain ⟨a, b, c⟩ := t
  generalize meF false (a, b, c) x D = r at *
  have R0 := Lib.hid (owp_new ((w.alloc (pnc a b c 25)).alloc (ptc x 23)) (0, 0) 35)
  have B0 := Lib.hid (show Below w.heap.size w (((w.alloc (pnc a b c 25)).alloc (ptc x 23)).alloc (.cells #[.int .i64 0, .int .i64 0] 35)) by (repeat' (first | exact Below.refl _ _ | refine Below.setCell ?_ (by simp <;> omega) _ | refine balloc ?_ _ | refine Below.drew ?_ | refine bdrewN ?_ _)))
  simp only [World.size_alloc] at R0
  go_enter Try.func16, Try.ntmps16
  go_wp2_with fail
  refine (V.out _).mono ?_
  rintro e w1 ⟨rfl, hb1⟩
  obtain ⟨o0, o1, o2, o3, o4⟩ := owp_below R0.out hb1
  have hB := bstep B0.out hb1
  clear R0 B0
  go_wp2
  refine bodyPost_ret (v := spr r) (by rw [results_cell_tmp rfl]; go_simp) rfl ⟨rfl, ?_⟩
  (repeat' (first | with_reducible exact hB | (with_reducible refine Below.setCell ?_ (by simp <;> omega) _)))
theorem mfc_no (t : P9) (x : P3) (D pc : Int) (w : World) (V : Hid (∀ W, Calls Try.prog 77 #[p9v t, ptv x, .int .i64 D] W fun e w' => e = .returned (.int .i64 pc) ∧ Below W.heap.size W w')) (z : (pc != 0) = true) :
    Calls Try.prog 49 #[p9v t, ptv x, .int .i64 D, .func (.func 53) #[] #[]] w fun e w' => e = .returned (spr ((0, 0), pc)) ∧ Below w.heap.size w w' := by
  obtain ⟨a, b, c⟩ := t
  have R0 := Lib.hid (owp_new ((w.alloc (pnc a b c 25)).alloc (ptc x 23)) (0, 0) 35)
  have B0 := Lib.hid (show Below w.heap.size w (((w.alloc (pnc a b c 25)).alloc (ptc x 23)).alloc (.cells #[.int .i64 0, .int .i64 0] 35)) by (repeat' (first | exact Below.refl _ _ | refine Below.setCell ?_ (by simp <;> omega) _ | refine balloc ?_ _ | refine Below.drew ?_ | refine bdrewN ?_ _)))
  simp only [World.size_alloc] at R0
  go_enter Try.func49, Try.ntmps49
  go_wp2_with fail
  refine (V.out _).mono ?_
  rintro e w1 ⟨rfl, hb1⟩
  obtain ⟨o0, o1, o2, o3, o4⟩ := owp_below R0.out hb1
  have hB := bstep B0.out hb1
  clear R0 B0
  go_wp2
  refine bodyPost_ret (v := spr ((0, 0), pc)) (by rw [results_cell_tmp rfl]; go_simp) rfl ⟨rfl, ?_⟩
  (repeat' (first | with_reducible exact hB | (with_reducible refine Below.setCell ?_ (by simp <;> omega) _)))
theorem mfc_any (t : P9) (x : P3) (D : Int) (w : World) : Calls Try.prog 49 #[p9v t, ptv x, .int .i64 D, .func (.func 53) #[] #[]] w fun e w' => e = .returned (spr (meF true t x D)) ∧ Below w.heap.size w w' := by
  unfold meF
  by_cases h : snc t x D = 0
  · rw [if_pos h]
    exact mfc_ok t x D w h
  · rw [if_neg h]
    exact mfc_no t x D _ w (Lib.hid fun W => cks_any t x D W) (bne_iff_ne.2 h)
theorem meanc_any (t : P9) (x : P3) (D : Int) (w : World) : Calls Try.prog 18 #[p9v t, ptv x, .int .i64 D] w fun e w' => e = .returned (spr (meF true t x D)) ∧ Below w.heap.size w w' := by
  have V := Lib.hid (fun W => mfc_any t x D W)
  obtain ⟨a, b, c⟩ := t
  generalize meF true (a, b, c) x D = r at *
  have R0 := Lib.hid (owp_new ((w.alloc (pnc a b c 25)).alloc (ptc x 23)) (0, 0) 35)
  have B0 := Lib.hid (show Below w.heap.size w (((w.alloc (pnc a b c 25)).alloc (ptc x 23)).alloc (.cells #[.int .i64 0, .int .i64 0] 35)) by (repeat' (first | exact Below.refl _ _ | refine Below.setCell ?_ (by simp <;> omega) _ | refine balloc ?_ _ | refine Below.drew ?_ | refine bdrewN ?_ _)))
  simp only [World.size_alloc] at R0
  go_enter Try.func18, Try.ntmps18
  go_wp2_with fail
  refine (V.out _).mono ?_
  rintro e w1 ⟨rfl, hb1⟩
  obtain ⟨o0, o1, o2, o3, o4⟩ := owp_below R0.out hb1
  have hB := bstep B0.out hb1
  clear R0 B0
  go_wp2
  refine bodyPost_ret (v := spr r) (by rw [results_cell_tmp rfl]; go_simp) rfl ⟨rfl, ?_⟩
  (repeat' (first | with_reducible exact hB | (with_reducible refine Below.setCell ?_ (by simp <;> omega) _)))

end Go.Proofs.Ytjigcgpcglfjfaa
