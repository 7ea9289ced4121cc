/-
  The contracts of the normal, the product of a panel's corners, the limits of points, and the error of a panel; in the program and in the document's answer.
-/
import Derived.Test.YtlegalibjkeccaaVec
import Derived.Deep.QuietTactic
namespace Go.Proofs.Ytlegalibjkeccaa
open Go.ChangeShapes Go.WideShapes Go.RowKit
open Sh
theorem big_of {a : P3} (h : BdP 1048576 a) : BdP 1152921504606846976 a := h.mono (by decide)
theorem sub_20 {a b : P3} (h : BdP 65536 a) (k : BdP 65536 b) : BdP 1048576 (sub a b) := (sub_bd h k).mono (by decide)
theorem sub_62 {a b : P3} (h : BdP 65536 a) (k : BdP 65536 b) : BdP 4611686018427387904 (sub a b) := (sub_bd h k).mono (by decide)
set_option maxRecDepth 100000 in
set_option maxHeartbeats 1000000 in
theorem normal_any (a b c : P3) (w : World) (ha : BdP 65536 a) (hb : BdP 65536 b) (hc : BdP 65536 c) :
    Calls Try.prog 82 #[pnv a b c] w fun e w' => e = .returned (ptv (nrm a b c)) ∧ Below w.heap.size w w' := by
  have A := Lib.hid (ha.mono (by decide) : BdP 1152921504606846976 a)
  have B := Lib.hid (hb.mono (by decide) : BdP 1152921504606846976 b)
  have C := Lib.hid (hc.mono (by decide) : BdP 1152921504606846976 c)
  have D := Lib.hid (sub_20 hb ha)
  have E := Lib.hid (sub_20 hc ha)
  clear ha hb hc
  have ne0 : ¬ (w.heap.size + 1 = w.heap.size) := by omega
  have ne1 : ¬ (w.heap.size = w.heap.size + 1) := by omega
  go_enter Try.func82, Try.ntmps82
  go_wp2_with fail
  have i0 := (pan_drew (pan_alloc (pan_new w a b c 25) (.cells #[.int .i64 0, .int .i64 0, .int .i64 0] 23)))
  have i1 := (own_drew (own_new (w.alloc (.cells #[.int .i64 a.1, .int .i64 a.2.1, .int .i64 a.2.2, .int .i64 b.1, .int .i64 b.2.1, .int .i64 b.2.2, .int .i64 c.1, .int .i64 c.2.1, .int .i64 c.2.2] 25)) (0, 0, 0) 23))
  simp only [World.size_alloc] at i1
  go_region_held3 (fun w' => w'.cell? ⟨w.heap.size, 0, none⟩ = some (.int .i64 a.1) ∧ w'.cell? ⟨w.heap.size, 1, none⟩ = some (.int .i64 a.2.1) ∧ w'.cell? ⟨w.heap.size, 2, none⟩ = some (.int .i64 a.2.2) ∧ w'.cell? ⟨w.heap.size, 3, none⟩ = some (.int .i64 b.1) ∧ w'.cell? ⟨w.heap.size, 4, none⟩ = some (.int .i64 b.2.1) ∧ w'.cell? ⟨w.heap.size, 5, none⟩ = some (.int .i64 b.2.2) ∧ w'.cell? ⟨w.heap.size, 6, none⟩ = some (.int .i64 c.1) ∧ w'.cell? ⟨w.heap.size, 7, none⟩ = some (.int .i64 c.2.1) ∧ w'.cell? ⟨w.heap.size, 8, none⟩ = some (.int .i64 c.2.2))
    (first | (refine pan_cells ?_ <;> assumption) | (refine pan_cells ?_ <;> (refine pan_set ?_ (by omega); refine pan_set ?_ (by omega); refine pan_set ?_ (by omega); assumption)))
    (first | (go_at_call 88; (with_reducible refine (minus_any b a _ B.out A.out).mono ?_); rintro e v0 ⟨rfl, hv0⟩; have q0_0 := pan_below i0 hv0; have q0_1 := own_below i1 hv0) | (go_at_call 88; (with_reducible refine (minus_any c a _ C.out A.out).mono ?_); rintro e v1 ⟨rfl, hv1⟩; have q1_0 := pan_below q0_0 hv1; have q1_1 := own_below q0_1 hv1) | (go_at_call 87; (with_reducible refine (vector_any (sub b a) (sub c a) _ D.out E.out).mono ?_); rintro e v2 ⟨rfl, hv2⟩; have q2_0 := pan_below q1_0 hv2; have q2_1 := own_below q1_1 hv2; have r2 := q2_1; obtain ⟨x2_0, x2_1, x2_2, x2_3, x2_4, x2_5, x2_6⟩ := r2))
  all_goals
    go_wp2
    refine bodyPost_ret (v := ptv (vec (sub b a) (sub c a))) (by rw [results_cell rfl]; go_simp) rfl ⟨rfl, ?_⟩
    (repeat' (first | exact Below.refl _ _ | refine bstep ?_ hv0 | refine bstep ?_ hv1 | refine bstep ?_ hv2 | refine Below.setCell ?_ (by simp <;> omega) _ | refine balloc ?_ _ | refine Below.drew ?_ | refine bdrewN ?_ _))
set_option maxRecDepth 100000 in
set_option maxHeartbeats 1000000 in
theorem across_any (a b c : P3) (w : World) (ha : BdP 65536 a) (hb : BdP 65536 b) (hc : BdP 65536 c) :
    Calls Try.prog 58 #[pnv a b c] w fun e w' => e = .returned (ptv (nrm a b c)) ∧ Below w.heap.size w w' := by
  have A := Lib.hid (sub_62 hb ha)
  have B := Lib.hid (sub_62 hc ha)
  have D := Lib.hid (sub_20 hb ha)
  have E := Lib.hid (sub_20 hc ha)
  clear ha hb hc
  have ne0 : ¬ (w.heap.size + 1 = w.heap.size) := by omega
  have ne1 : ¬ (w.heap.size = w.heap.size + 1) := by omega
  go_enter Try.func58, Try.ntmps58
  go_wp2_with fail
  have i0 := (pan_drew (pan_alloc (pan_new w a b c 25) (.cells #[.int .i64 0, .int .i64 0, .int .i64 0] 23)))
  have i1 := (own_drew (own_new (w.alloc (.cells #[.int .i64 a.1, .int .i64 a.2.1, .int .i64 a.2.2, .int .i64 b.1, .int .i64 b.2.1, .int .i64 b.2.2, .int .i64 c.1, .int .i64 c.2.1, .int .i64 c.2.2] 25)) (0, 0, 0) 23))
  simp only [World.size_alloc] at i1
  go_region_held3 (fun w' => w'.cell? ⟨w.heap.size, 0, none⟩ = some (.int .i64 a.1) ∧ w'.cell? ⟨w.heap.size, 1, none⟩ = some (.int .i64 a.2.1) ∧ w'.cell? ⟨w.heap.size, 2, none⟩ = some (.int .i64 a.2.2) ∧ w'.cell? ⟨w.heap.size, 3, none⟩ = some (.int .i64 b.1) ∧ w'.cell? ⟨w.heap.size, 4, none⟩ = some (.int .i64 b.2.1) ∧ w'.cell? ⟨w.heap.size, 5, none⟩ = some (.int .i64 b.2.2) ∧ w'.cell? ⟨w.heap.size, 6, none⟩ = some (.int .i64 c.1) ∧ w'.cell? ⟨w.heap.size, 7, none⟩ = some (.int .i64 c.2.1) ∧ w'.cell? ⟨w.heap.size, 8, none⟩ = some (.int .i64 c.2.2))
    (first | (refine pan_cells ?_ <;> assumption) | (refine pan_cells ?_ <;> (refine pan_set ?_ (by omega); refine pan_set ?_ (by omega); refine pan_set ?_ (by omega); assumption)))
    (first | (go_at_call 68; (with_reducible refine (rminus_any b a _ A.out).mono ?_); rintro e v0 ⟨rfl, hv0⟩; have q0_0 := pan_below i0 hv0; have q0_1 := own_below i1 hv0) | (go_at_call 68; (with_reducible refine (rminus_any c a _ B.out).mono ?_); rintro e v1 ⟨rfl, hv1⟩; have q1_0 := pan_below q0_0 hv1; have q1_1 := own_below q0_1 hv1) | (go_at_call 67; (with_reducible refine (cross_any (sub b a) (sub c a) _ D.out E.out).mono ?_); rintro e v2 ⟨rfl, hv2⟩; have q2_0 := pan_below q1_0 hv2; have q2_1 := own_below q1_1 hv2; have r2 := q2_1; obtain ⟨x2_0, x2_1, x2_2, x2_3, x2_4, x2_5, x2_6⟩ := r2))
  all_goals
    go_wp2
    refine bodyPost_ret (v := ptv (vec (sub b a) (sub c a))) (by rw [results_cell rfl]; go_simp) rfl ⟨rfl, ?_⟩
    (repeat' (first | exact Below.refl _ _ | refine bstep ?_ hv0 | refine bstep ?_ hv1 | refine bstep ?_ hv2 | refine Below.setCell ?_ (by simp <;> omega) _ | refine balloc ?_ _ | refine Below.drew ?_ | refine bdrewN ?_ _))

end Go.Proofs.Ytlegalibjkeccaa
