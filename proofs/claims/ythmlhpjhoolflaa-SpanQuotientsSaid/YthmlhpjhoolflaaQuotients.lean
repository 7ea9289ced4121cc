/-
  The law SpanQuotients: for every input it answers true.
-/
import Derived.Test.YthmlhpjhoolflaaKnown
import Derived.Deep.RegionHeld3
namespace Go.Proofs.Ythmlhpjhoolflaa
open Go.ChangeShapes Go.WideShapes Go.RowKit
theorem pair_drew' {w : World} {b : Nat} {x y : Int} (h : Pair w b x y) : Pair w.drew b x y := h
set_option maxRecDepth 100000 in
set_option maxHeartbeats 1600000 in
theorem quotients_walk (n d lo hi : Int) (w : World) :
    Calls Try.prog 3 #[.int .i64 n, .int .i64 d, spv lo hi] w fun e w' => e = .returned (.bool true) ∧ Below w.heap.size w w' := by
  go_enter Try.func3, Try.ntmps3
  go_wp2_with fail
  refine (of_any _ _).mono ?_
  rintro e w1 ⟨rfl, hb1⟩
  have p1_0 := pair_below (pair_new _ lo hi _) hb1
  have c1_0 := p1_0.1
  have d1_0 := p1_0.2.1
  have s1_0 := p1_0.2.2.2.2
  go_wp2_with fail
  refine (rof_any _ _).mono ?_
  rintro e w2 ⟨rfl, hb2⟩
  have p2_0 := pair_below (pair_alloc p1_0 _) hb2
  have p2_1 := pair_below (pair_new _ (Sp.quo n 1).1.1 (Sp.quo n 1).1.2 _) hb2
  clear c1_0 d1_0 s1_0 p1_0
  have c2_0 := p2_0.1
  have d2_0 := p2_0.2.1
  have s2_0 := p2_0.2.2.2.2
  have c2_1 := p2_1.1
  have d2_1 := p2_1.2.1
  have s2_1 := p2_1.2.2.2.2
  go_wp2_with fail
  refine (quo_any _ _ _).mono ?_
  rintro e w3 ⟨rfl, hb3⟩
  have p3_0 := pair_below (pair_alloc p2_0 _) hb3
  have p3_1 := pair_below (pair_alloc p2_1 _) hb3
  have p3_2 := pair_below (pair_new _ (Sp.quo n 1).1.1 (Sp.quo n 1).1.2 _) hb3
  clear c2_0 d2_0 s2_0 c2_1 d2_1 s2_1 p2_0 p2_1
  have c3_0 := p3_0.1
  have d3_0 := p3_0.2.1
  have s3_0 := p3_0.2.2.2.2
  have c3_1 := p3_1.1
  have d3_1 := p3_1.2.1
  have s3_1 := p3_1.2.2.2.2
  have c3_2 := p3_2.1
  have d3_2 := p3_2.2.1
  have s3_2 := p3_2.2.2.2.2
  go_wp2_with fail
  refine (rquo_any _ _ _).mono ?_
  rintro e w4 ⟨rfl, hb4⟩
  have p4_0 := pair_below (pair_alloc p3_0 _) hb4
  have p4_1 := pair_below (pair_alloc p3_1 _) hb4
  have p4_2 := pair_below (pair_alloc p3_2 _) hb4
  have p4_3 := pair_below (pair_new _ (Sp.quo n d).1.1 (Sp.quo n d).1.2 _) hb4
  clear c3_0 d3_0 s3_0 c3_1 d3_1 s3_1 c3_2 d3_2 s3_2 p3_0 p3_1 p3_2
  have c4_0 := p4_0.1
  have d4_0 := p4_0.2.1
  have s4_0 := p4_0.2.2.2.2
  have c4_1 := p4_1.1
  have d4_1 := p4_1.2.1
  have s4_1 := p4_1.2.2.2.2
  have c4_2 := p4_2.1
  have d4_2 := p4_2.2.1
  have s4_2 := p4_2.2.2.2.2
  have c4_3 := p4_3.1
  have d4_3 := p4_3.2.1
  have s4_3 := p4_3.2.2.2.2
  go_wp2_with fail
  go_region_held3 (fun w' => w'.cell? ⟨w.heap.size, 0, none⟩ = some (.int .i64 lo) ∧ w'.cell? ⟨w.heap.size, 1, none⟩ = some (.int .i64 hi) ∧ w'.cell? ⟨w1.heap.size, 0, none⟩ = some (.int .i64 (Sp.quo n 1).1.1) ∧ w'.cell? ⟨w1.heap.size, 1, none⟩ = some (.int .i64 (Sp.quo n 1).1.2) ∧ w'.cell? ⟨w2.heap.size, 0, none⟩ = some (.int .i64 (Sp.quo n 1).1.1) ∧ w'.cell? ⟨w2.heap.size, 1, none⟩ = some (.int .i64 (Sp.quo n 1).1.2) ∧ w'.cell? ⟨w3.heap.size, 0, none⟩ = some (.int .i64 (Sp.quo n d).1.1) ∧ w'.cell? ⟨w3.heap.size, 1, none⟩ = some (.int .i64 (Sp.quo n d).1.2) ∧ w'.cell? ⟨w4.heap.size, 0, none⟩ = some (.int .i64 (Sp.quo n d).1.1) ∧ w'.cell? ⟨w4.heap.size, 1, none⟩ = some (.int .i64 (Sp.quo n d).1.2))
    (first | go_keep)
    (first | (go_at_call 18; refine (valid_below _ _ _).mono ?_; rintro e v0 ⟨rfl, hv0⟩; have q0_0 := pair_below (pair_drew' (pair_alloc p4_0 _)) hv0; have r0_0 := q0_0.1; have t0_0 := q0_0.2.1; have q0_1 := pair_below (pair_drew' (pair_alloc p4_1 _)) hv0; have r0_1 := q0_1.1; have t0_1 := q0_1.2.1; have q0_2 := pair_below (pair_drew' (pair_alloc p4_2 _)) hv0; have r0_2 := q0_2.1; have t0_2 := q0_2.2.1; have q0_3 := pair_below (pair_drew' (pair_alloc p4_3 _)) hv0; have r0_3 := q0_3.1; have t0_3 := q0_3.2.1; have q0_4 := pair_below (pair_drew' (pair_new _ (Sp.quo n d).1.1 (Sp.quo n d).1.2 _)) hv0; have r0_4 := q0_4.1; have t0_4 := q0_4.2.1) | (go_at_call 19; refine (rvalid_below _ _ _).mono ?_; rintro e v1 ⟨rfl, hv1⟩; have q1_0 := pair_below q0_0 hv1; have r1_0 := q1_0.1; have t1_0 := q1_0.2.1; have q1_1 := pair_below q0_1 hv1; have r1_1 := q1_1.1; have t1_1 := q1_1.2.1; have q1_2 := pair_below q0_2 hv1; have r1_2 := q1_2.1; have t1_2 := q1_2.2.1; have q1_3 := pair_below q0_3 hv1; have r1_3 := q1_3.1; have t1_3 := q1_3.2.1; have q1_4 := pair_below q0_4 hv1; have r1_4 := q1_4.1; have t1_4 := q1_4.2.1) | (go_at_call 20; refine (known_any _).mono ?_; rintro e v2 ⟨rfl, hv2⟩; have q2_0 := pair_below q1_0 hv2; have r2_0 := q2_0.1; have t2_0 := q2_0.2.1; have q2_1 := pair_below q1_1 hv2; have r2_1 := q2_1.1; have t2_1 := q2_1.2.1; have q2_2 := pair_below q1_2 hv2; have r2_2 := q2_2.1; have t2_2 := q2_2.2.1; have q2_3 := pair_below q1_3 hv2; have r2_3 := q2_3.1; have t2_3 := q2_3.2.1; have q2_4 := pair_below q1_4 hv2; have r2_4 := q2_4.1; have t2_4 := q2_4.2.1))
  go_wp2
  go_ret
  exact ⟨rfl, by (repeat' (first | exact Below.refl _ _ | refine bstep ?_ hb1 | refine bstep ?_ hb2 | refine bstep ?_ hb3 | refine bstep ?_ hb4 | refine bstep ?_ hv0 | refine bstep ?_ hv1 | refine bstep ?_ hv2 | refine Below.setCell ?_ (by simp <;> omega) _ | refine balloc ?_ _ | refine Below.drew ?_ | refine bdrewN ?_ _))⟩

end Go.Proofs.Ythmlhpjhoolflaa
