/-
  The law of Mutual: its walk.
-/
import Derived.Test.YtjigcgpcglfjfaaFg50
namespace Go.Proofs.Ytjigcgpcglfjfaa
open Go.ChangeShapes Go.WideShapes Go.RowKit
open Sh
set_option maxRecDepth 100000 in
set_option maxHeartbeats 8000000 in
theorem fmut_no (t u : P9) (D c0 : Int) (w : World) (z0 : c0 ≠ 0) (M1 : Hid (∀ W, Calls Try.prog 28 #[p9v t, p9v u, .int .i64 D] W fun e w' => e = .returned (spr ((0, 0), c0)) ∧ Below W.heap.size W w')) (M2 : Hid (∀ W, Calls Try.prog 29 #[p9v t, p9v u, .int .i64 D] W fun e w' => e = .returned (spr ((0, 0), c0)) ∧ Below W.heap.size W w')) (K : Hid (∀ W, Calls Try.prog 15 #[] W fun e w' => e = .returned (.bool true) ∧ Below W.heap.size W w')) : Calls Try.prog 9 #[p9v t, p9v u, .int .i64 D] w fun e w' => e = .returned (.bool true) ∧ Below w.heap.size w w' := by
  have z1 : (c0 != 0) = true := bne_iff_ne.2 z0
  clear z0
  obtain ⟨a, b, c⟩ := t
  obtain ⟨x, y, z⟩ := u
  have T0 := Lib.hid (twq_new w a b c x y z)
  obtain ⟨⟨k0, k1, k2, k3, k4, k5, k6, k7, k8, k9⟩, ⟨u0, u1, u2, u3, u4, u5, u6, u7, u8, u9⟩, _⟩ := T0.out
  go_enter Try.func9, Try.ntmps9
  go_wp2_with fail
  refine (M1.out _).mono ?_
  rintro e w1 ⟨rfl, hb1⟩
  have T1 := Lib.hid (twq_alloc (twq_below T0.out hb1) (.cells #[.int .i64 ((0, 0) : Int × Int).1, .int .i64 ((0, 0) : Int × Int).2] 35))
  have V1_1 := Lib.hid (owp_new w1 ((0, 0) : Int × Int) 35)
  clear hb1 T0 
  clear k0 k1 k2 k3 k4 k5 k6 k7 k8 k9 u0 u1 u2 u3 u4 u5 u6 u7 u8 u9
  obtain ⟨⟨k0, k1, k2, k3, k4, k5, k6, k7, k8, k9⟩, ⟨u0, u1, u2, u3, u4, u5, u6, u7, u8, u9⟩, _⟩ := T1.out
  go_wp2_with fail
  refine (M2.out _).mono ?_
  rintro e w2 ⟨rfl, hb2⟩
  have T2 := Lib.hid (twq_alloc (twq_below T1.out hb2) (.cells #[.int .i64 ((0, 0) : Int × Int).1, .int .i64 ((0, 0) : Int × Int).2] 35))
  have V1_2 := Lib.hid (owp_alloc (owp_below V1_1.out hb2) (.cells #[.int .i64 ((0, 0) : Int × Int).1, .int .i64 ((0, 0) : Int × Int).2] 35))
  have V2_2 := Lib.hid (owp_new w2 ((0, 0) : Int × Int) 35)
  clear hb2 T1 V1_1
  clear k0 k1 k2 k3 k4 k5 k6 k7 k8 k9 u0 u1 u2 u3 u4 u5 u6 u7 u8 u9
  obtain ⟨v10, v11, v12, v13, v14⟩ := V1_2.out
  obtain ⟨v20, v21, v22, v23, v24⟩ := V2_2.out
  go_wp2_with fail
  refine (K.out _).mono ?_
  rintro e w5 ⟨rfl, hb5⟩
  clear v10 v11 v12 v13 v14 v20 v21 v22 v23 v24
  go_wp2
  go_ret
  exact ⟨rfl, bstep T2.out.2.2 hb5⟩
set_option maxRecDepth 100000 in
set_option maxHeartbeats 8000000 in
theorem fmut_yes (t u : P9) (D : Int) (r s p o m1 m2 m3 : Int × Int) (w : World) (M1 : Hid (∀ W, Calls Try.prog 28 #[p9v t, p9v u, .int .i64 D] W fun e w' => e = .returned (spr (r, 0)) ∧ Below W.heap.size W w')) (M2 : Hid (∀ W, Calls Try.prog 29 #[p9v t, p9v u, .int .i64 D] W fun e w' => e = .returned (spr (r, 0)) ∧ Below W.heap.size W w')) (M3 : Hid (∀ W, Calls Try.prog 28 #[p9v u, p9v t, .int .i64 D] W fun e w' => e = .returned (spr (s, 0)) ∧ Below W.heap.size W w')) (M4 : Hid (∀ W, Calls Try.prog 26 #[p9v t, p9v u, .int .i64 D] W fun e w' => e = .returned (spr (p, 0)) ∧ Below W.heap.size W w')) (M5 : Hid (∀ W, Calls Try.prog 26 #[p9v u, p9v t, .int .i64 D] W fun e w' => e = .returned (spr (o, 0)) ∧ Below W.heap.size W w'))
    (M6 : Hid (∀ W, Calls Try.prog 30 #[.agg #[.int .i64 r.1, .int .i64 r.2], .agg #[.int .i64 s.1, .int .i64 s.2]] W fun e w' => e = .returned (.tuple #[.agg #[.int .i64 m1.1, .int .i64 m1.2], .bool true, .int .i64 0]) ∧ Below W.heap.size W w')) (M7 : Hid (∀ W, Calls Try.prog 30 #[.agg #[.int .i64 r.1, .int .i64 r.2], .agg #[.int .i64 p.1, .int .i64 p.2]] W fun e w' => e = .returned (.tuple #[.agg #[.int .i64 m2.1, .int .i64 m2.2], .bool true, .int .i64 0]) ∧ Below W.heap.size W w')) (M8 : Hid (∀ W, Calls Try.prog 30 #[.agg #[.int .i64 r.1, .int .i64 r.2], .agg #[.int .i64 o.1, .int .i64 o.2]] W fun e w' => e = .returned (.tuple #[.agg #[.int .i64 m3.1, .int .i64 m3.2], .bool true, .int .i64 0]) ∧ Below W.heap.size W w')) (K : Hid (∀ W, Calls Try.prog 15 #[] W fun e w' => e = .returned (.bool true) ∧ Below W.heap.size W w')) : Calls Try.prog 9 #[p9v t, p9v u, .int .i64 D] w fun e w' => e = .returned (.bool true) ∧ Below w.heap.size w w' := by
  obtain ⟨a, b, c⟩ := t
  obtain ⟨x, y, z⟩ := u
  have T0 := Lib.hid (twq_new w a b c x y z)
  obtain ⟨⟨k0, k1, k2, k3, k4, k5, k6, k7, k8, k9⟩, ⟨u0, u1, u2, u3, u4, u5, u6, u7, u8, u9⟩, _⟩ := T0.out
  go_enter Try.func9, Try.ntmps9
  go_wp2_with fail
  refine (M1.out _).mono ?_
  rintro e w1 ⟨rfl, hb1⟩
  have T1 := Lib.hid (twq_alloc (twq_below T0.out hb1) (.cells #[.int .i64 r.1, .int .i64 r.2] 35))
  have V1_1 := Lib.hid (owp_new w1 r 35)
  clear hb1 T0 
  clear k0 k1 k2 k3 k4 k5 k6 k7 k8 k9 u0 u1 u2 u3 u4 u5 u6 u7 u8 u9
  obtain ⟨⟨k0, k1, k2, k3, k4, k5, k6, k7, k8, k9⟩, ⟨u0, u1, u2, u3, u4, u5, u6, u7, u8, u9⟩, _⟩ := T1.out
  go_wp2_with fail
  refine (M2.out _).mono ?_
  rintro e w2 ⟨rfl, hb2⟩
  have T2 := Lib.hid (twq_alloc (twq_below T1.out hb2) (.cells #[.int .i64 r.1, .int .i64 r.2] 35))
  have V1_2 := Lib.hid (owp_alloc (owp_below V1_1.out hb2) (.cells #[.int .i64 r.1, .int .i64 r.2] 35))
  have V2_2 := Lib.hid (owp_new w2 r 35)
  clear hb2 T1 V1_1
  clear k0 k1 k2 k3 k4 k5 k6 k7 k8 k9 u0 u1 u2 u3 u4 u5 u6 u7 u8 u9
  obtain ⟨⟨k0, k1, k2, k3, k4, k5, k6, k7, k8, k9⟩, ⟨u0, u1, u2, u3, u4, u5, u6, u7, u8, u9⟩, _⟩ := T2.out
  obtain ⟨v10, v11, v12, v13, v14⟩ := V1_2.out
  obtain ⟨v20, v21, v22, v23, v24⟩ := V2_2.out
  go_wp2_with fail
  clear v10 v11 v12 v13 v14 v20 v21 v22 v23 v24
  refine (M3.out _).mono ?_
  rintro e w3 ⟨rfl, hb3⟩
  have T3 := Lib.hid (twq_alloc (twq_below T2.out hb3) (.cells #[.int .i64 s.1, .int .i64 s.2] 35))
  have V1_3 := Lib.hid (owp_alloc (owp_below V1_2.out hb3) (.cells #[.int .i64 s.1, .int .i64 s.2] 35))
  have V2_3 := Lib.hid (owp_alloc (owp_below V2_2.out hb3) (.cells #[.int .i64 s.1, .int .i64 s.2] 35))
  have V3_3 := Lib.hid (owp_new w3 s 35)
  clear hb3 T2 V1_2 V2_2
  clear k0 k1 k2 k3 k4 k5 k6 k7 k8 k9 u0 u1 u2 u3 u4 u5 u6 u7 u8 u9
  obtain ⟨⟨k0, k1, k2, k3, k4, k5, k6, k7, k8, k9⟩, ⟨u0, u1, u2, u3, u4, u5, u6, u7, u8, u9⟩, _⟩ := T3.out
  go_wp2_with fail
  refine (M4.out _).mono ?_
  rintro e w4 ⟨rfl, hb4⟩
  have T4 := Lib.hid (twq_alloc (twq_below T3.out hb4) (.cells #[.int .i64 p.1, .int .i64 p.2] 35))
  have V1_4 := Lib.hid (owp_alloc (owp_below V1_3.out hb4) (.cells #[.int .i64 p.1, .int .i64 p.2] 35))
  have V2_4 := Lib.hid (owp_alloc (owp_below V2_3.out hb4) (.cells #[.int .i64 p.1, .int .i64 p.2] 35))
  have V3_4 := Lib.hid (owp_alloc (owp_below V3_3.out hb4) (.cells #[.int .i64 p.1, .int .i64 p.2] 35))
  have V4_4 := Lib.hid (owp_new w4 p 35)
  clear hb4 T3 V1_3 V2_3 V3_3
  clear k0 k1 k2 k3 k4 k5 k6 k7 k8 k9 u0 u1 u2 u3 u4 u5 u6 u7 u8 u9
  obtain ⟨⟨k0, k1, k2, k3, k4, k5, k6, k7, k8, k9⟩, ⟨u0, u1, u2, u3, u4, u5, u6, u7, u8, u9⟩, _⟩ := T4.out
  go_wp2_with fail
  refine (M5.out _).mono ?_
  rintro e w5 ⟨rfl, hb5⟩
  have T5 := Lib.hid (twq_alloc (twq_below T4.out hb5) (.cells #[.int .i64 o.1, .int .i64 o.2] 35))
  have V1_5 := Lib.hid (owp_alloc (owp_below V1_4.out hb5) (.cells #[.int .i64 o.1, .int .i64 o.2] 35))
  have V2_5 := Lib.hid (owp_alloc (owp_below V2_4.out hb5) (.cells #[.int .i64 o.1, .int .i64 o.2] 35))
  have V3_5 := Lib.hid (owp_alloc (owp_below V3_4.out hb5) (.cells #[.int .i64 o.1, .int .i64 o.2] 35))
  have V4_5 := Lib.hid (owp_alloc (owp_below V4_4.out hb5) (.cells #[.int .i64 o.1, .int .i64 o.2] 35))
  have V5_5 := Lib.hid (owp_new w5 o 35)
  clear hb5 T4 V1_4 V2_4 V3_4 V4_4
  clear k0 k1 k2 k3 k4 k5 k6 k7 k8 k9 u0 u1 u2 u3 u4 u5 u6 u7 u8 u9
  obtain ⟨v10, v11, v12, v13, v14⟩ := V1_5.out
  obtain ⟨v30, v31, v32, v33, v34⟩ := V3_5.out
  go_wp2_with fail
  refine (M6.out _).mono ?_
  rintro e w6 ⟨rfl, hb6⟩
  have T6 := Lib.hid (twq_alloc (twq_below T5.out hb6) (.cells #[.int .i64 m1.1, .int .i64 m1.2] 35))
  have V1_6 := Lib.hid (owp_alloc (owp_below V1_5.out hb6) (.cells #[.int .i64 m1.1, .int .i64 m1.2] 35))
  have V2_6 := Lib.hid (owp_alloc (owp_below V2_5.out hb6) (.cells #[.int .i64 m1.1, .int .i64 m1.2] 35))
  have V3_6 := Lib.hid (owp_alloc (owp_below V3_5.out hb6) (.cells #[.int .i64 m1.1, .int .i64 m1.2] 35))
  have V4_6 := Lib.hid (owp_alloc (owp_below V4_5.out hb6) (.cells #[.int .i64 m1.1, .int .i64 m1.2] 35))
  have V5_6 := Lib.hid (owp_alloc (owp_below V5_5.out hb6) (.cells #[.int .i64 m1.1, .int .i64 m1.2] 35))
  have V6_6 := Lib.hid (owp_new w6 m1 35)
  clear hb6 T5 V1_5 V2_5 V3_5 V4_5 V5_5
  clear v10 v11 v12 v13 v14 v30 v31 v32 v33 v34
  obtain ⟨v10, v11, v12, v13, v14⟩ := V1_6.out
  obtain ⟨v40, v41, v42, v43, v44⟩ := V4_6.out
  go_wp2_with fail
  refine (M7.out _).mono ?_
  rintro e w7 ⟨rfl, hb7⟩
  have T7 := Lib.hid (twq_alloc (twq_below T6.out hb7) (.cells #[.int .i64 m2.1, .int .i64 m2.2] 35))
  have V1_7 := Lib.hid (owp_alloc (owp_below V1_6.out hb7) (.cells #[.int .i64 m2.1, .int .i64 m2.2] 35))
  have V2_7 := Lib.hid (owp_alloc (owp_below V2_6.out hb7) (.cells #[.int .i64 m2.1, .int .i64 m2.2] 35))
  have V3_7 := Lib.hid (owp_alloc (owp_below V3_6.out hb7) (.cells #[.int .i64 m2.1, .int .i64 m2.2] 35))
  have V4_7 := Lib.hid (owp_alloc (owp_below V4_6.out hb7) (.cells #[.int .i64 m2.1, .int .i64 m2.2] 35))
  have V5_7 := Lib.hid (owp_alloc (owp_below V5_6.out hb7) (.cells #[.int .i64 m2.1, .int .i64 m2.2] 35))
  have V6_7 := Lib.hid (owp_alloc (owp_below V6_6.out hb7) (.cells #[.int .i64 m2.1, .int .i64 m2.2] 35))
  have V7_7 := Lib.hid (owp_new w7 m2 35)
  clear hb7 T6 V1_6 V2_6 V3_6 V4_6 V5_6 V6_6
  clear v10 v11 v12 v13 v14 v40 v41 v42 v43 v44
  obtain ⟨v10, v11, v12, v13, v14⟩ := V1_7.out
  obtain ⟨v50, v51, v52, v53, v54⟩ := V5_7.out
  go_wp2_with fail
  refine (M8.out _).mono ?_
  rintro e w8 ⟨rfl, hb8⟩
  have T8 := Lib.hid (twq_alloc (twq_below T7.out hb8) (.cells #[.int .i64 m3.1, .int .i64 m3.2] 35))
  have V1_8 := Lib.hid (owp_alloc (owp_below V1_7.out hb8) (.cells #[.int .i64 m3.1, .int .i64 m3.2] 35))
  have V2_8 := Lib.hid (owp_alloc (owp_below V2_7.out hb8) (.cells #[.int .i64 m3.1, .int .i64 m3.2] 35))
  have V3_8 := Lib.hid (owp_alloc (owp_below V3_7.out hb8) (.cells #[.int .i64 m3.1, .int .i64 m3.2] 35))
  have V4_8 := Lib.hid (owp_alloc (owp_below V4_7.out hb8) (.cells #[.int .i64 m3.1, .int .i64 m3.2] 35))
  have V5_8 := Lib.hid (owp_alloc (owp_below V5_7.out hb8) (.cells #[.int .i64 m3.1, .int .i64 m3.2] 35))
  have V6_8 := Lib.hid (owp_alloc (owp_below V6_7.out hb8) (.cells #[.int .i64 m3.1, .int .i64 m3.2] 35))
  have V7_8 := Lib.hid (owp_alloc (owp_below V7_7.out hb8) (.cells #[.int .i64 m3.1, .int .i64 m3.2] 35))
  have V8_8 := Lib.hid (owp_new w8 m3 35)
  clear hb8 T7 V1_7 V2_7 V3_7 V4_7 V5_7 V6_7 V7_7
  clear v10 v11 v12 v13 v14 v50 v51 v52 v53 v54
  go_wp2_with fail
  refine (K.out _).mono ?_
  rintro e w9 ⟨rfl, hb9⟩
  go_wp2
  go_ret
  exact ⟨rfl, bstep T8.out.2.2 hb9⟩

end Go.Proofs.Ytjigcgpcglfjfaa
