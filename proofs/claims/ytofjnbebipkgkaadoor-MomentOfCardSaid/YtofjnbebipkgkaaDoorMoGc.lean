/-
  The contract of gather: the walk to the loop.
-/
import Derived.Test.YtofjnbebipkgkaaDoorMoGb
namespace Go.Proofs.YtofjnbebipkgkaaDoor
open Go.ChangeShapes Go.WideShapes Go.RowKit
open Sh
attribute [local go_sem 1000000] run_min_mn run_max_mx
set_option maxRecDepth 100000 in
set_option maxHeartbeats 8000000 in
theorem gather_mid (g : Nat) (p : P3) (m n : Mo) (q : Ch) (A B C s : P3) (W : World) (X : GC W (W.alloc (chb q 38)) g W.heap.size (gl p m) q)
    (CO : Hid (∀ W, Calls Tryd.prog 19 #[ptv p, pnv q.1.1 q.1.2.1 q.1.2.2] W fun e w' => e = .returned (pnv A B C) ∧ Below W.heap.size W w'))
    (PA : Hid (∀ W, Calls Tryd.prog 25 #[ptv A, .int .i64 1, ptv B] W fun e w' => e = .returned (ptv (add A B)) ∧ Below W.heap.size W w'))
    (PB : Hid (∀ W, Calls Tryd.prog 25 #[ptv (add A B), .int .i64 1, ptv C] W fun e w' => e = .returned (ptv s) ∧ Below W.heap.size W w'))
    (PD : Hid (∀ W, Calls Tryd.prog 25 #[ptv m.d, .int .i64 q.2, ptv s] W fun e w' => e = .returned (ptv n.d) ∧ Below W.heap.size W w'))
    (hq : -100 ≤ q.2 ∧ q.2 ≤ 100) (hs : BdP 384 s) (hA : BdP 128 A) (hB : BdP 128 B) (hC : BdP 128 C) (hm : mok m)
    (hn : Hid (n.c = m.c + q.2 ∧ n.t = m.t + absI q.2))
    (hN : Hid (n.s0 = m.s0 + q.2 * (s.1 * s.1 + A.1 * A.1 + B.1 * B.1 + C.1 * C.1) ∧ n.s1 = m.s1 + q.2 * (s.1 * s.2.1 + A.1 * A.2.1 + B.1 * B.2.1 + C.1 * C.2.1) ∧ n.s2 = m.s2 + q.2 * (s.1 * s.2.2 + A.1 * A.2.2 + B.1 * B.2.2 + C.1 * C.2.2) ∧ n.s3 = m.s3 + q.2 * (s.2.1 * s.2.1 + A.2.1 * A.2.1 + B.2.1 * B.2.1 + C.2.1 * C.2.1) ∧ n.s4 = m.s4 + q.2 * (s.2.1 * s.2.2 + A.2.1 * A.2.2 + B.2.1 * B.2.2 + C.2.1 * C.2.2) ∧ n.s5 = m.s5 + q.2 * (s.2.2 * s.2.2 + A.2.2 * A.2.2 + B.2.2 * B.2.2 + C.2.2 * C.2.2)))
    (hg : g ≠ 0) (gz : 0 < g) :
    Calls Tryd.prog 12 #[.pointer (some ⟨g, 0, none⟩), chv q] W (fun e w' => e = .returned (.tuple #[]) ∧ OwnL w' g (gl p n) ∧ Below g W w') := by
  have HQ := Lib.hid hq
  have MM := Lib.hid hm
  have AB := Lib.hid (absI_bd hq)
  have MX := Lib.hid (mx_abs q.2)
  have N0 := Lib.hid (gth_bd hq (cor1 hs) (cor1 hs) (cor1 hA) (cor1 hA) (cor1 hB) (cor1 hB) (cor1 hC) (cor1 hC))
  have N1 := Lib.hid (gth_bd hq (cor1 hs) (cor2 hs) (cor1 hA) (cor2 hA) (cor1 hB) (cor2 hB) (cor1 hC) (cor2 hC))
  have N2 := Lib.hid (gth_bd hq (cor1 hs) (cor3 hs) (cor1 hA) (cor3 hA) (cor1 hB) (cor3 hB) (cor1 hC) (cor3 hC))
  have N3 := Lib.hid (gth_bd hq (cor2 hs) (cor2 hs) (cor2 hA) (cor2 hA) (cor2 hB) (cor2 hB) (cor2 hC) (cor2 hC))
  have N4 := Lib.hid (gth_bd hq (cor2 hs) (cor3 hs) (cor2 hA) (cor3 hA) (cor2 hB) (cor3 hB) (cor2 hC) (cor3 hC))
  have N5 := Lib.hid (gth_bd hq (cor3 hs) (cor3 hs) (cor3 hA) (cor3 hA) (cor3 hB) (cor3 hB) (cor3 hC) (cor3 hC))
  clear hq hs hA hB hC hm
  go_enter Tryd.func12, Tryd.ntmps12
  go_upto_region 1 with fail
  go_cut [4] (fun t4 wx => ∃ bl : Nat, t4 = .pointer (some ⟨bl, 0, none⟩) ∧ GB W wx g W.heap.size bl (gl p m) q A B C)
  case first =>
    have Q := gc_drew X
    have LG : g < W.heap.size := X.2.2.2.2
    go_region_held3 (fun w' => (w'.cell? ⟨g, 0, none⟩ = some (.int .i64 p.1) ∧ w'.cell? ⟨g, 1, none⟩ = some (.int .i64 p.2.1) ∧ w'.cell? ⟨g, 2, none⟩ = some (.int .i64 p.2.2)) ∧ (w'.cell? ⟨W.heap.size, 0, none⟩ = some (.int .i64 q.1.1.1) ∧ w'.cell? ⟨W.heap.size, 1, none⟩ = some (.int .i64 q.1.1.2.1) ∧ w'.cell? ⟨W.heap.size, 2, none⟩ = some (.int .i64 q.1.1.2.2) ∧ w'.cell? ⟨W.heap.size, 3, none⟩ = some (.int .i64 q.1.2.1.1) ∧ w'.cell? ⟨W.heap.size, 4, none⟩ = some (.int .i64 q.1.2.1.2.1) ∧ w'.cell? ⟨W.heap.size, 5, none⟩ = some (.int .i64 q.1.2.1.2.2) ∧ w'.cell? ⟨W.heap.size, 6, none⟩ = some (.int .i64 q.1.2.2.1) ∧ w'.cell? ⟨W.heap.size, 7, none⟩ = some (.int .i64 q.1.2.2.2.1) ∧ w'.cell? ⟨W.heap.size, 8, none⟩ = some (.int .i64 q.1.2.2.2.2)))
      (first | (refine gc_cells (W := W) (m := m) ?_; with_reducible assumption) | (refine gc_cells (W := W) (m := m) ?_; with_reducible refine gc_alloc ?_ _; with_reducible assumption) | (refine gc_cells (W := W) (m := m) ?_; with_reducible refine gc_drew ?_; with_reducible refine gc_alloc ?_ _; with_reducible assumption) | (refine gc_cells (W := W) (m := m) ?_; ((repeat with_reducible refine gc_set ?_ (by omega) (by omega)); (first | with_reducible assumption | (with_reducible refine gc_alloc ?_ _; with_reducible assumption) | (with_reducible refine gc_drew ?_; with_reducible refine gc_alloc ?_ _; with_reducible assumption)))) | fail)
      (first | (go_at_call 19; (with_reducible refine (CO.out _).mono ?_); rintro e v0 ⟨rfl, hv0⟩; (first | with_reducible (have q0 := gc_below Q hv0) | with_reducible (have q0 := gc_below (gc_alloc Q _) hv0) | with_reducible (have q0 := gc_below (gc_drew (gc_alloc X _)) hv0) | fail); have sz0 := gc_lt q0; (first | with_reducible (have oo := ownL_below oo hv0) | with_reducible (have oo := ownL_below (ownL_new9 _ 0 0 0 0 0 0 0 0 0 _) hv0) | with_reducible (have oo := ownL_below (ownL_drew (ownL_new9 _ 0 0 0 0 0 0 0 0 0 _)) hv0) | skip); (try simp only [World.size_alloc] at oo); (first | (have o1 := ownL_cells9 oo; have o2 := ownL_free9 oo; have o3 := oo.1; obtain ⟨x0, x1, x2, x3, x4, x5, x6, x7, x8⟩ := o1; obtain ⟨y0, y1, y2, y3, y4, y5, y6, y7, y8⟩ := o2) | skip)) | fail)
    all_goals
      go_wp2
      go_meet
      first
        | with_reducible exact ⟨_, rfl, gb_put A B C oo q0 (by omega) (by omega)⟩
        | with_reducible exact ⟨_, rfl, gb_new A B C _ q0⟩
        | fail
  case rest =>
    obtain ⟨bl, rfl, st⟩ := hcut
    have ST := Lib.hid st
    have LB := Lib.hid st.2.2.2.2.2
    clear st X
    go_upto_region 2 with fail
    go_cut [5] (fun t5 wx => ∃ bs : Nat, t5 = .pointer (some ⟨bs, 0, none⟩) ∧ GA W wx g W.heap.size bl bs (gl p m) q A B C s)
    case first =>
      have N := ST.out
      have Q := gb_drew N
      have LB1 := LB.out.1
      have LB2 := LB.out.2
      have LB3 := gb_lt N
      go_region_held3 (fun w' => w'.cell? ⟨bl, 0, none⟩ = some (.int .i64 A.1) ∧ w'.cell? ⟨bl, 1, none⟩ = some (.int .i64 A.2.1) ∧ w'.cell? ⟨bl, 2, none⟩ = some (.int .i64 A.2.2) ∧ w'.cell? ⟨bl, 3, none⟩ = some (.int .i64 B.1) ∧ w'.cell? ⟨bl, 4, none⟩ = some (.int .i64 B.2.1) ∧ w'.cell? ⟨bl, 5, none⟩ = some (.int .i64 B.2.2) ∧ w'.cell? ⟨bl, 6, none⟩ = some (.int .i64 C.1) ∧ w'.cell? ⟨bl, 7, none⟩ = some (.int .i64 C.2.1) ∧ w'.cell? ⟨bl, 8, none⟩ = some (.int .i64 C.2.2))
        (first | (refine gb_cells (W := W) (g := g) (bq := W.heap.size) (l := gl p m) (q := q) ?_; with_reducible assumption) | (refine gb_cells (W := W) (g := g) (bq := W.heap.size) (l := gl p m) (q := q) ?_; with_reducible refine gb_alloc ?_ _; with_reducible assumption) | (refine gb_cells (W := W) (g := g) (bq := W.heap.size) (l := gl p m) (q := q) ?_; with_reducible refine gb_drew ?_; with_reducible refine gb_alloc ?_ _; with_reducible assumption) | (refine gb_cells (W := W) (g := g) (bq := W.heap.size) (l := gl p m) (q := q) ?_; ((repeat with_reducible refine gb_set ?_ (by omega) (by omega)); (first | with_reducible assumption | (with_reducible refine gb_alloc ?_ _; with_reducible assumption) | (with_reducible refine gb_drew ?_; with_reducible refine gb_alloc ?_ _; with_reducible assumption)))) | fail)
        (first | (go_at_call 25; (with_reducible refine (PA.out _).mono ?_); rintro e v0 ⟨rfl, hv0⟩; (first | with_reducible (have q0 := gb_below Q hv0) | with_reducible (have q0 := gb_below (gb_alloc Q _) hv0) | with_reducible (have q0 := gb_below (gb_drew (gb_alloc N _)) hv0) | fail); have sz0 := gb_lt q0; (first | with_reducible (have oo := ownL_below oo hv0) | with_reducible (have oo := ownL_below (ownL_new3 _ 0 0 0 _) hv0) | with_reducible (have oo := ownL_below (ownL_drew (ownL_new3 _ 0 0 0 _)) hv0) | skip); (try simp only [World.size_alloc] at oo)) | (go_at_call 25; (with_reducible refine (PB.out _).mono ?_); rintro e v1 ⟨rfl, hv1⟩; (first | with_reducible (have q1 := gb_below q0 hv1) | with_reducible (have q1 := gb_below (gb_alloc q0 _) hv1) | fail); have sz1 := gb_lt q1; (first | with_reducible (have oo := ownL_below oo hv1) | with_reducible (have oo := ownL_below (ownL_new3 _ 0 0 0 _) hv1) | with_reducible (have oo := ownL_below (ownL_drew (ownL_new3 _ 0 0 0 _)) hv1) | skip); (try simp only [World.size_alloc] at oo); (first | (have o1 := ownL_cells3 oo; have o2 := ownL_free3 oo; have o3 := oo.1; obtain ⟨x0, x1, x2⟩ := o1; obtain ⟨y0, y1, y2⟩ := o2) | skip)) | fail)
      all_goals
        go_wp2
        go_meet
        first
          | with_reducible exact ⟨_, rfl, ga_put3 s oo q1 (gb_lt q0) (by omega)⟩
          | with_reducible exact ⟨_, rfl, ga_put3 s oo q1 (by omega) (by omega)⟩
          | with_reducible exact ⟨_, rfl, ga_new s _ q1⟩
          | fail
    case rest =>
      obtain ⟨bs, rfl, st⟩ := hcut
      have ST := Lib.hid st
      clear st
      have MM' := MM.out
      obtain ⟨⟨mt1, mt2⟩, ⟨mc1, mc2⟩, _⟩ := MM'
      obtain ⟨q1, q2⟩ := HQ.out
      obtain ⟨ab1, ab2, _, _⟩ := AB.out
      have L := ST.out.1
      obtain ⟨x0, x1, x2, x3, x4, x5, x6, x7, x8, x9, x10, x11, x12, x13⟩ := ownL_cells14 L
      obtain ⟨y0, y1, y2, y3, y4, y5, y6, y7, y8, y9, y10, y11, y12, y13⟩ := ownL_free14 L
      obtain ⟨⟨c0, c1, c2, c3, c4, c5, c6, c7, c8, c9⟩, cl⟩ := ST.out.2.1
      have gl1 := L.1
      clear L
      go_wp2
      go_still_tail 11, (by kernel_rfl)
      change wpList _ _ _ _ _ (World.drew _)
      go_wp2
      have ST1 := Lib.hid (ga_drew (ga_put ST.out 3 (m.c + q.2) (by simp) hg rfl))
      clear x0 x1 x2 x3 x4 x5 x6 x7 x8 x9 x10 x11 x12 x13 y0 y1 y2 y3 y4 y5 y6 y7 y8 y9 y10 y11 y12 y13 c0 c1 c2 c3 c4 c5 c6 c7 c8 c9 cl gl1
      generalize (wc.setCell ⟨g, 3, none⟩ (.int .i64 (m.c + q.2))).drew = W1 at *
      have MX' := MX.out
      have L := ST1.out.1
      obtain ⟨x0, x1, x2, x3, x4, x5, x6, x7, x8, x9, x10, x11, x12, x13⟩ := ownL_cells14 L
      obtain ⟨y0, y1, y2, y3, y4, y5, y6, y7, y8, y9, y10, y11, y12, y13⟩ := ownL_free14 L
      obtain ⟨⟨c0, c1, c2, c3, c4, c5, c6, c7, c8, c9⟩, cl⟩ := ST1.out.2.1
      have gl1 := L.1
      clear L
      go_wp2
      go_still_tail 15, (by kernel_rfl)
      change wpList _ _ _ _ _ (World.drew _)
      go_wp2
      have ST2 := Lib.hid (ga_drew (ga_put ST1.out 4 (m.t + Sp.mx q.2 (-q.2)) (by simp) hg rfl))
      clear MX' x0 x1 x2 x3 x4 x5 x6 x7 x8 x9 x10 x11 x12 x13 y0 y1 y2 y3 y4 y5 y6 y7 y8 y9 y10 y11 y12 y13 c0 c1 c2 c3 c4 c5 c6 c7 c8 c9 cl gl1
      generalize (W1.setCell ⟨g, 4, none⟩ (.int .i64 (m.t + Sp.mx q.2 (-q.2)))).drew = W2 at *
      clear mt1 mt2 mc1 mc2 q1 q2 ab1 ab2
      go_upto_region 5 with fail
      go_cut [] (fun wx => GA W wx g W.heap.size bl bs (glk p m n 0) q A B C s)
      case first =>
        have K0 := Lib.hid (ga_drew ST2.out)
        have L := ST2.out.1
        obtain ⟨x0, x1, x2, x3, x4, x5, x6, x7, x8, x9, x10, x11, x12, x13⟩ := ownL_cells14 L
        obtain ⟨y0, y1, y2, y3, y4, y5, y6, y7, y8, y9, y10, y11, y12, y13⟩ := ownL_free14 L
        obtain ⟨⟨c0, c1, c2, c3, c4, c5, c6, c7, c8, c9⟩, cl⟩ := ST2.out.2.1
        have gl1 := L.1
        clear L
        obtain ⟨s1, s2, s3⟩ := ownL_cells3 ST2.out.2.2.2.1
        have sl := ST2.out.2.2.2.1.1
        go_region_with (first | (go_at_call 23; (with_reducible refine (vof_any m.d _).mono ?_); rintro e v0 ⟨rfl, hv0⟩; have K1 := Lib.hid (ga_below K0.out hv0); clear hv0 x0 x1 x2 x3 x4 x5 x6 x7 x8 x9 x10 x11 x12 x13 y0 y1 y2 y3 y4 y5 y6 y7 y8 y9 y10 y11 y12 y13 c0 c1 c2 c3 c4 c5 c6 c7 c8 c9 cl gl1 s1 s2 s3 sl; have L := K1.out.1; obtain ⟨x0, x1, x2, x3, x4, x5, x6, x7, x8, x9, x10, x11, x12, x13⟩ := ownL_cells14 L; obtain ⟨y0, y1, y2, y3, y4, y5, y6, y7, y8, y9, y10, y11, y12, y13⟩ := ownL_free14 L; obtain ⟨⟨c0, c1, c2, c3, c4, c5, c6, c7, c8, c9⟩, cl⟩ := K1.out.2.1; have gl1 := L.1; clear L; obtain ⟨s1, s2, s3⟩ := ownL_cells3 K1.out.2.2.2.1; have sl := K1.out.2.2.2.1.1) | (go_at_call 25; (with_reducible refine (PD.out _).mono ?_); rintro e v1 ⟨rfl, hv1⟩; have K2 := Lib.hid (ga_below K1.out hv1); clear hv1 x0 x1 x2 x3 x4 x5 x6 x7 x8 x9 x10 x11 x12 x13 y0 y1 y2 y3 y4 y5 y6 y7 y8 y9 y10 y11 y12 y13 c0 c1 c2 c3 c4 c5 c6 c7 c8 c9 cl gl1 s1 s2 s3 sl; have L := K2.out.1; obtain ⟨x0, x1, x2, x3, x4, x5, x6, x7, x8, x9, x10, x11, x12, x13⟩ := ownL_cells14 L; obtain ⟨y0, y1, y2, y3, y4, y5, y6, y7, y8, y9, y10, y11, y12, y13⟩ := ownL_free14 L; obtain ⟨⟨c0, c1, c2, c3, c4, c5, c6, c7, c8, c9⟩, cl⟩ := K2.out.2.1; have gl1 := L.1; clear L; obtain ⟨s1, s2, s3⟩ := ownL_cells3 K2.out.2.2.2.1; have sl := K2.out.2.2.2.1.1) | (go_at_call 26; (with_reducible refine (vpt_any n.d _).mono ?_); rintro e v2 ⟨rfl, hv2⟩; have K3 := Lib.hid (ga_below K2.out hv2); clear hv2 x0 x1 x2 x3 x4 x5 x6 x7 x8 x9 x10 x11 x12 x13 y0 y1 y2 y3 y4 y5 y6 y7 y8 y9 y10 y11 y12 y13 c0 c1 c2 c3 c4 c5 c6 c7 c8 c9 cl gl1 s1 s2 s3 sl; have L := K3.out.1; obtain ⟨x0, x1, x2, x3, x4, x5, x6, x7, x8, x9, x10, x11, x12, x13⟩ := ownL_cells14 L; obtain ⟨y0, y1, y2, y3, y4, y5, y6, y7, y8, y9, y10, y11, y12, y13⟩ := ownL_free14 L; obtain ⟨⟨c0, c1, c2, c3, c4, c5, c6, c7, c8, c9⟩, cl⟩ := K3.out.2.1; have gl1 := L.1; clear L; obtain ⟨s1, s2, s3⟩ := ownL_cells3 K3.out.2.2.2.1; have sl := K3.out.2.2.2.1.1) | fail)
        all_goals
          go_wp2
          go_meet
          exact ga_dip K3.out n.d hg (by simp) (by simp only [glk, hn.out.1, hn.out.2, ← mx_abs]; rfl)
      case rest =>
        have ST3 := Lib.hid hcut
        clear hcut ST ST1 ST2
        have PL3 := ST3.out.2.2.2.2.1
        obtain ⟨⟨g0, g1, g2, g3, g4, g5, g6, g7, g8, g9, g10, g11⟩, gl2⟩ := PL3
        go_wp2
        clear g0 g1 g2 g3 g4 g5 g6 g7 g8 g9 g10 g11 gl2
        have i0 : ∀ w, (Instr.index 61 (.agg #[.int .i64 0, .int .i64 0, .int .i64 0, .int .i64 1, .int .i64 0, .int .i64 2, .int .i64 1, .int .i64 1, .int .i64 1, .int .i64 2, .int .i64 2, .int .i64 2]) (.int .i64 0)).run Tryd.prog w = .ok (.agg #[.int .i64 0, .int .i64 0]) w := fun _ => by kernel_rfl
        have i1 : ∀ w, (Instr.index 61 (.agg #[.int .i64 0, .int .i64 0, .int .i64 0, .int .i64 1, .int .i64 0, .int .i64 2, .int .i64 1, .int .i64 1, .int .i64 1, .int .i64 2, .int .i64 2, .int .i64 2]) (.int .i64 1)).run Tryd.prog w = .ok (.agg #[.int .i64 0, .int .i64 1]) w := fun _ => by kernel_rfl
        have i2 : ∀ w, (Instr.index 61 (.agg #[.int .i64 0, .int .i64 0, .int .i64 0, .int .i64 1, .int .i64 0, .int .i64 2, .int .i64 1, .int .i64 1, .int .i64 1, .int .i64 2, .int .i64 2, .int .i64 2]) (.int .i64 2)).run Tryd.prog w = .ok (.agg #[.int .i64 0, .int .i64 2]) w := fun _ => by kernel_rfl
        have i3 : ∀ w, (Instr.index 61 (.agg #[.int .i64 0, .int .i64 0, .int .i64 0, .int .i64 1, .int .i64 0, .int .i64 2, .int .i64 1, .int .i64 1, .int .i64 1, .int .i64 2, .int .i64 2, .int .i64 2]) (.int .i64 3)).run Tryd.prog w = .ok (.agg #[.int .i64 1, .int .i64 1]) w := fun _ => by kernel_rfl
        have i4 : ∀ w, (Instr.index 61 (.agg #[.int .i64 0, .int .i64 0, .int .i64 0, .int .i64 1, .int .i64 0, .int .i64 2, .int .i64 1, .int .i64 1, .int .i64 1, .int .i64 2, .int .i64 2, .int .i64 2]) (.int .i64 4)).run Tryd.prog w = .ok (.agg #[.int .i64 1, .int .i64 2]) w := fun _ => by kernel_rfl
        have i5 : ∀ w, (Instr.index 61 (.agg #[.int .i64 0, .int .i64 0, .int .i64 0, .int .i64 1, .int .i64 0, .int .i64 2, .int .i64 1, .int .i64 1, .int .i64 1, .int .i64 2, .int .i64 2, .int .i64 2]) (.int .i64 5)).run Tryd.prog w = .ok (.agg #[.int .i64 2, .int .i64 2]) w := fun _ => by kernel_rfl
        have j0 : ∀ w, (Instr.index 53 (.agg #[.int .i64 A.1, .int .i64 A.2.1, .int .i64 A.2.2, .int .i64 B.1, .int .i64 B.2.1, .int .i64 B.2.2, .int .i64 C.1, .int .i64 C.2.1, .int .i64 C.2.2]) (.int .i64 0)).run Tryd.prog w = .ok (ptv A) w := fun _ => by kernel_rfl
        have j1 : ∀ w, (Instr.index 53 (.agg #[.int .i64 A.1, .int .i64 A.2.1, .int .i64 A.2.2, .int .i64 B.1, .int .i64 B.2.1, .int .i64 B.2.2, .int .i64 C.1, .int .i64 C.2.1, .int .i64 C.2.2]) (.int .i64 1)).run Tryd.prog w = .ok (ptv B) w := fun _ => by kernel_rfl
        have j2 : ∀ w, (Instr.index 53 (.agg #[.int .i64 A.1, .int .i64 A.2.1, .int .i64 A.2.2, .int .i64 B.1, .int .i64 B.2.1, .int .i64 B.2.2, .int .i64 C.1, .int .i64 C.2.1, .int .i64 C.2.2]) (.int .i64 2)).run Tryd.prog w = .ok (ptv C) w := fun _ => by kernel_rfl
        go_loopw [70] (fun kv wr => ∃ k : Nat, k ≤ 6 ∧ kv = .int .i64 k ∧ GA W wr g W.heap.size bl bs (glk p m n k) q A B C s) (fun kv _ => 6 - (intOf kv).toNat)
        case atStart => exact ⟨0, Nat.zero_le _, rfl, ST3.out⟩
        case round =>
          clear ST3
          obtain ⟨k, hk, rfl, st⟩ := hrel
          have ST := Lib.hid st
          clear st
          have hc : k = 0 ∨ k = 1 ∨ k = 2 ∨ k = 3 ∨ k = 4 ∨ k = 5 ∨ k = 6 := by omega
          rcases hc with rfl | rfl | rfl | rfl | rfl | rfl | rfl
          · obtain ⟨⟨b1, b2⟩, ⟨b3, b4⟩, ⟨b5, b6⟩, ⟨b7, b8⟩, b9, b10⟩ := N0.out
            have ms := MM.out.2.2.2.1
            obtain ⟨ms1, ms2⟩ := ms
            have L := ST.out.1
            obtain ⟨x0, x1, x2, x3, x4, x5, x6, x7, x8, x9, x10, x11, x12, x13⟩ := ownL_cells14 L
            obtain ⟨y0, y1, y2, y3, y4, y5, y6, y7, y8, y9, y10, y11, y12, y13⟩ := ownL_free14 L
            obtain ⟨⟨c0, c1, c2, c3, c4, c5, c6, c7, c8, c9⟩, cl⟩ := ST.out.2.1
            have gl1 := L.1
            clear L
            obtain ⟨s1, s2, s3⟩ := ownL_cells3 ST.out.2.2.2.1
            have sl := ST.out.2.2.2.1.1
            obtain ⟨l0, l1, l2, l3, l4, l5, l6, l7, l8⟩ := ownL_cells9 ST.out.2.2.1
            have ll := ST.out.2.2.1.1
            go_wp2
            go_region
            go_wp2
            go_region
            go_wp2
            refine wp_loop_rounds 4 ?_
            rw [rounds_succ]
            go_wp2
            go_region
            go_wp2
            rw [rounds_succ]
            go_wp2
            go_region
            go_wp2
            rw [rounds_succ]
            go_wp2
            go_region
            go_wp2
            rw [rounds_succ]
            go_wp2
            have S5 := Lib.hid (ga_drew (ga_drew (ga_drew (ga_drew (ga_drew (ga_alloc (ga_alloc (ga_alloc (ga_alloc ST.out (.cells #[.int .i64 0, .int .i64 0] 60)) (ptc A 42)) (ptc B 42)) (ptc C 42)))))))
            clear x0 x1 x2 x3 x4 x5 x6 x7 x8 x9 x10 x11 x12 x13 y0 y1 y2 y3 y4 y5 y6 y7 y8 y9 y10 y11 y12 y13 c0 c1 c2 c3 c4 c5 c6 c7 c8 c9 cl gl1 s1 s2 s3 sl l0 l1 l2 l3 l4 l5 l6 l7 l8 ll
            generalize ((((wr.alloc (.cells #[.int .i64 0, .int .i64 0] 60)).alloc (ptc A 42)).alloc (ptc B 42)).alloc (ptc C 42)).drew.drew.drew.drew.drew = W5 at *
            have L := S5.out.1
            obtain ⟨x0, x1, x2, x3, x4, x5, x6, x7, x8, x9, x10, x11, x12, x13⟩ := ownL_cells14 L
            obtain ⟨y0, y1, y2, y3, y4, y5, y6, y7, y8, y9, y10, y11, y12, y13⟩ := ownL_free14 L
            obtain ⟨⟨c0, c1, c2, c3, c4, c5, c6, c7, c8, c9⟩, cl⟩ := S5.out.2.1
            have gl1 := L.1
            clear L
            go_still_tail 16, (by kernel_rfl)
            change wpList _ _ _ _ _ (World.drew _)
            go_wp2
            go_roundw
            case rel => exact ⟨1, by omega, by go_num, ga_put (ga_drew S5.out) 8 (m.s0 + q.2 * (s.1 * s.1 + A.1 * A.1 + B.1 * B.1 + C.1 * C.1)) (by simp [glk]) hg (by simp only [glk, hN.out.1]; rfl)⟩
            case measure => simp [intOf]
          · obtain ⟨⟨b1, b2⟩, ⟨b3, b4⟩, ⟨b5, b6⟩, ⟨b7, b8⟩, b9, b10⟩ := N1.out
            have ms := MM.out.2.2.2.2.1
            obtain ⟨ms1, ms2⟩ := ms
            have L := ST.out.1
            obtain ⟨x0, x1, x2, x3, x4, x5, x6, x7, x8, x9, x10, x11, x12, x13⟩ := ownL_cells14 L
            obtain ⟨y0, y1, y2, y3, y4, y5, y6, y7, y8, y9, y10, y11, y12, y13⟩ := ownL_free14 L
            obtain ⟨⟨c0, c1, c2, c3, c4, c5, c6, c7, c8, c9⟩, cl⟩ := ST.out.2.1
            have gl1 := L.1
            clear L
            obtain ⟨s1, s2, s3⟩ := ownL_cells3 ST.out.2.2.2.1
            have sl := ST.out.2.2.2.1.1
            obtain ⟨l0, l1, l2, l3, l4, l5, l6, l7, l8⟩ := ownL_cells9 ST.out.2.2.1
            have ll := ST.out.2.2.1.1
            go_wp2
            go_region
            go_wp2
            go_region
            go_wp2
            refine wp_loop_rounds 4 ?_
            rw [rounds_succ]
            go_wp2
            go_region
            go_wp2
            rw [rounds_succ]
            go_wp2
            go_region
            go_wp2
            rw [rounds_succ]
            go_wp2
            go_region
            go_wp2
            rw [rounds_succ]
            go_wp2
            have S5 := Lib.hid (ga_drew (ga_drew (ga_drew (ga_drew (ga_drew (ga_alloc (ga_alloc (ga_alloc (ga_alloc ST.out (.cells #[.int .i64 0, .int .i64 1] 60)) (ptc A 42)) (ptc B 42)) (ptc C 42)))))))
            clear x0 x1 x2 x3 x4 x5 x6 x7 x8 x9 x10 x11 x12 x13 y0 y1 y2 y3 y4 y5 y6 y7 y8 y9 y10 y11 y12 y13 c0 c1 c2 c3 c4 c5 c6 c7 c8 c9 cl gl1 s1 s2 s3 sl l0 l1 l2 l3 l4 l5 l6 l7 l8 ll
            generalize ((((wr.alloc (.cells #[.int .i64 0, .int .i64 1] 60)).alloc (ptc A 42)).alloc (ptc B 42)).alloc (ptc C 42)).drew.drew.drew.drew.drew = W5 at *
            have L := S5.out.1
            obtain ⟨x0, x1, x2, x3, x4, x5, x6, x7, x8, x9, x10, x11, x12, x13⟩ := ownL_cells14 L
            obtain ⟨y0, y1, y2, y3, y4, y5, y6, y7, y8, y9, y10, y11, y12, y13⟩ := ownL_free14 L
            obtain ⟨⟨c0, c1, c2, c3, c4, c5, c6, c7, c8, c9⟩, cl⟩ := S5.out.2.1
            have gl1 := L.1
            clear L
            go_still_tail 16, (by kernel_rfl)
            change wpList _ _ _ _ _ (World.drew _)
            go_wp2
            go_roundw
            case rel => exact ⟨2, by omega, by go_num, ga_put (ga_drew S5.out) 9 (m.s1 + q.2 * (s.1 * s.2.1 + A.1 * A.2.1 + B.1 * B.2.1 + C.1 * C.2.1)) (by simp [glk]) hg (by simp only [glk, hN.out.1, hN.out.2.1]; rfl)⟩
            case measure => simp [intOf]
          · obtain ⟨⟨b1, b2⟩, ⟨b3, b4⟩, ⟨b5, b6⟩, ⟨b7, b8⟩, b9, b10⟩ := N2.out
            have ms := MM.out.2.2.2.2.2.1
            obtain ⟨ms1, ms2⟩ := ms
            have L := ST.out.1
            obtain ⟨x0, x1, x2, x3, x4, x5, x6, x7, x8, x9, x10, x11, x12, x13⟩ := ownL_cells14 L
            obtain ⟨y0, y1, y2, y3, y4, y5, y6, y7, y8, y9, y10, y11, y12, y13⟩ := ownL_free14 L
            obtain ⟨⟨c0, c1, c2, c3, c4, c5, c6, c7, c8, c9⟩, cl⟩ := ST.out.2.1
            have gl1 := L.1
            clear L
            obtain ⟨s1, s2, s3⟩ := ownL_cells3 ST.out.2.2.2.1
            have sl := ST.out.2.2.2.1.1
            obtain ⟨l0, l1, l2, l3, l4, l5, l6, l7, l8⟩ := ownL_cells9 ST.out.2.2.1
            have ll := ST.out.2.2.1.1
            go_wp2
            go_region
            go_wp2
            go_region
            go_wp2
            refine wp_loop_rounds 4 ?_
            rw [rounds_succ]
            go_wp2
            go_region
            go_wp2
            rw [rounds_succ]
            go_wp2
            go_region
            go_wp2
            rw [rounds_succ]
            go_wp2
            go_region
            go_wp2
            rw [rounds_succ]
            go_wp2
            have S5 := Lib.hid (ga_drew (ga_drew (ga_drew (ga_drew (ga_drew (ga_alloc (ga_alloc (ga_alloc (ga_alloc ST.out (.cells #[.int .i64 0, .int .i64 2] 60)) (ptc A 42)) (ptc B 42)) (ptc C 42)))))))
            clear x0 x1 x2 x3 x4 x5 x6 x7 x8 x9 x10 x11 x12 x13 y0 y1 y2 y3 y4 y5 y6 y7 y8 y9 y10 y11 y12 y13 c0 c1 c2 c3 c4 c5 c6 c7 c8 c9 cl gl1 s1 s2 s3 sl l0 l1 l2 l3 l4 l5 l6 l7 l8 ll
            generalize ((((wr.alloc (.cells #[.int .i64 0, .int .i64 2] 60)).alloc (ptc A 42)).alloc (ptc B 42)).alloc (ptc C 42)).drew.drew.drew.drew.drew = W5 at *
            have L := S5.out.1
            obtain ⟨x0, x1, x2, x3, x4, x5, x6, x7, x8, x9, x10, x11, x12, x13⟩ := ownL_cells14 L
            obtain ⟨y0, y1, y2, y3, y4, y5, y6, y7, y8, y9, y10, y11, y12, y13⟩ := ownL_free14 L
            obtain ⟨⟨c0, c1, c2, c3, c4, c5, c6, c7, c8, c9⟩, cl⟩ := S5.out.2.1
            have gl1 := L.1
            clear L
            go_still_tail 16, (by kernel_rfl)
            change wpList _ _ _ _ _ (World.drew _)
            go_wp2
            go_roundw
            case rel => exact ⟨3, by omega, by go_num, ga_put (ga_drew S5.out) 10 (m.s2 + q.2 * (s.1 * s.2.2 + A.1 * A.2.2 + B.1 * B.2.2 + C.1 * C.2.2)) (by simp [glk]) hg (by simp only [glk, hN.out.1, hN.out.2.1, hN.out.2.2.1]; rfl)⟩
            case measure => simp [intOf]
          · obtain ⟨⟨b1, b2⟩, ⟨b3, b4⟩, ⟨b5, b6⟩, ⟨b7, b8⟩, b9, b10⟩ := N3.out
            have ms := MM.out.2.2.2.2.2.2.1
            obtain ⟨ms1, ms2⟩ := ms
            have L := ST.out.1
            obtain ⟨x0, x1, x2, x3, x4, x5, x6, x7, x8, x9, x10, x11, x12, x13⟩ := ownL_cells14 L
            obtain ⟨y0, y1, y2, y3, y4, y5, y6, y7, y8, y9, y10, y11, y12, y13⟩ := ownL_free14 L
            obtain ⟨⟨c0, c1, c2, c3, c4, c5, c6, c7, c8, c9⟩, cl⟩ := ST.out.2.1
            have gl1 := L.1
            clear L
            obtain ⟨s1, s2, s3⟩ := ownL_cells3 ST.out.2.2.2.1
            have sl := ST.out.2.2.2.1.1
            obtain ⟨l0, l1, l2, l3, l4, l5, l6, l7, l8⟩ := ownL_cells9 ST.out.2.2.1
            have ll := ST.out.2.2.1.1
            go_wp2
            go_region
            go_wp2
            go_region
            go_wp2
            refine wp_loop_rounds 4 ?_
            rw [rounds_succ]
            go_wp2
            go_region
            go_wp2
            rw [rounds_succ]
            go_wp2
            go_region
            go_wp2
            rw [rounds_succ]
            go_wp2
            go_region
            go_wp2
            rw [rounds_succ]
            go_wp2
            have S5 := Lib.hid (ga_drew (ga_drew (ga_drew (ga_drew (ga_drew (ga_alloc (ga_alloc (ga_alloc (ga_alloc ST.out (.cells #[.int .i64 1, .int .i64 1] 60)) (ptc A 42)) (ptc B 42)) (ptc C 42)))))))
            clear x0 x1 x2 x3 x4 x5 x6 x7 x8 x9 x10 x11 x12 x13 y0 y1 y2 y3 y4 y5 y6 y7 y8 y9 y10 y11 y12 y13 c0 c1 c2 c3 c4 c5 c6 c7 c8 c9 cl gl1 s1 s2 s3 sl l0 l1 l2 l3 l4 l5 l6 l7 l8 ll
            generalize ((((wr.alloc (.cells #[.int .i64 1, .int .i64 1] 60)).alloc (ptc A 42)).alloc (ptc B 42)).alloc (ptc C 42)).drew.drew.drew.drew.drew = W5 at *
            have L := S5.out.1
            obtain ⟨x0, x1, x2, x3, x4, x5, x6, x7, x8, x9, x10, x11, x12, x13⟩ := ownL_cells14 L
            obtain ⟨y0, y1, y2, y3, y4, y5, y6, y7, y8, y9, y10, y11, y12, y13⟩ := ownL_free14 L
            obtain ⟨⟨c0, c1, c2, c3, c4, c5, c6, c7, c8, c9⟩, cl⟩ := S5.out.2.1
            have gl1 := L.1
            clear L
            go_still_tail 16, (by kernel_rfl)
            change wpList _ _ _ _ _ (World.drew _)
            go_wp2
            go_roundw
            case rel => exact ⟨4, by omega, by go_num, ga_put (ga_drew S5.out) 11 (m.s3 + q.2 * (s.2.1 * s.2.1 + A.2.1 * A.2.1 + B.2.1 * B.2.1 + C.2.1 * C.2.1)) (by simp [glk]) hg (by simp only [glk, hN.out.1, hN.out.2.1, hN.out.2.2.1, hN.out.2.2.2.1]; rfl)⟩
            case measure => simp [intOf]
          · obtain ⟨⟨b1, b2⟩, ⟨b3, b4⟩, ⟨b5, b6⟩, ⟨b7, b8⟩, b9, b10⟩ := N4.out
            have ms := MM.out.2.2.2.2.2.2.2.1
            obtain ⟨ms1, ms2⟩ := ms
            have L := ST.out.1
            obtain ⟨x0, x1, x2, x3, x4, x5, x6, x7, x8, x9, x10, x11, x12, x13⟩ := ownL_cells14 L
            obtain ⟨y0, y1, y2, y3, y4, y5, y6, y7, y8, y9, y10, y11, y12, y13⟩ := ownL_free14 L
            obtain ⟨⟨c0, c1, c2, c3, c4, c5, c6, c7, c8, c9⟩, cl⟩ := ST.out.2.1
            have gl1 := L.1
            clear L
            obtain ⟨s1, s2, s3⟩ := ownL_cells3 ST.out.2.2.2.1
            have sl := ST.out.2.2.2.1.1
            obtain ⟨l0, l1, l2, l3, l4, l5, l6, l7, l8⟩ := ownL_cells9 ST.out.2.2.1
            have ll := ST.out.2.2.1.1
            go_wp2
            go_region
            go_wp2
            go_region
            go_wp2
            refine wp_loop_rounds 4 ?_
            rw [rounds_succ]
            go_wp2
            go_region
            go_wp2
            rw [rounds_succ]
            go_wp2
            go_region
            go_wp2
            rw [rounds_succ]
            go_wp2
            go_region
            go_wp2
            rw [rounds_succ]
            go_wp2
            have S5 := Lib.hid (ga_drew (ga_drew (ga_drew (ga_drew (ga_drew (ga_alloc (ga_alloc (ga_alloc (ga_alloc ST.out (.cells #[.int .i64 1, .int .i64 2] 60)) (ptc A 42)) (ptc B 42)) (ptc C 42)))))))
            clear x0 x1 x2 x3 x4 x5 x6 x7 x8 x9 x10 x11 x12 x13 y0 y1 y2 y3 y4 y5 y6 y7 y8 y9 y10 y11 y12 y13 c0 c1 c2 c3 c4 c5 c6 c7 c8 c9 cl gl1 s1 s2 s3 sl l0 l1 l2 l3 l4 l5 l6 l7 l8 ll
            generalize ((((wr.alloc (.cells #[.int .i64 1, .int .i64 2] 60)).alloc (ptc A 42)).alloc (ptc B 42)).alloc (ptc C 42)).drew.drew.drew.drew.drew = W5 at *
            have L := S5.out.1
            obtain ⟨x0, x1, x2, x3, x4, x5, x6, x7, x8, x9, x10, x11, x12, x13⟩ := ownL_cells14 L
            obtain ⟨y0, y1, y2, y3, y4, y5, y6, y7, y8, y9, y10, y11, y12, y13⟩ := ownL_free14 L
            obtain ⟨⟨c0, c1, c2, c3, c4, c5, c6, c7, c8, c9⟩, cl⟩ := S5.out.2.1
            have gl1 := L.1
            clear L
            go_still_tail 16, (by kernel_rfl)
            change wpList _ _ _ _ _ (World.drew _)
            go_wp2
            go_roundw
            case rel => exact ⟨5, by omega, by go_num, ga_put (ga_drew S5.out) 12 (m.s4 + q.2 * (s.2.1 * s.2.2 + A.2.1 * A.2.2 + B.2.1 * B.2.2 + C.2.1 * C.2.2)) (by simp [glk]) hg (by simp only [glk, hN.out.1, hN.out.2.1, hN.out.2.2.1, hN.out.2.2.2.1, hN.out.2.2.2.2.1]; rfl)⟩
            case measure => simp [intOf]
          · obtain ⟨⟨b1, b2⟩, ⟨b3, b4⟩, ⟨b5, b6⟩, ⟨b7, b8⟩, b9, b10⟩ := N5.out
            have ms := MM.out.2.2.2.2.2.2.2.2
            obtain ⟨ms1, ms2⟩ := ms
            have L := ST.out.1
            obtain ⟨x0, x1, x2, x3, x4, x5, x6, x7, x8, x9, x10, x11, x12, x13⟩ := ownL_cells14 L
            obtain ⟨y0, y1, y2, y3, y4, y5, y6, y7, y8, y9, y10, y11, y12, y13⟩ := ownL_free14 L
            obtain ⟨⟨c0, c1, c2, c3, c4, c5, c6, c7, c8, c9⟩, cl⟩ := ST.out.2.1
            have gl1 := L.1
            clear L
            obtain ⟨s1, s2, s3⟩ := ownL_cells3 ST.out.2.2.2.1
            have sl := ST.out.2.2.2.1.1
            obtain ⟨l0, l1, l2, l3, l4, l5, l6, l7, l8⟩ := ownL_cells9 ST.out.2.2.1
            have ll := ST.out.2.2.1.1
            go_wp2
            go_region
            go_wp2
            go_region
            go_wp2
            refine wp_loop_rounds 4 ?_
            rw [rounds_succ]
            go_wp2
            go_region
            go_wp2
            rw [rounds_succ]
            go_wp2
            go_region
            go_wp2
            rw [rounds_succ]
            go_wp2
            go_region
            go_wp2
            rw [rounds_succ]
            go_wp2
            have S5 := Lib.hid (ga_drew (ga_drew (ga_drew (ga_drew (ga_drew (ga_alloc (ga_alloc (ga_alloc (ga_alloc ST.out (.cells #[.int .i64 2, .int .i64 2] 60)) (ptc A 42)) (ptc B 42)) (ptc C 42)))))))
            clear x0 x1 x2 x3 x4 x5 x6 x7 x8 x9 x10 x11 x12 x13 y0 y1 y2 y3 y4 y5 y6 y7 y8 y9 y10 y11 y12 y13 c0 c1 c2 c3 c4 c5 c6 c7 c8 c9 cl gl1 s1 s2 s3 sl l0 l1 l2 l3 l4 l5 l6 l7 l8 ll
            generalize ((((wr.alloc (.cells #[.int .i64 2, .int .i64 2] 60)).alloc (ptc A 42)).alloc (ptc B 42)).alloc (ptc C 42)).drew.drew.drew.drew.drew = W5 at *
            have L := S5.out.1
            obtain ⟨x0, x1, x2, x3, x4, x5, x6, x7, x8, x9, x10, x11, x12, x13⟩ := ownL_cells14 L
            obtain ⟨y0, y1, y2, y3, y4, y5, y6, y7, y8, y9, y10, y11, y12, y13⟩ := ownL_free14 L
            obtain ⟨⟨c0, c1, c2, c3, c4, c5, c6, c7, c8, c9⟩, cl⟩ := S5.out.2.1
            have gl1 := L.1
            clear L
            go_still_tail 16, (by kernel_rfl)
            change wpList _ _ _ _ _ (World.drew _)
            go_wp2
            go_roundw
            case rel => exact ⟨6, by omega, by go_num, ga_put (ga_drew S5.out) 13 (m.s5 + q.2 * (s.2.2 * s.2.2 + A.2.2 * A.2.2 + B.2.2 * B.2.2 + C.2.2 * C.2.2)) (by simp [glk]) hg (by simp only [glk, hN.out.1, hN.out.2.1, hN.out.2.2.1, hN.out.2.2.2.1, hN.out.2.2.2.2.1, hN.out.2.2.2.2.2]; rfl)⟩
            case measure => simp [intOf]
          · have L := ST.out.1
            have B := ST.out.2.2.2.2.2.1
            go_wp2
            go_end0
            exact ⟨rfl, L, B⟩

end Go.Proofs.YtofjnbebipkgkaaDoor
