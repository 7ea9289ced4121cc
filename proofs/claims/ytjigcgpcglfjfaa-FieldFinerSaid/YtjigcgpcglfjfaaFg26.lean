/-
  The law FieldMeans: its walk; a panel, a point and a depth in memory.
-/
import Derived.Test.YtjigcgpcglfjfaaFgMe
namespace Go.Proofs.Ytjigcgpcglfjfaa
open Go.ChangeShapes Go.WideShapes Go.RowKit
open Sh
/-- a panel, a point and a depth as a value, as a block, in memory -/
abbrev senv (t : P9) (x : P3) (d : Int) : Value := .agg #[.int .i64 t.1.1, .int .i64 t.1.2.1, .int .i64 t.1.2.2, .int .i64 t.2.1.1, .int .i64 t.2.1.2.1, .int .i64 t.2.1.2.2, .int .i64 t.2.2.1, .int .i64 t.2.2.2.1, .int .i64 t.2.2.2.2, .int .i64 x.1, .int .i64 x.2.1, .int .i64 x.2.2, .int .i64 d]
abbrev senb (t : P9) (x : P3) (d : Int) (ty : TypeId) : Obj := .cells #[.int .i64 t.1.1, .int .i64 t.1.2.1, .int .i64 t.1.2.2, .int .i64 t.2.1.1, .int .i64 t.2.1.2.1, .int .i64 t.2.1.2.2, .int .i64 t.2.2.1, .int .i64 t.2.2.2.1, .int .i64 t.2.2.2.2, .int .i64 x.1, .int .i64 x.2.1, .int .i64 x.2.2, .int .i64 d] ty
def Sen (w : World) (q : Nat) (t : P9) (x : P3) (d : Int) : Prop := (w.cell? ⟨q, 0, none⟩ = some (.int .i64 t.1.1) ∧ w.cell? ⟨q, 1, none⟩ = some (.int .i64 t.1.2.1) ∧ w.cell? ⟨q, 2, none⟩ = some (.int .i64 t.1.2.2) ∧ w.cell? ⟨q, 3, none⟩ = some (.int .i64 t.2.1.1) ∧ w.cell? ⟨q, 4, none⟩ = some (.int .i64 t.2.1.2.1) ∧ w.cell? ⟨q, 5, none⟩ = some (.int .i64 t.2.1.2.2) ∧ w.cell? ⟨q, 6, none⟩ = some (.int .i64 t.2.2.1) ∧ w.cell? ⟨q, 7, none⟩ = some (.int .i64 t.2.2.2.1) ∧ w.cell? ⟨q, 8, none⟩ = some (.int .i64 t.2.2.2.2) ∧ w.cell? ⟨q, 9, none⟩ = some (.int .i64 x.1) ∧ w.cell? ⟨q, 10, none⟩ = some (.int .i64 x.2.1) ∧ w.cell? ⟨q, 11, none⟩ = some (.int .i64 x.2.2) ∧ w.cell? ⟨q, 12, none⟩ = some (.int .i64 d)) ∧ q < w.heap.size
theorem sen_new (w : World) (t : P9) (x : P3) (d : Int) (ty : TypeId) : Sen (w.alloc (senb t x d ty)) w.heap.size t x d := ⟨⟨by go_simp, by go_simp, by go_simp, by go_simp, by go_simp, by go_simp, by go_simp, by go_simp, by go_simp, by go_simp, by go_simp, by go_simp, by go_simp⟩, by simp⟩
theorem sen_in {w w1 : World} {N q : Nat} {t : P9} {x : P3} {d : Int} (h : Sen w q t x d) (hb : Below N w w1) (hq : q < N) : Sen w1 q t x d := by
  obtain ⟨⟨g0, g1, g2, g3, g4, g5, g6, g7, g8, g9, g10, g11, g12⟩, hl⟩ := h
  exact ⟨⟨(hb.cell (p := ⟨q, 0, none⟩) hq).trans g0, (hb.cell (p := ⟨q, 1, none⟩) hq).trans g1, (hb.cell (p := ⟨q, 2, none⟩) hq).trans g2, (hb.cell (p := ⟨q, 3, none⟩) hq).trans g3, (hb.cell (p := ⟨q, 4, none⟩) hq).trans g4, (hb.cell (p := ⟨q, 5, none⟩) hq).trans g5, (hb.cell (p := ⟨q, 6, none⟩) hq).trans g6, (hb.cell (p := ⟨q, 7, none⟩) hq).trans g7, (hb.cell (p := ⟨q, 8, none⟩) hq).trans g8, (hb.cell (p := ⟨q, 9, none⟩) hq).trans g9, (hb.cell (p := ⟨q, 10, none⟩) hq).trans g10, (hb.cell (p := ⟨q, 11, none⟩) hq).trans g11, (hb.cell (p := ⟨q, 12, none⟩) hq).trans g12⟩, Nat.lt_of_lt_of_le hl hb.size⟩
theorem sen_below {w w1 : World} {q : Nat} {t : P9} {x : P3} {d : Int} (h : Sen w q t x d) (hb : Below w.heap.size w w1) : Sen w1 q t x d := sen_in h hb h.2
theorem sen_alloc {w : World} {q : Nat} {t : P9} {x : P3} {d : Int} (h : Sen w q t x d) (o : Obj) : Sen (w.alloc o) q t x d := sen_below h ((Below.refl _ _).alloc (Nat.le_refl _) _)
set_option maxRecDepth 100000 in
set_option maxHeartbeats 4000000 in
theorem fmeans_walk0 (t : P9) (x : P3) (d : Int) (r s : Sp.R) (w : World) (M1 : Hid (∀ W, Calls Try.prog 16 #[pnv t.1 t.2.1 t.2.2, ptv x, .int .i64 d] W fun e w' => e = .returned (spr r) ∧ Below W.heap.size W w')) (M2 : Hid (∀ W, Calls Try.prog 17 #[pnv t.1 t.2.1 t.2.2, ptv x, .int .i64 d] W fun e w' => e = .returned (spr r) ∧ Below W.heap.size W w')) (M3 : Hid (∀ W, Calls Try.prog 18 #[pnv t.1 t.2.1 t.2.2, ptv x, .int .i64 d] W fun e w' => e = .returned (spr s) ∧ Below W.heap.size W w')) (M4 : Hid (∀ W, Calls Try.prog 19 #[pnv t.1 t.2.1 t.2.2, ptv x, .int .i64 d] W fun e w' => e = .returned (spr s) ∧ Below W.heap.size W w')) (K : Hid (∀ W, Calls Try.prog 15 #[] W fun e w' => e = .returned (.bool true) ∧ Below W.heap.size W w')) : Calls Try.prog 4 #[senv t x d] w fun e w' => e = .returned (.bool true) ∧ Below w.heap.size w w' := by
  have S0 := Lib.hid (sen_new w t x d 33)
  have B0 := Lib.hid (show Below w.heap.size w (w.alloc (senb t x d 33)) from (Below.refl _ w).alloc (Nat.le_refl _) _)
  obtain ⟨⟨g0, g1, g2, g3, g4, g5, g6, g7, g8, g9, g10, g11, g12⟩, gl⟩ := S0.out
  go_enter Try.func4, Try.ntmps4
  go_wp2_with fail
  with_reducible refine (M1.out _).mono ?_
  rintro e w1 ⟨rfl, hb1⟩
  have S1 := Lib.hid (sen_alloc (sen_below S0.out hb1) (.cells #[.int .i64 r.1.1, .int .i64 r.1.2] 35))
  have B1 := Lib.hid (balloc (bstep B0.out hb1) (.cells #[.int .i64 r.1.1, .int .i64 r.1.2] 35))
  have V1_1 := Lib.hid (owp_new w1 r.1 35)
  clear g0 g1 g2 g3 g4 g5 g6 g7 g8 g9 g10 g11 g12 gl hb1 S0 B0 
  obtain ⟨⟨g0, g1, g2, g3, g4, g5, g6, g7, g8, g9, g10, g11, g12⟩, gl⟩ := S1.out
  go_wp2_with fail
  with_reducible refine (M2.out _).mono ?_
  rintro e w2 ⟨rfl, hb2⟩
  have S2 := Lib.hid (sen_alloc (sen_below S1.out hb2) (.cells #[.int .i64 r.1.1, .int .i64 r.1.2] 35))
  have B2 := Lib.hid (balloc (bstep B1.out hb2) (.cells #[.int .i64 r.1.1, .int .i64 r.1.2] 35))
  have V1_2 := Lib.hid (owp_alloc (owp_below V1_1.out hb2) (.cells #[.int .i64 r.1.1, .int .i64 r.1.2] 35))
  have V2_2 := Lib.hid (owp_new w2 r.1 35)
  clear g0 g1 g2 g3 g4 g5 g6 g7 g8 g9 g10 g11 g12 gl hb2 S1 B1 V1_1
  obtain ⟨⟨g0, g1, g2, g3, g4, g5, g6, g7, g8, g9, g10, g11, g12⟩, gl⟩ := S2.out
  go_wp2_with fail
  with_reducible refine (M3.out _).mono ?_
  rintro e w3 ⟨rfl, hb3⟩
  have S3 := Lib.hid (sen_alloc (sen_below S2.out hb3) (.cells #[.int .i64 s.1.1, .int .i64 s.1.2] 35))
  have B3 := Lib.hid (balloc (bstep B2.out hb3) (.cells #[.int .i64 s.1.1, .int .i64 s.1.2] 35))
  have V1_3 := Lib.hid (owp_alloc (owp_below V1_2.out hb3) (.cells #[.int .i64 s.1.1, .int .i64 s.1.2] 35))
  have V2_3 := Lib.hid (owp_alloc (owp_below V2_2.out hb3) (.cells #[.int .i64 s.1.1, .int .i64 s.1.2] 35))
  have V3_3 := Lib.hid (owp_new w3 s.1 35)
  clear g0 g1 g2 g3 g4 g5 g6 g7 g8 g9 g10 g11 g12 gl hb3 S2 B2 V1_2 V2_2
  obtain ⟨⟨g0, g1, g2, g3, g4, g5, g6, g7, g8, g9, g10, g11, g12⟩, gl⟩ := S3.out
  go_wp2_with fail
  with_reducible refine (M4.out _).mono ?_
  rintro e w4 ⟨rfl, hb4⟩
  have S4 := Lib.hid (sen_alloc (sen_below S3.out hb4) (.cells #[.int .i64 s.1.1, .int .i64 s.1.2] 35))
  have B4 := Lib.hid (balloc (bstep B3.out hb4) (.cells #[.int .i64 s.1.1, .int .i64 s.1.2] 35))
  have V1_4 := Lib.hid (owp_alloc (owp_below V1_3.out hb4) (.cells #[.int .i64 s.1.1, .int .i64 s.1.2] 35))
  have V2_4 := Lib.hid (owp_alloc (owp_below V2_3.out hb4) (.cells #[.int .i64 s.1.1, .int .i64 s.1.2] 35))
  have V3_4 := Lib.hid (owp_alloc (owp_below V3_3.out hb4) (.cells #[.int .i64 s.1.1, .int .i64 s.1.2] 35))
  have V4_4 := Lib.hid (owp_new w4 s.1 35)
  clear g0 g1 g2 g3 g4 g5 g6 g7 g8 g9 g10 g11 g12 gl hb4 S3 B3 V1_3 V2_3 V3_3
  obtain ⟨v00, v01, v02, v03, v04⟩ := V1_4.out
  obtain ⟨v10, v11, v12, v13, v14⟩ := V2_4.out
  obtain ⟨v20, v21, v22, v23, v24⟩ := V3_4.out
  obtain ⟨v30, v31, v32, v33, v34⟩ := V4_4.out
  go_wp2_with fail
  refine (K.out _).mono ?_
  rintro e w5 ⟨rfl, hb5⟩
  clear v00 v01 v02 v03 v04 v10 v11 v12 v13 v14 v20 v21 v22 v23 v24 v30 v31 v32 v33 v34
  go_wp2
  go_ret
  exact ⟨rfl, bstep B4.out hb5⟩
theorem fmeans_walk (t : P9) (x : P3) (d : Int) (w : World) : Calls Try.prog 4 #[senv t x d] w fun e w' => e = .returned (.bool true) ∧ Below w.heap.size w w' :=
  fmeans_walk0 t x d _ _ w (Lib.hid fun W => meani_any t x d W) (Lib.hid fun W => rmeanf_any t x d W) (Lib.hid fun W => meanc_any t x d W) (Lib.hid fun W => rmeant_any t x d W) (Lib.hid fun W => fkn_any W)

end Go.Proofs.Ytjigcgpcglfjfaa
