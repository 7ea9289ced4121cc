/-
  The law FieldFiner: its walk.
-/
import Derived.Test.YtjigcgpcglfjfaaFg36
import Derived.Test.YtjigcgpcglfjfaaFg26
import Derived.Test.YtjigcgpcglfjfaaMeet
namespace Go.Proofs.Ytjigcgpcglfjfaa
open Go.ChangeShapes Go.WideShapes Go.RowKit
open Sh
/-- what the law has between its parts -/
def StF (w W : World) (g h : Nat) (t : P9) (x : P3) (d : Int) (r s : Int × Int) : Prop := Sen W w.heap.size t x d ∧ OwP W g r ∧ OwP W h s ∧ Below w.heap.size w W ∧ w.heap.size < g ∧ g < h
theorem sen_set2 {w : World} {q g : Nat} {t : P9} {x : P3} {d : Int} {u v : Value} (h : Sen w q t x d) (n : q ≠ g) : Sen ((w.setCell ⟨g, 0, none⟩ u).setCell ⟨g, 1, none⟩ v) q t x d := by
  obtain ⟨⟨g0, g1, g2, g3, g4, g5, g6, g7, g8, g9, g10, g11, g12⟩, hl⟩ := h
  have n' : ¬ g = q := fun e => n e.symm
  exact ⟨⟨by go_simp, by go_simp, by go_simp, by go_simp, by go_simp, by go_simp, by go_simp, by go_simp, by go_simp, by go_simp, by go_simp, by go_simp, by go_simp⟩, by simpa using hl⟩
section
variable {w W W1 : World} {g h : Nat} {t : P9} {x : P3} {d : Int} {r s : Int × Int}
theorem stF_below (k : StF w W g h t x d r s) (hb : Below W.heap.size W W1) : StF w W1 g h t x d r s := ⟨sen_below k.1 hb, owp_below k.2.1 hb, owp_below k.2.2.1 hb, bstep k.2.2.2.1 hb, k.2.2.2.2⟩
theorem stF_put1 (k : StF w W g h t x d r s) (p : Int × Int) : StF w ((W.setCell ⟨g, 0, none⟩ (.int .i64 p.1)).setCell ⟨g, 1, none⟩ (.int .i64 p.2)) g h t x d p s :=
  ⟨sen_set2 k.1 (by have := k.2.2.2.2.1; omega), owp_put k.2.1 p, owp_set2 k.2.2.1 (by have := k.2.2.2.2.2; omega), (k.2.2.2.1.setCell (Nat.le_of_lt k.2.2.2.2.1) _).setCell (Nat.le_of_lt k.2.2.2.2.1) _, k.2.2.2.2⟩
theorem stF_put2 (k : StF w W g h t x d r s) (p : Int × Int) : StF w ((W.setCell ⟨h, 0, none⟩ (.int .i64 p.1)).setCell ⟨h, 1, none⟩ (.int .i64 p.2)) g h t x d r p :=
  have n : w.heap.size ≤ h := Nat.le_trans (Nat.le_of_lt k.2.2.2.2.1) (Nat.le_of_lt k.2.2.2.2.2)
  ⟨sen_set2 k.1 (by have := k.2.2.2.2; omega), owp_set2 k.2.1 (by have := k.2.2.2.2.2; omega), owp_put k.2.2.1 p, (k.2.2.2.1.setCell n _).setCell n _, k.2.2.2.2⟩
end
set_option maxRecDepth 100000 in
set_option maxHeartbeats 4000000 in
theorem ffiner_walk0 (t : P9) (x : P3) (d d' : Int) (r1 s1 r2 s2 r3 s3 : Sp.R) (w : World) (hw : IntKind.i64.wrap (d + 1) = d') (M1 : Hid (∀ W, Calls Try.prog 16 #[pnv t.1 t.2.1 t.2.2, ptv x, .int .i64 d] W fun e w' => e = .returned (spr r1) ∧ Below W.heap.size W w')) (M2 : Hid (∀ W, Calls Try.prog 16 #[pnv t.1 t.2.1 t.2.2, ptv x, .int .i64 d'] W fun e w' => e = .returned (spr s1) ∧ Below W.heap.size W w')) (F1 : Hid (r1.2 = 0 → s1.2 ≠ 1 → s1.2 = 0 ∧ ∀ W, Calls Try.prog 33 #[spv s1.1.1 s1.1.2, spv r1.1.1 r1.1.2] W fun e w' => e = .returned (.tuple #[.bool true, .int .i64 0]) ∧ Below W.heap.size W w')) (M3 : Hid (∀ W, Calls Try.prog 18 #[pnv t.1 t.2.1 t.2.2, ptv x, .int .i64 d] W fun e w' => e = .returned (spr r2) ∧ Below W.heap.size W w')) (M4 : Hid (∀ W, Calls Try.prog 18 #[pnv t.1 t.2.1 t.2.2, ptv x, .int .i64 d'] W fun e w' => e = .returned (spr s2) ∧ Below W.heap.size W w')) (F2 : Hid (r2.2 = 0 → s2.2 ≠ 1 → s2.2 = 0 ∧ ∀ W, Calls Try.prog 33 #[spv s2.1.1 s2.1.2, spv r2.1.1 r2.1.2] W fun e w' => e = .returned (.tuple #[.bool true, .int .i64 0]) ∧ Below W.heap.size W w')) (M5 : Hid (∀ W, Calls Try.prog 20 #[pnv t.1 t.2.1 t.2.2, ptv x, .int .i64 d] W fun e w' => e = .returned (spr r3) ∧ Below W.heap.size W w')) (M6 : Hid (∀ W, Calls Try.prog 20 #[pnv t.1 t.2.1 t.2.2, ptv x, .int .i64 d'] W fun e w' => e = .returned (spr s3) ∧ Below W.heap.size W w')) (F3 : Hid (r3.2 = 0 → s3.2 ≠ 1 → s3.2 = 0 ∧ ∀ W, Calls Try.prog 33 #[spv s3.1.1 s3.1.2, spv r3.1.1 r3.1.2] W fun e w' => e = .returned (.tuple #[.bool true, .int .i64 0]) ∧ Below W.heap.size W w')) (K : Hid (∀ W, Calls Try.prog 15 #[] W fun e w' => e = .returned (.bool true) ∧ Below W.heap.size W w')) : Calls Try.prog 11 #[senv t x d] w fun e w' => e = .returned (.bool true) ∧ Below w.heap.size w w' := by
  have S0 := Lib.hid (sen_new w t x d 33)
  have B0 := Lib.hid (show Below w.heap.size w (w.alloc (senb t x d 33)) from (Below.refl _ w).alloc (Nat.le_refl _) _)
  obtain ⟨⟨g0, g1, g2, g3, g4, g5, g6, g7, g8, g9, g10, g11, g12⟩, gl⟩ := S0.out
  go_enter Try.func11, Try.ntmps11
  go_wp2_with fail
  with_reducible refine (M1.out _).mono ?_
  rintro e w1 ⟨rfl, hb1⟩
  have LG := Lib.hid (show w.heap.size < w1.heap.size from Nat.lt_of_lt_of_le S0.out.2 hb1.size)
  have S1 := Lib.hid (sen_alloc (sen_below S0.out hb1) (.cells #[.int .i64 r1.1.1, .int .i64 r1.1.2] 35))
  have B1 := Lib.hid (balloc (bstep B0.out hb1) (.cells #[.int .i64 r1.1.1, .int .i64 r1.1.2] 35))
  have V1 := Lib.hid (owp_new w1 r1.1 35)
  clear g0 g1 g2 g3 g4 g5 g6 g7 g8 g9 g10 g11 g12 gl hb1 S0 B0
  obtain ⟨⟨g0, g1, g2, g3, g4, g5, g6, g7, g8, g9, g10, g11, g12⟩, gl⟩ := S1.out
  go_wp2_with fail
  with_reducible refine (M2.out _).mono ?_
  rintro e w2 ⟨rfl, hb2⟩
  have LH := Lib.hid (show w1.heap.size < w2.heap.size from Nat.lt_of_lt_of_le V1.out.2.2.2.2 hb2.size)
  have S2 := Lib.hid (sen_alloc (sen_below S1.out hb2) (.cells #[.int .i64 s1.1.1, .int .i64 s1.1.2] 35))
  have B2 := Lib.hid (balloc (bstep B1.out hb2) (.cells #[.int .i64 s1.1.1, .int .i64 s1.1.2] 35))
  have V2 := Lib.hid (owp_alloc (owp_below V1.out hb2) (.cells #[.int .i64 s1.1.1, .int .i64 s1.1.2] 35))
  have U2 := Lib.hid (owp_new w2 s1.1 35)
  have Q0 := Lib.hid (show StF w (w2.alloc (.cells #[.int .i64 s1.1.1, .int .i64 s1.1.2] 35)) w1.heap.size w2.heap.size t x d r1.1 s1.1 from ⟨S2.out, V2.out, U2.out, B2.out, LG.out, LH.out⟩)
  clear g0 g1 g2 g3 g4 g5 g6 g7 g8 g9 g10 g11 g12 gl hb2 S1 B1 V1 S2 B2 V2 U2 LG LH
  go_upto_region 3 with fail
  go_cut [39] (fun cv wx => (∃ b : Bool, cv = .bool b ∧ (b = true → r1.2 = 0 ∧ s1.2 ≠ 1)) ∧ StF w wx w1.heap.size w2.heap.size t x d r1.1 s1.1)
  case first =>
    by_cases z : r1.2 = 0
    · have z1 : (r1.2 == 0) = true := beq_iff_eq.2 z
      by_cases y : s1.2 = 1
      · have y1 : (s1.2 != 1) = false := by rw [y]; decide
        clear z y
        go_wp2
        go_meet
        exact ⟨⟨false, rfl, fun h => by cases h⟩, Q0.out⟩
      · have y1 : (s1.2 != 1) = true := bne_iff_ne.2 y
        have zy := Lib.hid (And.intro z y)
        clear z y
        go_wp2
        go_meet
        exact ⟨⟨true, rfl, fun _ => zy.out⟩, Q0.out⟩
    · have z1 : (r1.2 == 0) = false := beq_eq_false_iff_ne.2 z
      clear z
      go_wp2
      go_meet
      exact ⟨⟨false, rfl, fun h => by cases h⟩, Q0.out⟩
  case rest =>
  obtain ⟨⟨b0, rfl, hb0⟩, hs⟩ := hcut
  have HB0 := Lib.hid hb0
  have T0 := Lib.hid hs
  clear hs hb0 Q0
  go_upto_if 39 with fail
  go_cut [7] (fun _ wx => StF w wx w1.heap.size w2.heap.size t x d r1.1 s1.1)
  case first =>
    obtain ⟨p0, p1, p2, p3, p4⟩ := T0.out.2.1
    obtain ⟨q0, q1, q2, q3, q4⟩ := T0.out.2.2.1
    cases b0 with
    | true =>
      obtain ⟨z, y⟩ := HB0.out rfl
      have f := F1.out z y
      have y2 : (s1.2 != 0) = false := by rw [f.1]; decide
      have I := Lib.hid f.2
      clear z y f HB0
      go_wp2_with fail
      with_reducible refine (I.out _).mono ?_
      rintro e v ⟨rfl, hv⟩
      go_wp2
      go_meet
      exact stF_below T0.out hv
    | false =>
      clear HB0
      go_wp2
      go_meet
      exact T0.out
  case rest =>
  clear HB0 T0
  have T0 := Lib.hid hcut
  clear hcut
  obtain ⟨⟨g0, g1, g2, g3, g4, g5, g6, g7, g8, g9, g10, g11, g12⟩, gl⟩ := T0.out.1
  go_wp2_with fail
  with_reducible refine (M3.out _).mono ?_
  rintro e v3 ⟨rfl, hb⟩
  have T := Lib.hid (stF_below T0.out hb)
  have Tp := Lib.hid (stF_put1 T.out r2.1)
  clear g0 g1 g2 g3 g4 g5 g6 g7 g8 g9 g10 g11 g12 gl hb T0
  obtain ⟨⟨g0, g1, g2, g3, g4, g5, g6, g7, g8, g9, g10, g11, g12⟩, gl⟩ := Tp.out.1
  obtain ⟨p0, p1, p2, p3, p4⟩ := T.out.2.1
  go_wp2_with fail
  with_reducible refine (M4.out _).mono ?_
  rintro e v4 ⟨rfl, hb⟩
  have Tq := Lib.hid (stF_below Tp.out hb)
  have Q1 := Lib.hid (stF_put2 Tq.out s2.1)
  clear g0 g1 g2 g3 g4 g5 g6 g7 g8 g9 g10 g11 g12 gl hb T Tp p0 p1 p2 p3 p4
  obtain ⟨u0, u1, u2, u3, u4⟩ := Tq.out.2.2.1
  go_upto_region 9 with fail
  go_cut [82] (fun cv wx => (∃ b : Bool, cv = .bool b ∧ (b = true → r2.2 = 0 ∧ s2.2 ≠ 1)) ∧ StF w wx w1.heap.size w2.heap.size t x d r2.1 s2.1)
  case first =>
    by_cases z : r2.2 = 0
    · have z1 : (r2.2 == 0) = true := beq_iff_eq.2 z
      by_cases y : s2.2 = 1
      · have y1 : (s2.2 != 1) = false := by rw [y]; decide
        clear z y
        go_wp2
        go_meet
        exact ⟨⟨false, rfl, fun h => by cases h⟩, Q1.out⟩
      · have y1 : (s2.2 != 1) = true := bne_iff_ne.2 y
        have zy := Lib.hid (And.intro z y)
        clear z y
        go_wp2
        go_meet
        exact ⟨⟨true, rfl, fun _ => zy.out⟩, Q1.out⟩
    · have z1 : (r2.2 == 0) = false := beq_eq_false_iff_ne.2 z
      clear z
      go_wp2
      go_meet
      exact ⟨⟨false, rfl, fun h => by cases h⟩, Q1.out⟩
  case rest =>
  obtain ⟨⟨b1, rfl, hb1⟩, hs⟩ := hcut
  have HB1 := Lib.hid hb1
  have T1 := Lib.hid hs
  clear hs hb1 Q1
  go_upto_if 82 with fail
  go_cut [9] (fun _ wx => StF w wx w1.heap.size w2.heap.size t x d r2.1 s2.1)
  case first =>
    obtain ⟨p0, p1, p2, p3, p4⟩ := T1.out.2.1
    obtain ⟨q0, q1, q2, q3, q4⟩ := T1.out.2.2.1
    cases b1 with
    | true =>
      obtain ⟨z, y⟩ := HB1.out rfl
      have f := F2.out z y
      have y2 : (s2.2 != 0) = false := by rw [f.1]; decide
      have I := Lib.hid f.2
      clear z y f HB1
      go_wp2_with fail
      with_reducible refine (I.out _).mono ?_
      rintro e v ⟨rfl, hv⟩
      go_wp2
      go_meet
      exact stF_below T1.out hv
    | false =>
      clear HB1
      go_wp2
      go_meet
      exact T1.out
  case rest =>
  clear HB1 T1
  have T1 := Lib.hid hcut
  clear hcut
  obtain ⟨⟨g0, g1, g2, g3, g4, g5, g6, g7, g8, g9, g10, g11, g12⟩, gl⟩ := T1.out.1
  go_wp2_with fail
  with_reducible refine (M5.out _).mono ?_
  rintro e v5 ⟨rfl, hb⟩
  have T := Lib.hid (stF_below T1.out hb)
  have Tp := Lib.hid (stF_put1 T.out r3.1)
  clear g0 g1 g2 g3 g4 g5 g6 g7 g8 g9 g10 g11 g12 gl hb T1
  obtain ⟨⟨g0, g1, g2, g3, g4, g5, g6, g7, g8, g9, g10, g11, g12⟩, gl⟩ := Tp.out.1
  obtain ⟨p0, p1, p2, p3, p4⟩ := T.out.2.1
  go_wp2_with fail
  with_reducible refine (M6.out _).mono ?_
  rintro e v6 ⟨rfl, hb⟩
  have Tq := Lib.hid (stF_below Tp.out hb)
  have Q2 := Lib.hid (stF_put2 Tq.out s3.1)
  clear g0 g1 g2 g3 g4 g5 g6 g7 g8 g9 g10 g11 g12 gl hb T Tp p0 p1 p2 p3 p4
  obtain ⟨u0, u1, u2, u3, u4⟩ := Tq.out.2.2.1
  go_upto_region 15 with fail
  go_cut [125] (fun cv wx => (∃ b : Bool, cv = .bool b ∧ (b = true → r3.2 = 0 ∧ s3.2 ≠ 1)) ∧ StF w wx w1.heap.size w2.heap.size t x d r3.1 s3.1)
  case first =>
    by_cases z : r3.2 = 0
    · have z1 : (r3.2 == 0) = true := beq_iff_eq.2 z
      by_cases y : s3.2 = 1
      · have y1 : (s3.2 != 1) = false := by rw [y]; decide
        clear z y
        go_wp2
        go_meet
        exact ⟨⟨false, rfl, fun h => by cases h⟩, Q2.out⟩
      · have y1 : (s3.2 != 1) = true := bne_iff_ne.2 y
        have zy := Lib.hid (And.intro z y)
        clear z y
        go_wp2
        go_meet
        exact ⟨⟨true, rfl, fun _ => zy.out⟩, Q2.out⟩
    · have z1 : (r3.2 == 0) = false := beq_eq_false_iff_ne.2 z
      clear z
      go_wp2
      go_meet
      exact ⟨⟨false, rfl, fun h => by cases h⟩, Q2.out⟩
  case rest =>
  obtain ⟨⟨b2, rfl, hb2⟩, hs⟩ := hcut
  have HB2 := Lib.hid hb2
  have T2 := Lib.hid hs
  clear hs hb2 Q2
  go_upto_if 125 with fail
  go_cut [11] (fun _ wx => StF w wx w1.heap.size w2.heap.size t x d r3.1 s3.1)
  case first =>
    obtain ⟨p0, p1, p2, p3, p4⟩ := T2.out.2.1
    obtain ⟨q0, q1, q2, q3, q4⟩ := T2.out.2.2.1
    cases b2 with
    | true =>
      obtain ⟨z, y⟩ := HB2.out rfl
      have f := F3.out z y
      have y2 : (s3.2 != 0) = false := by rw [f.1]; decide
      have I := Lib.hid f.2
      clear z y f HB2
      go_wp2_with fail
      with_reducible refine (I.out _).mono ?_
      rintro e v ⟨rfl, hv⟩
      go_wp2
      go_meet
      exact stF_below T2.out hv
    | false =>
      clear HB2
      go_wp2
      go_meet
      exact T2.out
  case rest =>
  clear HB2 T2
  have T2 := Lib.hid hcut
  clear hcut
  go_wp2_with fail
  refine (K.out _).mono ?_
  rintro e w9 ⟨rfl, hb9⟩
  go_wp2
  go_ret
  exact ⟨rfl, bstep T2.out.2.2.2.1 hb9⟩
theorem fin_inside {r s : Sp.R} (f : FinR r s) (h : r.2 = 0) (k : s.2 ≠ 1) : s.2 = 0 ∧ ∀ W, Calls Try.prog 33 #[spv s.1.1 s.1.2, spv r.1.1 r.1.2] W fun e w' => e = .returned (.tuple #[.bool true, .int .i64 0]) ∧ Below W.heap.size W w' := by
  obtain ⟨a, b, c, d, e⟩ := f h k
  exact ⟨a, fun W => rinside_in s.1.1 s.1.2 r.1.1 r.1.2 W c b d e⟩
theorem ffiner_walk (t : P9) (x : P3) (d : Int) (w : World) : Calls Try.prog 11 #[senv t x d] w fun e w' => e = .returned (.bool true) ∧ Below w.heap.size w w' := by
  have key : ∀ c : Bool, (meF c t x d).2 = 0 → IntKind.i64.wrap (d + 1) = d + 1 := fun c h => by
    have := snc_ok (meF_0 h).1
    exact IntWalk.i64_in _ ⟨by omega, by omega⟩
  have keyA : (angF t x d).2 = 0 → IntKind.i64.wrap (d + 1) = d + 1 := fun h => by
    refine key true (Classical.byContradiction fun k => ?_)
    unfold angF angR at h
    rw [if_neg k] at h
    exact k h
  refine ffiner_walk0 t x d (IntKind.i64.wrap (d + 1)) (meF false t x d) (meF false t x (IntKind.i64.wrap (d + 1))) (meF true t x d) (meF true t x (IntKind.i64.wrap (d + 1))) (angF t x d) (angF t x (IntKind.i64.wrap (d + 1))) w rfl
    (Lib.hid fun W => meani_any t x d W) (Lib.hid fun W => meani_any t x _ W) (Lib.hid fun h k => ?_) (Lib.hid fun W => meanc_any t x d W) (Lib.hid fun W => meanc_any t x _ W) (Lib.hid fun h k => ?_) (Lib.hid fun W => fsa_any t x d W) (Lib.hid fun W => fsa_any t x _ W) (Lib.hid fun h k => ?_) (Lib.hid fun W => fkn_any W)
  · rw [key false h] at k ⊢
    exact fin_inside (meF_fine false t x d) h k
  · rw [key true h] at k ⊢
    exact fin_inside (meF_fine true t x d) h k
  · rw [keyA h] at k ⊢
    exact fin_inside (angF_fine t x d) h k

end Go.Proofs.Ytjigcgpcglfjfaa
