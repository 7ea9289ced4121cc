/-
  The law SpanWider: for every input it answers true.
-/
import Derived.Test.YthmlhpjhoolflaaWideL
import Derived.Deep.DeepCutAuto
import Derived.Deep.Cut
namespace Go.Proofs.Ythmlhpjhoolflaa
open Go.ChangeShapes Go.WideShapes Go.RowKit
theorem wider_e1 (al ah bl bh Al Ah Bl Bh : Int) (w : World) (z : (Sp.hull al ah Al Ah).2 ≠ 0) :
    Calls Try.prog 13 #[spv al ah, spv bl bh, .agg #[.int .i64 Al, .int .i64 Ah, .int .i64 Bl, .int .i64 Bh]] w fun e w' => e = .returned (.bool true) ∧ Below w.heap.size w w' := by
  have z1 : ((Sp.hull al ah Al Ah).2 != 0) = true := bne_iff_ne.2 z
  clear z
  go_enter Try.func13, Try.ntmps13
  go_wp2_with fail
  refine (hull_any _ _ _ _ _).mono ?_
  rintro e w1 ⟨rfl, hb1⟩
  have a1 := pair_below (pair_alloc (pair_alloc (pair_new w al ah _) _) _) hb1
  have b1 := pair_below (pair_alloc (pair_new (w.alloc _) bl bh _) _) hb1
  have m1 := quad_below (quad_new ((w.alloc _).alloc _) Al Ah Bl Bh _) hb1
  simp only [World.size_alloc] at b1 m1
  obtain ⟨b11, b12, b13, b14, b15⟩ := b1
  obtain ⟨m11, m12, m13, m14, m15⟩ := m1
  go_wp2_with fail
  refine (hull_any _ _ _ _ _).mono ?_
  rintro e w2 ⟨rfl, hb2⟩
  go_wp2_with fail
  refine (known_any _).mono ?_
  rintro e w3 ⟨rfl, hb3⟩
  go_wp2
  go_ret
  exact ⟨rfl, by (repeat' (first | exact Below.refl _ _ | refine bstep ?_ hb1 | refine bstep ?_ hb2 | refine bstep ?_ hb3 | refine Below.setCell ?_ (by simp <;> omega) _ | refine balloc ?_ _ | refine Below.drew ?_ | refine bdrewN ?_ _))⟩
theorem wider_e2 (al ah bl bh Al Ah Bl Bh : Int) (w : World) (y : (Sp.hull al ah Al Ah).2 = 0) (z : (Sp.hull bl bh Bl Bh).2 ≠ 0) :
    Calls Try.prog 13 #[spv al ah, spv bl bh, .agg #[.int .i64 Al, .int .i64 Ah, .int .i64 Bl, .int .i64 Bh]] w fun e w' => e = .returned (.bool true) ∧ Below w.heap.size w w' := by
  have y1 : ((Sp.hull al ah Al Ah).2 != 0) = false := by rw [y]; rfl
  have z1 : ((Sp.hull bl bh Bl Bh).2 != 0) = true := bne_iff_ne.2 z
  clear y z
  go_enter Try.func13, Try.ntmps13
  go_wp2_with fail
  refine (hull_any _ _ _ _ _).mono ?_
  rintro e w1 ⟨rfl, hb1⟩
  have a1 := pair_below (pair_alloc (pair_alloc (pair_new w al ah _) _) _) hb1
  have b1 := pair_below (pair_alloc (pair_new (w.alloc _) bl bh _) _) hb1
  have m1 := quad_below (quad_new ((w.alloc _).alloc _) Al Ah Bl Bh _) hb1
  simp only [World.size_alloc] at b1 m1
  obtain ⟨b11, b12, b13, b14, b15⟩ := b1
  obtain ⟨m11, m12, m13, m14, m15⟩ := m1
  go_wp2_with fail
  refine (hull_any _ _ _ _ _).mono ?_
  rintro e w2 ⟨rfl, hb2⟩
  go_wp2_with fail
  refine (known_any _).mono ?_
  rintro e w3 ⟨rfl, hb3⟩
  go_wp2
  go_ret
  exact ⟨rfl, by (repeat' (first | exact Below.refl _ _ | refine bstep ?_ hb1 | refine bstep ?_ hb2 | refine bstep ?_ hb3 | refine Below.setCell ?_ (by simp <;> omega) _ | refine balloc ?_ _ | refine Below.drew ?_ | refine bdrewN ?_ _))⟩
set_option maxRecDepth 100000 in
set_option maxHeartbeats 4000000 in
theorem wider_ok (al ah bl bh Al Ah Bl Bh : Int) (xl xh yl yh : Int) (w : World) (h1 : Hid (∀ W : World, Calls Try.prog 42 #[spv al ah, spv Al Ah] W fun e w' => e = .returned (spr ((xl, xh), 0)) ∧ Below W.heap.size W w')) (h2 : Hid (∀ W : World, Calls Try.prog 42 #[spv bl bh, spv Bl Bh] W fun e w' => e = .returned (spr ((yl, yh), 0)) ∧ Below W.heap.size W w')) (C0 : Hid ((Sp.addR al ah bl bh).2 = 0 → ∀ W : World, Calls Try.prog 25 #[spv (Sp.addR xl xh yl yh).1.1 (Sp.addR xl xh yl yh).1.2, .int .i64 (Sp.addR xl xh yl yh).2, spv (Sp.addR al ah bl bh).1.1 (Sp.addR al ah bl bh).1.2] W fun e w' => e = .returned (.bool true) ∧ Below W.heap.size W w')) (C1 : Hid ((Sp.subR al ah bl bh).2 = 0 → ∀ W : World, Calls Try.prog 25 #[spv (Sp.subR xl xh yl yh).1.1 (Sp.subR xl xh yl yh).1.2, .int .i64 (Sp.subR xl xh yl yh).2, spv (Sp.subR al ah bl bh).1.1 (Sp.subR al ah bl bh).1.2] W fun e w' => e = .returned (.bool true) ∧ Below W.heap.size W w')) (C2 : Hid ((Sp.mulR al ah bl bh).2 = 0 → ∀ W : World, Calls Try.prog 25 #[spv (Sp.mulR xl xh yl yh).1.1 (Sp.mulR xl xh yl yh).1.2, .int .i64 (Sp.mulR xl xh yl yh).2, spv (Sp.mulR al ah bl bh).1.1 (Sp.mulR al ah bl bh).1.2] W fun e w' => e = .returned (.bool true) ∧ Below W.heap.size W w')) (C3 : Hid ((Sp.divR al ah bl bh).2 = 0 → ∀ W : World, Calls Try.prog 25 #[spv (Sp.divR xl xh yl yh).1.1 (Sp.divR xl xh yl yh).1.2, .int .i64 (Sp.divR xl xh yl yh).2, spv (Sp.divR al ah bl bh).1.1 (Sp.divR al ah bl bh).1.2] W fun e w' => e = .returned (.bool true) ∧ Below W.heap.size W w')) (C4 : Hid ((Sp.sqR al ah).2 = 0 → ∀ W : World, Calls Try.prog 25 #[spv (Sp.sqR xl xh).1.1 (Sp.sqR xl xh).1.2, .int .i64 (Sp.sqR xl xh).2, spv (Sp.sqR al ah).1.1 (Sp.sqR al ah).1.2] W fun e w' => e = .returned (.bool true) ∧ Below W.heap.size W w')) (C5 : Hid ((rootR al ah).2 = 0 → ∀ W : World, Calls Try.prog 25 #[spv (rootR xl xh).1.1 (rootR xl xh).1.2, .int .i64 (rootR xl xh).2, spv (rootR al ah).1.1 (rootR al ah).1.2] W fun e w' => e = .returned (.bool true) ∧ Below W.heap.size W w')) :
    Calls Try.prog 13 #[spv al ah, spv bl bh, .agg #[.int .i64 Al, .int .i64 Ah, .int .i64 Bl, .int .i64 Bh]] w fun e w' => e = .returned (.bool true) ∧ Below w.heap.size w w' := by
  go_enter Try.func13, Try.ntmps13
  go_wp2_with fail
  refine (h1.out _).mono ?_
  rintro e w1 ⟨rfl, hb1⟩
  have a1 := pair_below (pair_alloc (pair_alloc (pair_new w al ah _) _) _) hb1
  have b1 := pair_below (pair_alloc (pair_new (w.alloc _) bl bh _) _) hb1
  have m1 := quad_below (quad_new ((w.alloc _).alloc _) Al Ah Bl Bh _) hb1
  simp only [World.size_alloc] at b1 m1
  obtain ⟨b11, b12, b13, b14, b15⟩ := b1
  obtain ⟨m11, m12, m13, m14, m15⟩ := m1
  go_wp2_with fail
  refine (h2.out _).mono ?_
  rintro e w2 ⟨rfl, hb2⟩
  have aa := pair_below (pair_alloc a1 _) hb2
  have bb := pair_below (pair_alloc (⟨b11, b12, b13, b14, b15⟩ : Pair w1 (w.heap.size + 1) bl bh) _) hb2
  have xx := pair_below (pair_new w1 xl xh _) hb2
  have L1 : w.heap.size + 1 + 1 < w1.heap.size := m15
  have L2 : w1.heap.size < w2.heap.size := xx.2.2.2.2
  clear b11 b12 b13 b14 b15 m11 m12 m13 m14 m15 a1
  have a' := aa; have b' := bb
  obtain ⟨a1, a2, _, _, a5⟩ := a'
  obtain ⟨b1, b2, _, _, b5⟩ := b'
  go_wp2_with fail
  refine (add_any _ _ _ _ _).mono ?_
  rintro e w3 ⟨rfl, hb3⟩
  clear a1 a2 a5 b1 b2 b5
  replace aa := pair_below (pair_alloc aa _) hb3
  replace bb := pair_below (pair_alloc bb _) hb3
  replace xx := pair_below (pair_alloc xx _) hb3
  have yy := pair_below (pair_new w2 yl yh _) hb3
  have L3 : w2.heap.size < w3.heap.size := yy.2.2.2.2
  have x' := xx; have y' := yy
  obtain ⟨a1, a2, _, _, a5⟩ := x'
  obtain ⟨b1, b2, _, _, b5⟩ := y'
  go_wp2_with fail
  refine (add_any _ _ _ _ _).mono ?_
  rintro e w4 ⟨rfl, hb4⟩
  clear a1 a2 a5 b1 b2 b5
  replace aa := pair_below (pair_alloc aa _) hb4
  replace bb := pair_below (pair_alloc bb _) hb4
  replace xx := pair_below (pair_alloc xx _) hb4
  replace yy := pair_below (pair_alloc yy _) hb4
  have ss := pair_below (pair_new w3 (Sp.addR al ah bl bh).1.1 (Sp.addR al ah bl bh).1.2 _) hb4
  have L4 : w3.heap.size < w4.heap.size := ss.2.2.2.2
  have B0 : Below w.heap.size w w4 := by (repeat' (first | exact Below.refl _ _ | refine bstep ?_ hb1 | refine bstep ?_ hb2 | refine bstep ?_ hb3 | refine bstep ?_ hb4 | refine Below.setCell ?_ (by simp <;> omega) _ | refine balloc ?_ _ | refine Below.drew ?_ | refine bdrewN ?_ _))
  have QQ : St w (w4.alloc (.cells #[.int .i64 (Sp.addR xl xh yl yh).1.1, .int .i64 (Sp.addR xl xh yl yh).1.2] 23)) w1.heap.size w2.heap.size w3.heap.size w4.heap.size al ah bl bh xl xh yl yh :=
    ⟨pair_alloc aa _, pair_alloc bb _, pair_alloc xx _, pair_alloc yy _, ⟨_, _, pair_alloc ss _⟩, ⟨_, _, pair_new _ _ _ _⟩, balloc B0 _⟩
  clear hb1 hb2 hb3 hb4 aa bb xx yy B0
  obtain ⟨X, hX⟩ : ∃ X, w1.heap.size = X := ⟨_, rfl⟩
  obtain ⟨Y, hY⟩ : ∃ Y, w2.heap.size = Y := ⟨_, rfl⟩
  obtain ⟨S, hS⟩ : ∃ S, w3.heap.size = S := ⟨_, rfl⟩
  obtain ⟨T, hT⟩ : ∃ T, w4.heap.size = T := ⟨_, rfl⟩
  have ss1 := ss.1
  have ss2 := ss.2.1
  have ss5 := ss.2.2.2.2
  clear ss
  rw [hX] at L1 L2 QQ
  rw [hY] at L2 L3 QQ
  rw [hS] at L3 L4 QQ ss1 ss2 ss5
  rw [hT] at L4 QQ
  have nAS : w.heap.size ≠ S := by omega
  have nBS : w.heap.size + 1 ≠ S := by omega
  have nXS : X ≠ S := by omega
  have nYS : Y ≠ S := by omega
  have nTS : T ≠ S := by omega
  have nAT : w.heap.size ≠ T := by omega
  have nBT : w.heap.size + 1 ≠ T := by omega
  have nXT : X ≠ T := by omega
  have nYT : Y ≠ T := by omega
  have nST : S ≠ T := by omega
  have gS : w.heap.size ≤ S := by omega
  have gT : w.heap.size ≤ T := by omega
  go_upto_region 7 with fail
  go_cut [54] (fun sv wx => sv = .bool false ∧ St w wx X Y S T al ah bl bh xl xh yl yh)
  case first =>
    by_cases z : (Sp.addR al ah bl bh).2 = 0
    · have z1 : ((Sp.addR al ah bl bh).2 == 0) = true := beq_iff_eq.2 z
      have C := Lib.hid (fun W => C0.out z W)
      clear z
      go_wp2_with fail
      refine (C.out _).mono ?_
      rintro e v ⟨rfl, hv⟩
      go_wp2
      go_meet
      exact ⟨rfl, st_below QQ hv⟩
    · have z1 : ((Sp.addR al ah bl bh).2 == 0) = false := beq_eq_false_iff_ne.2 z
      clear z
      go_wp2
      go_meet
      exact ⟨rfl, QQ⟩
  case rest =>
    obtain ⟨rfl, hst⟩ := hcut
    obtain ⟨A, B, PX, PY, ⟨s0, s1, PS⟩, ⟨t0, t1, PT⟩, BW⟩ := hst
    have A' := A; have B' := B
    obtain ⟨a1, a2, _, _, a5⟩ := A'
    obtain ⟨b1, b2, _, _, b5⟩ := B'
    go_wp2_with fail
    refine (sub_any _ _ _ _ _).mono ?_
    rintro e v1 ⟨rfl, hv1⟩
    clear a1 a2 a5 b1 b2 b5
    replace A := pair_below A hv1
    replace B := pair_below B hv1
    replace PX := pair_below PX hv1
    replace PY := pair_below PY hv1
    replace PS := pair_below PS hv1
    replace PT := pair_below PT hv1
    replace BW := bstep BW hv1
    clear hv1
    have X' := PX; have Y' := PY; have S' := PS
    obtain ⟨a1, a2, _, _, a5⟩ := X'
    obtain ⟨b1, b2, _, _, b5⟩ := Y'
    obtain ⟨c1, c2, c3, c4, c5⟩ := S'
    go_wp2_with fail
    refine (sub_any _ _ _ _ _).mono ?_
    rintro e v2 ⟨rfl, hv2⟩
    clear a1 a2 a5 b1 b2 b5 c1 c2 c3 c4 c5
    replace A := pair_below (pair_far A nAS _ _) hv2
    replace B := pair_below (pair_far B nBS _ _) hv2
    replace PX := pair_below (pair_far PX nXS _ _) hv2
    replace PY := pair_below (pair_far PY nYS _ _) hv2
    replace PT := pair_below (pair_far PT nTS _ _) hv2
    replace PS := pair_below (pair_set PS (Sp.subR al ah bl bh).1.1 (Sp.subR al ah bl bh).1.2) hv2
    replace BW := bstep ((BW.setCell gS _).setCell gS _) hv2
    clear hv2
    have QQ : St w ((v2.setCell ⟨T, 0, none⟩ (.int .i64 (Sp.subR xl xh yl yh).1.1)).setCell ⟨T, 1, none⟩ (.int .i64 (Sp.subR xl xh yl yh).1.2)) X Y S T al ah bl bh xl xh yl yh :=
      ⟨pair_far A nAT _ _, pair_far B nBT _ _, pair_far PX nXT _ _, pair_far PY nYT _ _, ⟨_, _, pair_far PS nST _ _⟩, ⟨_, _, pair_set PT _ _⟩, (BW.setCell gT _).setCell gT _⟩
    obtain ⟨a1, a2, _, _, a5⟩ := PS
    obtain ⟨c1, c2, c3, c4, c5⟩ := PT
    clear A B PX PY BW
    go_upto_region 11 with fail
    go_cut [75] (fun sv wx => sv = .bool false ∧ St w wx X Y S T al ah bl bh xl xh yl yh)
    case first =>
      by_cases z : (Sp.subR al ah bl bh).2 = 0
      · have z1 : ((Sp.subR al ah bl bh).2 == 0) = true := beq_iff_eq.2 z
        have C := Lib.hid (fun W => C1.out z W)
        clear z
        go_wp2_with fail
        refine (C.out _).mono ?_
        rintro e v ⟨rfl, hv⟩
        go_wp2
        go_meet
        exact ⟨rfl, st_below QQ hv⟩
      · have z1 : ((Sp.subR al ah bl bh).2 == 0) = false := beq_eq_false_iff_ne.2 z
        clear z
        go_wp2
        go_meet
        exact ⟨rfl, QQ⟩
    case rest =>
      obtain ⟨rfl, hst⟩ := hcut
      obtain ⟨A, B, PX, PY, ⟨s0, s1, PS⟩, ⟨t0, t1, PT⟩, BW⟩ := hst
      have A' := A; have B' := B
      obtain ⟨a1, a2, _, _, a5⟩ := A'
      obtain ⟨b1, b2, _, _, b5⟩ := B'
      go_wp2_with fail
      refine (mul_any _ _ _ _ _).mono ?_
      rintro e v1 ⟨rfl, hv1⟩
      clear a1 a2 a5 b1 b2 b5
      replace A := pair_below A hv1
      replace B := pair_below B hv1
      replace PX := pair_below PX hv1
      replace PY := pair_below PY hv1
      replace PS := pair_below PS hv1
      replace PT := pair_below PT hv1
      replace BW := bstep BW hv1
      clear hv1
      have X' := PX; have Y' := PY; have S' := PS
      obtain ⟨a1, a2, _, _, a5⟩ := X'
      obtain ⟨b1, b2, _, _, b5⟩ := Y'
      obtain ⟨c1, c2, c3, c4, c5⟩ := S'
      go_wp2_with fail
      refine (mul_any _ _ _ _ _).mono ?_
      rintro e v2 ⟨rfl, hv2⟩
      clear a1 a2 a5 b1 b2 b5 c1 c2 c3 c4 c5
      replace A := pair_below (pair_far A nAS _ _) hv2
      replace B := pair_below (pair_far B nBS _ _) hv2
      replace PX := pair_below (pair_far PX nXS _ _) hv2
      replace PY := pair_below (pair_far PY nYS _ _) hv2
      replace PT := pair_below (pair_far PT nTS _ _) hv2
      replace PS := pair_below (pair_set PS (Sp.mulR al ah bl bh).1.1 (Sp.mulR al ah bl bh).1.2) hv2
      replace BW := bstep ((BW.setCell gS _).setCell gS _) hv2
      clear hv2
      have QQ : St w ((v2.setCell ⟨T, 0, none⟩ (.int .i64 (Sp.mulR xl xh yl yh).1.1)).setCell ⟨T, 1, none⟩ (.int .i64 (Sp.mulR xl xh yl yh).1.2)) X Y S T al ah bl bh xl xh yl yh :=
        ⟨pair_far A nAT _ _, pair_far B nBT _ _, pair_far PX nXT _ _, pair_far PY nYT _ _, ⟨_, _, pair_far PS nST _ _⟩, ⟨_, _, pair_set PT _ _⟩, (BW.setCell gT _).setCell gT _⟩
      obtain ⟨a1, a2, _, _, a5⟩ := PS
      obtain ⟨c1, c2, c3, c4, c5⟩ := PT
      clear A B PX PY BW
      go_upto_region 15 with fail
      go_cut [96] (fun sv wx => sv = .bool false ∧ St w wx X Y S T al ah bl bh xl xh yl yh)
      case first =>
        by_cases z : (Sp.mulR al ah bl bh).2 = 0
        · have z1 : ((Sp.mulR al ah bl bh).2 == 0) = true := beq_iff_eq.2 z
          have C := Lib.hid (fun W => C2.out z W)
          clear z
          go_wp2_with fail
          refine (C.out _).mono ?_
          rintro e v ⟨rfl, hv⟩
          go_wp2
          go_meet
          exact ⟨rfl, st_below QQ hv⟩
        · have z1 : ((Sp.mulR al ah bl bh).2 == 0) = false := beq_eq_false_iff_ne.2 z
          clear z
          go_wp2
          go_meet
          exact ⟨rfl, QQ⟩
      case rest =>
        obtain ⟨rfl, hst⟩ := hcut
        obtain ⟨A, B, PX, PY, ⟨s0, s1, PS⟩, ⟨t0, t1, PT⟩, BW⟩ := hst
        have A' := A; have B' := B
        obtain ⟨a1, a2, _, _, a5⟩ := A'
        obtain ⟨b1, b2, _, _, b5⟩ := B'
        go_wp2_with fail
        refine (div_any _ _ _ _ _).mono ?_
        rintro e v1 ⟨rfl, hv1⟩
        clear a1 a2 a5 b1 b2 b5
        replace A := pair_below A hv1
        replace B := pair_below B hv1
        replace PX := pair_below PX hv1
        replace PY := pair_below PY hv1
        replace PS := pair_below PS hv1
        replace PT := pair_below PT hv1
        replace BW := bstep BW hv1
        clear hv1
        have X' := PX; have Y' := PY; have S' := PS
        obtain ⟨a1, a2, _, _, a5⟩ := X'
        obtain ⟨b1, b2, _, _, b5⟩ := Y'
        obtain ⟨c1, c2, c3, c4, c5⟩ := S'
        go_wp2_with fail
        refine (div_any _ _ _ _ _).mono ?_
        rintro e v2 ⟨rfl, hv2⟩
        clear a1 a2 a5 b1 b2 b5 c1 c2 c3 c4 c5
        replace A := pair_below (pair_far A nAS _ _) hv2
        replace B := pair_below (pair_far B nBS _ _) hv2
        replace PX := pair_below (pair_far PX nXS _ _) hv2
        replace PY := pair_below (pair_far PY nYS _ _) hv2
        replace PT := pair_below (pair_far PT nTS _ _) hv2
        replace PS := pair_below (pair_set PS (Sp.divR al ah bl bh).1.1 (Sp.divR al ah bl bh).1.2) hv2
        replace BW := bstep ((BW.setCell gS _).setCell gS _) hv2
        clear hv2
        have QQ : St w ((v2.setCell ⟨T, 0, none⟩ (.int .i64 (Sp.divR xl xh yl yh).1.1)).setCell ⟨T, 1, none⟩ (.int .i64 (Sp.divR xl xh yl yh).1.2)) X Y S T al ah bl bh xl xh yl yh :=
          ⟨pair_far A nAT _ _, pair_far B nBT _ _, pair_far PX nXT _ _, pair_far PY nYT _ _, ⟨_, _, pair_far PS nST _ _⟩, ⟨_, _, pair_set PT _ _⟩, (BW.setCell gT _).setCell gT _⟩
        obtain ⟨a1, a2, _, _, a5⟩ := PS
        obtain ⟨c1, c2, c3, c4, c5⟩ := PT
        clear A B PX PY BW
        go_upto_region 19 with fail
        go_cut [117] (fun sv wx => sv = .bool false ∧ St w wx X Y S T al ah bl bh xl xh yl yh)
        case first =>
          by_cases z : (Sp.divR al ah bl bh).2 = 0
          · have z1 : ((Sp.divR al ah bl bh).2 == 0) = true := beq_iff_eq.2 z
            have C := Lib.hid (fun W => C3.out z W)
            clear z
            go_wp2_with fail
            refine (C.out _).mono ?_
            rintro e v ⟨rfl, hv⟩
            go_wp2
            go_meet
            exact ⟨rfl, st_below QQ hv⟩
          · have z1 : ((Sp.divR al ah bl bh).2 == 0) = false := beq_eq_false_iff_ne.2 z
            clear z
            go_wp2
            go_meet
            exact ⟨rfl, QQ⟩
        case rest =>
          obtain ⟨rfl, hst⟩ := hcut
          obtain ⟨A, B, PX, PY, ⟨s0, s1, PS⟩, ⟨t0, t1, PT⟩, BW⟩ := hst
          have A' := A; have B' := B
          obtain ⟨a1, a2, _, _, a5⟩ := A'
          obtain ⟨b1, b2, _, _, b5⟩ := B'
          go_wp2_with fail
          refine (sq_any _ _ _).mono ?_
          rintro e v1 ⟨rfl, hv1⟩
          clear a1 a2 a5 b1 b2 b5
          replace A := pair_below A hv1
          replace B := pair_below B hv1
          replace PX := pair_below PX hv1
          replace PY := pair_below PY hv1
          replace PS := pair_below PS hv1
          replace PT := pair_below PT hv1
          replace BW := bstep BW hv1
          clear hv1
          have X' := PX; have Y' := PY; have S' := PS
          obtain ⟨a1, a2, _, _, a5⟩ := X'
          obtain ⟨b1, b2, _, _, b5⟩ := Y'
          obtain ⟨c1, c2, c3, c4, c5⟩ := S'
          go_wp2_with fail
          refine (sq_any _ _ _).mono ?_
          rintro e v2 ⟨rfl, hv2⟩
          clear a1 a2 a5 b1 b2 b5 c1 c2 c3 c4 c5
          replace A := pair_below (pair_far A nAS _ _) hv2
          replace B := pair_below (pair_far B nBS _ _) hv2
          replace PX := pair_below (pair_far PX nXS _ _) hv2
          replace PY := pair_below (pair_far PY nYS _ _) hv2
          replace PT := pair_below (pair_far PT nTS _ _) hv2
          replace PS := pair_below (pair_set PS (Sp.sqR al ah).1.1 (Sp.sqR al ah).1.2) hv2
          replace BW := bstep ((BW.setCell gS _).setCell gS _) hv2
          clear hv2
          have QQ : St w ((v2.setCell ⟨T, 0, none⟩ (.int .i64 (Sp.sqR xl xh).1.1)).setCell ⟨T, 1, none⟩ (.int .i64 (Sp.sqR xl xh).1.2)) X Y S T al ah bl bh xl xh yl yh :=
            ⟨pair_far A nAT _ _, pair_far B nBT _ _, pair_far PX nXT _ _, pair_far PY nYT _ _, ⟨_, _, pair_far PS nST _ _⟩, ⟨_, _, pair_set PT _ _⟩, (BW.setCell gT _).setCell gT _⟩
          obtain ⟨a1, a2, _, _, a5⟩ := PS
          obtain ⟨c1, c2, c3, c4, c5⟩ := PT
          clear A B PX PY BW
          go_upto_region 23 with fail
          go_cut [136] (fun sv wx => sv = .bool false ∧ St w wx X Y S T al ah bl bh xl xh yl yh)
          case first =>
            by_cases z : (Sp.sqR al ah).2 = 0
            · have z1 : ((Sp.sqR al ah).2 == 0) = true := beq_iff_eq.2 z
              have C := Lib.hid (fun W => C4.out z W)
              clear z
              go_wp2_with fail
              refine (C.out _).mono ?_
              rintro e v ⟨rfl, hv⟩
              go_wp2
              go_meet
              exact ⟨rfl, st_below QQ hv⟩
            · have z1 : ((Sp.sqR al ah).2 == 0) = false := beq_eq_false_iff_ne.2 z
              clear z
              go_wp2
              go_meet
              exact ⟨rfl, QQ⟩
          case rest =>
            obtain ⟨rfl, hst⟩ := hcut
            obtain ⟨A, B, PX, PY, ⟨s0, s1, PS⟩, ⟨t0, t1, PT⟩, BW⟩ := hst
            have A' := A; have B' := B
            obtain ⟨a1, a2, _, _, a5⟩ := A'
            obtain ⟨b1, b2, _, _, b5⟩ := B'
            go_wp2_with fail
            refine (rt_any _ _ _).mono ?_
            rintro e v1 ⟨rfl, hv1⟩
            clear a1 a2 a5 b1 b2 b5
            replace A := pair_below A hv1
            replace B := pair_below B hv1
            replace PX := pair_below PX hv1
            replace PY := pair_below PY hv1
            replace PS := pair_below PS hv1
            replace PT := pair_below PT hv1
            replace BW := bstep BW hv1
            clear hv1
            have X' := PX; have Y' := PY; have S' := PS
            obtain ⟨a1, a2, _, _, a5⟩ := X'
            obtain ⟨b1, b2, _, _, b5⟩ := Y'
            obtain ⟨c1, c2, c3, c4, c5⟩ := S'
            go_wp2_with fail
            refine (rt_any _ _ _).mono ?_
            rintro e v2 ⟨rfl, hv2⟩
            clear a1 a2 a5 b1 b2 b5 c1 c2 c3 c4 c5
            replace A := pair_below (pair_far A nAS _ _) hv2
            replace B := pair_below (pair_far B nBS _ _) hv2
            replace PX := pair_below (pair_far PX nXS _ _) hv2
            replace PY := pair_below (pair_far PY nYS _ _) hv2
            replace PT := pair_below (pair_far PT nTS _ _) hv2
            replace PS := pair_below (pair_set PS (rootR al ah).1.1 (rootR al ah).1.2) hv2
            replace BW := bstep ((BW.setCell gS _).setCell gS _) hv2
            clear hv2
            have QQ : St w ((v2.setCell ⟨T, 0, none⟩ (.int .i64 (rootR xl xh).1.1)).setCell ⟨T, 1, none⟩ (.int .i64 (rootR xl xh).1.2)) X Y S T al ah bl bh xl xh yl yh :=
              ⟨pair_far A nAT _ _, pair_far B nBT _ _, pair_far PX nXT _ _, pair_far PY nYT _ _, ⟨_, _, pair_far PS nST _ _⟩, ⟨_, _, pair_set PT _ _⟩, (BW.setCell gT _).setCell gT _⟩
            obtain ⟨a1, a2, _, _, a5⟩ := PS
            obtain ⟨c1, c2, c3, c4, c5⟩ := PT
            clear A B PX PY BW
            have QB : Below w.heap.size w ((v2.setCell ⟨T, 0, none⟩ (.int .i64 (rootR xl xh).1.1)).setCell ⟨T, 1, none⟩ (.int .i64 (rootR xl xh).1.2)) := QQ.2.2.2.2.2.2
            clear QQ
            by_cases z : (rootR al ah).2 = 0
            · have z1 : ((rootR al ah).2 != 0) = false := by rw [z]; rfl
              have C := Lib.hid (fun W => C5.out z W)
              clear z
              go_wp2_with fail
              refine (C.out _).mono ?_
              rintro e v ⟨rfl, hv⟩
              go_wp2_with fail
              refine (known_any _).mono ?_
              rintro e v' ⟨rfl, hv'⟩
              go_wp2
              go_ret
              exact ⟨rfl, bstep (bstep QB hv) hv'⟩
            · have z1 : ((rootR al ah).2 != 0) = true := bne_iff_ne.2 z
              clear z
              go_wp2_with fail
              refine (known_any _).mono ?_
              rintro e v' ⟨rfl, hv'⟩
              go_wp2
              go_ret
              exact ⟨rfl, bstep QB hv'⟩

end Go.Proofs.Ythmlhpjhoolflaa
