/-
  The contracts of Neutral, in the program and in the document's answer.
-/
import Derived.Test.YtfpenkgkcjpknaaDoorMo5
namespace Go.Proofs.YtfpenkgkcjpknaaDoor
open Go.ChangeShapes Go.WideShapes Go.RowKit
open Sh
def z6 (m : Mo) : Prop := m.s0 = 0 ∧ m.s1 = 0 ∧ m.s2 = 0 ∧ m.s3 = 0 ∧ m.s4 = 0 ∧ m.s5 = 0
theorem mneut0 {m : Mo} (h : m.c ≠ 0) : mneut m = 0 := by unfold mneut; rw [if_pos h]
theorem mneut1 {m : Mo} (h : m.c = 0) (k : m.d ≠ (0, 0, 0)) : mneut m = 1 := by unfold mneut; rw [if_neg (by simp [h]), if_pos k]
theorem mneut2 {m : Mo} (h : m.c = 0) (k : m.d = (0, 0, 0)) (l : ¬ z6 m) : mneut m = 2 := by
  unfold mneut
  rw [if_neg (by simp [h]), if_neg (by simp [k]), if_pos]
  unfold z6 at l
  omega
theorem mneut3 {m : Mo} (h : m.c = 0) (k : m.d = (0, 0, 0)) (l : z6 m) : mneut m = 3 := by
  obtain ⟨h0, h1, h2, h3, h4, h5⟩ := l
  unfold mneut
  rw [if_neg (by simp [h]), if_neg (by simp [k]), if_neg (by simp [h0, h1, h2, h3, h4, h5])]
theorem mneut1' {m : Mo} (h : m.c = 0) (k : ¬ (m.d.1 = 0 ∧ m.d.2.1 = 0 ∧ m.d.2.2 = 0)) : mneut m = 1 := mneut1 h (fun e => k (by rw [e]; exact ⟨rfl, rfl, rfl⟩))
set_option maxRecDepth 100000 in
/-- six numbers held against zeros -/
theorem eq6 (a0 a1 a2 a3 a4 a5 : Int) (w : World) : (Op.equalIn 10000 26 (.agg #[.int .i64 a0, .int .i64 a1, .int .i64 a2, .int .i64 a3, .int .i64 a4, .int .i64 a5]) (.agg #[.int .i64 0, .int .i64 0, .int .i64 0, .int .i64 0, .int .i64 0, .int .i64 0])).run Tryd.prog w = .ok (decide (a0 = 0 ∧ a1 = 0 ∧ a2 = 0 ∧ a3 = 0 ∧ a4 = 0 ∧ a5 = 0)) w := by
  obtain ⟨i, hi⟩ : ∃ i, Tryd.prog.info? 3 = some i := by
    cases h : Tryd.prog.info? 3 with
    | none => exact absurd h (by decide +kernel)
    | some i => exact ⟨i, rfl⟩
  have h1 : Tryd.prog.cellsOf 3 = 1 := by kernel_rfl
  rw [show (10000 : Nat) = 9999 + 1 from rfl, run_equalIn_array w 9999 _ _ Tryd.underlying26 hi, h1]
  simp [Op.eqItems, List.range, List.range.loop]
  go_simp
  repeat' split
  all_goals first | simp [*] | rfl
theorem neut_bad (m : Mo) (w : World) (h : mokB m = false) :
    Calls Tryd.prog 20 #[mov m] w fun e w' => e = .returned (.tuple #[.int .i64 0, .int .i64 1]) ∧ Below w.heap.size w w' := by
  have V := Lib.hid (fun W => mval_bad m W h)
  clear h
  go_enter Tryd.func20, Tryd.ntmps20
  go_wp2_with fail
  refine (V.out _).mono ?_
  rintro e w1 ⟨rfl, hb1⟩
  go_wp2
  go_ret2
  exact ⟨rfl, by (repeat' (first | exact Below.refl _ _ | refine bstep ?_ hb1 | refine Below.setCell ?_ (by simp <;> omega) _ | refine balloc ?_ _ | refine Below.drew ?_ | refine bdrewN ?_ _))⟩
theorem neut_0 (m : Mo) (w : World) (h : mokB m = true) (hc : m.c ≠ 0) :
    Calls Tryd.prog 20 #[mov m] w fun e w' => e = .returned (.tuple #[.int .i64 0, .int .i64 0]) ∧ Below w.heap.size w w' := by
  have HC := Lib.hid (int_ne0 hc)
  clear hc
  have V := Lib.hid (fun W => mval_ok m W h)
  clear h
  go_enter Tryd.func20, Tryd.ntmps20
  go_wp2_with fail
  refine (V.out _).mono ?_
  rintro e w1 ⟨rfl, hb1⟩
  have OM := Lib.hid (ownMo_below (ownMo_new w m 28) hb1)
  obtain ⟨⟨x0, x1, x2, x3, x4, x5, x6, x7, x8, x9, x10⟩, _, ll⟩ := OM.out
  have c1 := HC.out
  go_wp2
  go_ret2
  exact ⟨rfl, by (repeat' (first | exact Below.refl _ _ | refine bstep ?_ hb1 | refine Below.setCell ?_ (by simp <;> omega) _ | refine balloc ?_ _ | refine Below.drew ?_ | refine bdrewN ?_ _))⟩
set_option maxRecDepth 100000 in
theorem neut_1 (m : Mo) (w : World) (h : mokB m = true) (hc : m.c = 0) (hd : ¬ (m.d.1 = 0 ∧ m.d.2.1 = 0 ∧ m.d.2.2 = 0)) :
    Calls Tryd.prog 20 #[mov m] w fun e w' => e = .returned (.tuple #[.int .i64 1, .int .i64 0]) ∧ Below w.heap.size w w' := by
  have HC := Lib.hid hc
  have HD := Lib.hid hd
  clear hc hd
  have V := Lib.hid (fun W => mval_ok m W h)
  clear h
  go_enter Tryd.func20, Tryd.ntmps20
  go_wp2_with fail
  refine (V.out _).mono ?_
  rintro e w1 ⟨rfl, hb1⟩
  have OM := Lib.hid (ownMo_below (ownMo_new w m 28) hb1)
  obtain ⟨⟨x0, x1, x2, x3, x4, x5, x6, x7, x8, x9, x10⟩, _, ll⟩ := OM.out
  have c1 := HC.out
  go_wp2
  all_goals first
    | exact absurd (And.intro (by assumption) (And.intro (by assumption) (by assumption))) HD.out
    | (go_ret2; exact ⟨rfl, by (repeat' (first | exact Below.refl _ _ | refine bstep ?_ hb1 | refine Below.setCell ?_ (by simp <;> omega) _ | refine balloc ?_ _ | refine Below.drew ?_ | refine bdrewN ?_ _))⟩)
set_option maxRecDepth 100000 in
theorem neut_2 (m : Mo) (w : World) (h : mokB m = true) (hc : m.c = 0) (hd : m.d.1 = 0 ∧ m.d.2.1 = 0 ∧ m.d.2.2 = 0) (hz : ¬ z6 m) :
    Calls Tryd.prog 20 #[mov m] w fun e w' => e = .returned (.tuple #[.int .i64 2, .int .i64 0]) ∧ Below w.heap.size w w' := by
  have HC := Lib.hid hc
  have HD := Lib.hid hd
  have E6 := Lib.hid (fun W => (show decide (m.s0 = 0 ∧ m.s1 = 0 ∧ m.s2 = 0 ∧ m.s3 = 0 ∧ m.s4 = 0 ∧ m.s5 = 0) = false from decide_eq_false hz) ▸ eq6 m.s0 m.s1 m.s2 m.s3 m.s4 m.s5 W)
  clear hc hd hz
  have V := Lib.hid (fun W => mval_ok m W h)
  clear h
  go_enter Tryd.func20, Tryd.ntmps20
  go_wp2_with fail
  refine (V.out _).mono ?_
  rintro e w1 ⟨rfl, hb1⟩
  have OM := Lib.hid (ownMo_below (ownMo_new w m 28) hb1)
  obtain ⟨⟨x0, x1, x2, x3, x4, x5, x6, x7, x8, x9, x10⟩, _, ll⟩ := OM.out
  have c1 := HC.out
  obtain ⟨d1, d2, d3⟩ := HD.out
  have e6 := E6.out
  go_wp2
  go_ret2
  exact ⟨rfl, by (repeat' (first | exact Below.refl _ _ | refine bstep ?_ hb1 | refine Below.setCell ?_ (by simp <;> omega) _ | refine balloc ?_ _ | refine Below.drew ?_ | refine bdrewN ?_ _))⟩
set_option maxRecDepth 100000 in
theorem neut_3 (m : Mo) (w : World) (h : mokB m = true) (hc : m.c = 0) (hd : m.d.1 = 0 ∧ m.d.2.1 = 0 ∧ m.d.2.2 = 0) (hz : z6 m) :
    Calls Tryd.prog 20 #[mov m] w fun e w' => e = .returned (.tuple #[.int .i64 3, .int .i64 0]) ∧ Below w.heap.size w w' := by
  have HC := Lib.hid hc
  have HD := Lib.hid hd
  have E6 := Lib.hid (fun W => (show decide (m.s0 = 0 ∧ m.s1 = 0 ∧ m.s2 = 0 ∧ m.s3 = 0 ∧ m.s4 = 0 ∧ m.s5 = 0) = true from decide_eq_true hz) ▸ eq6 m.s0 m.s1 m.s2 m.s3 m.s4 m.s5 W)
  clear hc hd hz
  have V := Lib.hid (fun W => mval_ok m W h)
  clear h
  go_enter Tryd.func20, Tryd.ntmps20
  go_wp2_with fail
  refine (V.out _).mono ?_
  rintro e w1 ⟨rfl, hb1⟩
  have OM := Lib.hid (ownMo_below (ownMo_new w m 28) hb1)
  obtain ⟨⟨x0, x1, x2, x3, x4, x5, x6, x7, x8, x9, x10⟩, _, ll⟩ := OM.out
  have c1 := HC.out
  obtain ⟨d1, d2, d3⟩ := HD.out
  have e6 := E6.out
  go_wp2
  go_ret2
  exact ⟨rfl, by (repeat' (first | exact Below.refl _ _ | refine bstep ?_ hb1 | refine Below.setCell ?_ (by simp <;> omega) _ | refine balloc ?_ _ | refine Below.drew ?_ | refine bdrewN ?_ _))⟩
theorem neut_any (m : Mo) (w : World) : Calls Tryd.prog 20 #[mov m] w fun e w' => e = .returned (.tuple #[.int .i64 (if mokB m then mneut m else 0), .int .i64 (mcode m)]) ∧ Below w.heap.size w w' := by
  unfold mcode
  cases h : mokB m with
  | false => exact neut_bad m w h
  | true =>
    rw [if_pos rfl, if_pos rfl]
    by_cases hc : m.c = 0
    · by_cases hd : m.d.1 = 0 ∧ m.d.2.1 = 0 ∧ m.d.2.2 = 0
      · have e : m.d = (0, 0, 0) := p3_zero hd.1 hd.2.1 hd.2.2
        by_cases hz : z6 m
        · rw [mneut3 hc e hz]; exact neut_3 m w h hc hd hz
        · rw [mneut2 hc e hz]; exact neut_2 m w h hc hd hz
      · rw [mneut1' hc hd]; exact neut_1 m w h hc hd
    · rw [mneut0 hc]; exact neut_0 m w h hc
theorem rneut_bad (m : Mo) (w : World) (h : mokB m = false) :
    Calls Tryd.prog 21 #[mov m] w fun e w' => e = .returned (.tuple #[.int .i64 0, .int .i64 1]) ∧ Below w.heap.size w w' := by
  have V := Lib.hid (fun W => rmval_bad m W h)
  clear h
  go_enter Tryd.func21, Tryd.ntmps21
  go_wp2_with fail
  refine (V.out _).mono ?_
  rintro e w1 ⟨rfl, hb1⟩
  go_wp2
  go_ret2
  exact ⟨rfl, by (repeat' (first | exact Below.refl _ _ | refine bstep ?_ hb1 | refine Below.setCell ?_ (by simp <;> omega) _ | refine balloc ?_ _ | refine Below.drew ?_ | refine bdrewN ?_ _))⟩
theorem rneut_0 (m : Mo) (w : World) (h : mokB m = true) (hc : m.c ≠ 0) :
    Calls Tryd.prog 21 #[mov m] w fun e w' => e = .returned (.tuple #[.int .i64 0, .int .i64 0]) ∧ Below w.heap.size w w' := by
  have HC := Lib.hid (int_ne0 hc)
  clear hc
  have V := Lib.hid (fun W => rmval_ok m W h)
  clear h
  go_enter Tryd.func21, Tryd.ntmps21
  go_wp2_with fail
  refine (V.out _).mono ?_
  rintro e w1 ⟨rfl, hb1⟩
  have OM := Lib.hid (ownMo_below (ownMo_new w m 28) hb1)
  obtain ⟨⟨x0, x1, x2, x3, x4, x5, x6, x7, x8, x9, x10⟩, _, ll⟩ := OM.out
  have c1 := HC.out
  go_wp2
  go_ret2
  exact ⟨rfl, by (repeat' (first | exact Below.refl _ _ | refine bstep ?_ hb1 | refine Below.setCell ?_ (by simp <;> omega) _ | refine balloc ?_ _ | refine Below.drew ?_ | refine bdrewN ?_ _))⟩
set_option maxRecDepth 100000 in
theorem rneut_1 (m : Mo) (w : World) (h : mokB m = true) (hc : m.c = 0) (hd : ¬ (m.d.1 = 0 ∧ m.d.2.1 = 0 ∧ m.d.2.2 = 0)) :
    Calls Tryd.prog 21 #[mov m] w fun e w' => e = .returned (.tuple #[.int .i64 1, .int .i64 0]) ∧ Below w.heap.size w w' := by
  have HC := Lib.hid hc
  have HD := Lib.hid hd
  clear hc hd
  have V := Lib.hid (fun W => rmval_ok m W h)
  clear h
  go_enter Tryd.func21, Tryd.ntmps21
  go_wp2_with fail
  refine (V.out _).mono ?_
  rintro e w1 ⟨rfl, hb1⟩
  have OM := Lib.hid (ownMo_below (ownMo_new w m 28) hb1)
  obtain ⟨⟨x0, x1, x2, x3, x4, x5, x6, x7, x8, x9, x10⟩, _, ll⟩ := OM.out
  have c1 := HC.out
  go_wp2
  all_goals first
    | exact absurd (And.intro (by assumption) (And.intro (by assumption) (by assumption))) HD.out
    | (go_ret2; exact ⟨rfl, by (repeat' (first | exact Below.refl _ _ | refine bstep ?_ hb1 | refine Below.setCell ?_ (by simp <;> omega) _ | refine balloc ?_ _ | refine Below.drew ?_ | refine bdrewN ?_ _))⟩)
set_option maxRecDepth 100000 in
theorem rneut_2 (m : Mo) (w : World) (h : mokB m = true) (hc : m.c = 0) (hd : m.d.1 = 0 ∧ m.d.2.1 = 0 ∧ m.d.2.2 = 0) (hz : ¬ z6 m) :
    Calls Tryd.prog 21 #[mov m] w fun e w' => e = .returned (.tuple #[.int .i64 2, .int .i64 0]) ∧ Below w.heap.size w w' := by
  have HC := Lib.hid hc
  have HD := Lib.hid hd
  have E6 := Lib.hid (fun W => (show decide (m.s0 = 0 ∧ m.s1 = 0 ∧ m.s2 = 0 ∧ m.s3 = 0 ∧ m.s4 = 0 ∧ m.s5 = 0) = false from decide_eq_false hz) ▸ eq6 m.s0 m.s1 m.s2 m.s3 m.s4 m.s5 W)
  clear hc hd hz
  have V := Lib.hid (fun W => rmval_ok m W h)
  clear h
  go_enter Tryd.func21, Tryd.ntmps21
  go_wp2_with fail
  refine (V.out _).mono ?_
  rintro e w1 ⟨rfl, hb1⟩
  have OM := Lib.hid (ownMo_below (ownMo_new w m 28) hb1)
  obtain ⟨⟨x0, x1, x2, x3, x4, x5, x6, x7, x8, x9, x10⟩, _, ll⟩ := OM.out
  have c1 := HC.out
  obtain ⟨d1, d2, d3⟩ := HD.out
  have e6 := E6.out
  go_wp2
  go_ret2
  exact ⟨rfl, by (repeat' (first | exact Below.refl _ _ | refine bstep ?_ hb1 | refine Below.setCell ?_ (by simp <;> omega) _ | refine balloc ?_ _ | refine Below.drew ?_ | refine bdrewN ?_ _))⟩
set_option maxRecDepth 100000 in
theorem rneut_3 (m : Mo) (w : World) (h : mokB m = true) (hc : m.c = 0) (hd : m.d.1 = 0 ∧ m.d.2.1 = 0 ∧ m.d.2.2 = 0) (hz : z6 m) :
    Calls Tryd.prog 21 #[mov m] w fun e w' => e = .returned (.tuple #[.int .i64 3, .int .i64 0]) ∧ Below w.heap.size w w' := by
  have HC := Lib.hid hc
  have HD := Lib.hid hd
  have E6 := Lib.hid (fun W => (show decide (m.s0 = 0 ∧ m.s1 = 0 ∧ m.s2 = 0 ∧ m.s3 = 0 ∧ m.s4 = 0 ∧ m.s5 = 0) = true from decide_eq_true hz) ▸ eq6 m.s0 m.s1 m.s2 m.s3 m.s4 m.s5 W)
  clear hc hd hz
  have V := Lib.hid (fun W => rmval_ok m W h)
  clear h
  go_enter Tryd.func21, Tryd.ntmps21
  go_wp2_with fail
  refine (V.out _).mono ?_
  rintro e w1 ⟨rfl, hb1⟩
  have OM := Lib.hid (ownMo_below (ownMo_new w m 28) hb1)
  obtain ⟨⟨x0, x1, x2, x3, x4, x5, x6, x7, x8, x9, x10⟩, _, ll⟩ := OM.out
  have c1 := HC.out
  obtain ⟨d1, d2, d3⟩ := HD.out
  have e6 := E6.out
  go_wp2
  go_ret2
  exact ⟨rfl, by (repeat' (first | exact Below.refl _ _ | refine bstep ?_ hb1 | refine Below.setCell ?_ (by simp <;> omega) _ | refine balloc ?_ _ | refine Below.drew ?_ | refine bdrewN ?_ _))⟩
theorem rneut_any (m : Mo) (w : World) : Calls Tryd.prog 21 #[mov m] w fun e w' => e = .returned (.tuple #[.int .i64 (if mokB m then mneut m else 0), .int .i64 (mcode m)]) ∧ Below w.heap.size w w' := by
  unfold mcode
  cases h : mokB m with
  | false => exact rneut_bad m w h
  | true =>
    rw [if_pos rfl, if_pos rfl]
    by_cases hc : m.c = 0
    · by_cases hd : m.d.1 = 0 ∧ m.d.2.1 = 0 ∧ m.d.2.2 = 0
      · have e : m.d = (0, 0, 0) := p3_zero hd.1 hd.2.1 hd.2.2
        by_cases hz : z6 m
        · rw [mneut3 hc e hz]; exact rneut_3 m w h hc hd hz
        · rw [mneut2 hc e hz]; exact rneut_2 m w h hc hd hz
      · rw [mneut1' hc hd]; exact rneut_1 m w h hc hd
    · rw [mneut0 hc]; exact rneut_0 m w h hc

end Go.Proofs.YtfpenkgkcjpknaaDoor
