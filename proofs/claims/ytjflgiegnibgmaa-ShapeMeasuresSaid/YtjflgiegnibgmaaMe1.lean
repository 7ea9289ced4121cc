/-
  The contracts of both Volume6, of Center24 where the mesh is not valid, and of area.
-/
import Derived.Test.YtjflgiegnibgmaaRAny
import Derived.Test.YtjflgiegnibgmaaLen
import Derived.Test.YtjflgiegnibgmaaPart
import Derived.Test.YtjflgiegnibgmaaSumm
import Derived.OwnWalk
namespace Go.Proofs.Ytjflgiegnibgmaa
open Go.ChangeShapes Go.WideShapes Go.RowKit
open Sh
theorem s6_no (a : Option Addr) (np c : Nat) (a' : Option Addr) (nf c' : Nat) (code : Int) (w : World) (V : Hid (∀ W, Below w.heap.size w W → Calls Try.prog 22 #[msv a np c a' nf c'] W fun e w' => e = .returned (.int .i64 code) ∧ Below W.heap.size W w')) (z : code ≠ 0) : Calls Try.prog 8 #[msv a np c a' nf c'] w fun e w' => e = .returned (.tuple #[.int .i64 0, .int .i64 code]) ∧ Below w.heap.size w w' := by
  have z1 : (code != 0) = true := bne_iff_ne.2 z
  clear z
  go_enter Try.func8, Try.ntmps8
  go_wp2_with fail
  refine (V.out _ (by (repeat' (first | exact Below.refl _ _ | refine Below.setCell ?_ (by simp <;> omega) _ | refine balloc ?_ _ | refine Below.drew ?_ | refine bdrewN ?_ _)))).mono ?_
  rintro e w1 ⟨rfl, hb1⟩
  have B1 := Lib.hid (bstep (balloc (Below.refl _ w) _) hb1)
  clear hb1
  go_wp2
  go_ret2
  exact ⟨rfl, B1.out⟩
theorem s6_ok (a : Option Addr) (np c : Nat) (a' : Option Addr) (nf c' : Nat) (v : Int) (w : World) (V : Hid (∀ W, Below w.heap.size w W → Calls Try.prog 22 #[msv a np c a' nf c'] W fun e w' => e = .returned (.int .i64 0) ∧ Below W.heap.size W w')) (VC : Hid (∀ W, Below w.heap.size w W → Calls Try.prog 23 #[msv a np c a' nf c'] W fun e w' => e = .returned (.int .i64 v) ∧ Below W.heap.size W w')) : Calls Try.prog 8 #[msv a np c a' nf c'] w fun e w' => e = .returned (.tuple #[.int .i64 v, .int .i64 0]) ∧ Below w.heap.size w w' := by
  go_enter Try.func8, Try.ntmps8
  go_wp2_with fail
  refine (V.out _ (by (repeat' (first | exact Below.refl _ _ | refine Below.setCell ?_ (by simp <;> omega) _ | refine balloc ?_ _ | refine Below.drew ?_ | refine bdrewN ?_ _)))).mono ?_
  rintro e w1 ⟨rfl, hb1⟩
  have B1 := Lib.hid (bstep (balloc (Below.refl _ w) _) hb1)
  obtain ⟨m1, m2, m3⟩ := mes_below (mes_new w a np c a' nf c' 25) hb1
  clear hb1
  go_wp2_with fail
  refine (VC.out _ B1.out).mono ?_
  rintro e w2 ⟨rfl, hb2⟩
  have B2 := bstep B1.out hb2
  go_wp2
  go_ret2
  exact ⟨rfl, B2⟩
theorem r6_no (a : Option Addr) (np c : Nat) (a' : Option Addr) (nf c' : Nat) (code : Int) (w : World) (V : Hid (∀ W, Below w.heap.size w W → Calls Try.prog 24 #[msv a np c a' nf c'] W fun e w' => e = .returned (.int .i64 code) ∧ Below W.heap.size W w')) (z : code ≠ 0) : Calls Try.prog 9 #[msv a np c a' nf c'] w fun e w' => e = .returned (.tuple #[.int .i64 0, .int .i64 code]) ∧ Below w.heap.size w w' := by
  have z1 : (code != 0) = true := bne_iff_ne.2 z
  clear z
  go_enter Try.func9, Try.ntmps9
  go_wp2_with fail
  refine (V.out _ (by (repeat' (first | exact Below.refl _ _ | refine Below.setCell ?_ (by simp <;> omega) _ | refine balloc ?_ _ | refine Below.drew ?_ | refine bdrewN ?_ _)))).mono ?_
  rintro e w1 ⟨rfl, hb1⟩
  have B1 := Lib.hid (bstep (balloc (Below.refl _ w) _) hb1)
  clear hb1
  go_wp2
  go_ret2
  exact ⟨rfl, B1.out⟩
theorem r6_ok (a : Option Addr) (np c : Nat) (a' : Option Addr) (nf c' : Nat) (v : Int) (w : World) (V : Hid (∀ W, Below w.heap.size w W → Calls Try.prog 24 #[msv a np c a' nf c'] W fun e w' => e = .returned (.int .i64 0) ∧ Below W.heap.size W w')) (VC : Hid (∀ W, Below w.heap.size w W → Calls Try.prog 25 #[msv a np c a' nf c'] W fun e w' => e = .returned (.int .i64 v) ∧ Below W.heap.size W w')) : Calls Try.prog 9 #[msv a np c a' nf c'] w fun e w' => e = .returned (.tuple #[.int .i64 v, .int .i64 0]) ∧ Below w.heap.size w w' := by
  go_enter Try.func9, Try.ntmps9
  go_wp2_with fail
  refine (V.out _ (by (repeat' (first | exact Below.refl _ _ | refine Below.setCell ?_ (by simp <;> omega) _ | refine balloc ?_ _ | refine Below.drew ?_ | refine bdrewN ?_ _)))).mono ?_
  rintro e w1 ⟨rfl, hb1⟩
  have B1 := Lib.hid (bstep (balloc (Below.refl _ w) _) hb1)
  obtain ⟨m1, m2, m3⟩ := mes_below (mes_new w a np c a' nf c' 25) hb1
  clear hb1
  go_wp2_with fail
  refine (VC.out _ B1.out).mono ?_
  rintro e w2 ⟨rfl, hb2⟩
  have B2 := bstep B1.out hb2
  go_wp2
  go_ret2
  exact ⟨rfl, B2⟩
theorem s6_any (a : Option Addr) (np c : Nat) (a' : Option Addr) (nf c' : Nat) (P F : Nat → P3) (w : World) (rp : Lst w a np P) (rf : Lst w a' nf F) (hn : np ≤ 1000000) (hm : nf ≤ 1000000) : Calls Try.prog 8 #[msv a np c a' nf c'] w fun e w' => e = .returned (.tuple #[.int .i64 (if vcode ⟨np, nf, P, F⟩ = 0 then vol P F nf else 0), .int .i64 (vcode ⟨np, nf, P, F⟩)]) ∧ Below w.heap.size w w' := by
  have V := fun W (B : Below w.heap.size w W) => val_any a np c a' nf c' P F W (lst_below rp B) (lst_below rf B) hn hm
  by_cases z : vcode ⟨np, nf, P, F⟩ = 0
  · obtain ⟨h1, h2, h3, h4, h5, h6⟩ := vcode_rows z
    obtain ⟨b', off', rfl, rF⟩ := rf h3
    obtain ⟨b, off, rfl, rP⟩ := rp h1
    rw [z] at V
    rw [if_pos z, z]
    exact s6_ok _ np c _ nf c' _ w (Lib.hid V) (Lib.hid fun W B => by exact vol_row b off np c b' off' nf c' P F W (row3_below rP B) (row3_below rF B) (by omega) (by omega) h3 h5 h6)
  · rw [if_neg z]
    exact s6_no a np c a' nf c' _ w (Lib.hid V) z
theorem r6_any (a : Option Addr) (np c : Nat) (a' : Option Addr) (nf c' : Nat) (P F : Nat → P3) (w : World) (rp : Lst w a np P) (rf : Lst w a' nf F) (hn : np ≤ 1000000) (hm : nf ≤ 1000000) : Calls Try.prog 9 #[msv a np c a' nf c'] w fun e w' => e = .returned (.tuple #[.int .i64 (if vcode ⟨np, nf, P, F⟩ = 0 then vol P F nf else 0), .int .i64 (vcode ⟨np, nf, P, F⟩)]) ∧ Below w.heap.size w w' := by
  have V := fun W (B : Below w.heap.size w W) => rval_any a np c a' nf c' P F W (lst_below rp B) (lst_below rf B) hn hm
  by_cases z : vcode ⟨np, nf, P, F⟩ = 0
  · obtain ⟨h1, h2, h3, h4, h5, h6⟩ := vcode_rows z
    obtain ⟨b', off', rfl, rF⟩ := rf h3
    obtain ⟨b, off, rfl, rP⟩ := rp h1
    rw [z] at V
    rw [if_pos z, z]
    exact r6_ok _ np c _ nf c' _ w (Lib.hid V) (Lib.hid fun W B => by exact rvol_row b off np c b' off' nf c' P F W (row3_below rP B) (row3_below rF B) (by omega) (by omega) h5 h6)
  · rw [if_neg z]
    exact r6_no a np c a' nf c' _ w (Lib.hid V) z
theorem cen_no (a : Option Addr) (np c : Nat) (a' : Option Addr) (nf c' : Nat) (code : Int) (w : World) (V : Hid (∀ W, Below w.heap.size w W → Calls Try.prog 22 #[msv a np c a' nf c'] W fun e w' => e = .returned (.int .i64 code) ∧ Below W.heap.size W w')) (z : code ≠ 0) : Calls Try.prog 10 #[msv a np c a' nf c'] w fun e w' => e = .returned (.tuple #[ptv (0, 0, 0), .int .i64 code]) ∧ Below w.heap.size w w' := by
  have z1 : (code != 0) = true := bne_iff_ne.2 z
  clear z
  go_enter Try.func10, Try.ntmps10
  go_wp2_with fail
  refine (V.out _ (by (repeat' (first | exact Below.refl _ _ | refine Below.setCell ?_ (by simp <;> omega) _ | refine balloc ?_ _ | refine Below.drew ?_ | refine bdrewN ?_ _)))).mono ?_
  rintro e w1 ⟨rfl, hb1⟩
  have Q1 := Lib.hid (own_below (own_new (w.alloc _) (0, 0, 0) _) hb1)
  simp only [World.size_alloc] at Q1
  have B1 := Lib.hid (bstep (balloc (balloc (Below.refl _ w) _) _) hb1)
  clear hb1
  obtain ⟨x1, x2, x3, x4, x5, x6, x7⟩ := Q1.out
  go_wp2
  refine bodyPost_ret (v := .tuple #[ptv (0, 0, 0), .int .i64 code]) (by rw [results_cell_tmp rfl]; go_simp) rfl ⟨rfl, ?_⟩
  exact below_set3 B1.out (by omega)
theorem rcen_no (a : Option Addr) (np c : Nat) (a' : Option Addr) (nf c' : Nat) (code : Int) (w : World) (V : Hid (∀ W, Below w.heap.size w W → Calls Try.prog 24 #[msv a np c a' nf c'] W fun e w' => e = .returned (.int .i64 code) ∧ Below W.heap.size W w')) (z : code ≠ 0) : Calls Try.prog 11 #[msv a np c a' nf c'] w fun e w' => e = .returned (.tuple #[ptv (0, 0, 0), .int .i64 code]) ∧ Below w.heap.size w w' := by
  have z1 : (code != 0) = true := bne_iff_ne.2 z
  clear z
  go_enter Try.func11, Try.ntmps11
  go_wp2_with fail
  refine (V.out _ (by (repeat' (first | exact Below.refl _ _ | refine Below.setCell ?_ (by simp <;> omega) _ | refine balloc ?_ _ | refine Below.drew ?_ | refine bdrewN ?_ _)))).mono ?_
  rintro e w1 ⟨rfl, hb1⟩
  have Q1 := Lib.hid (own_below (own_new (w.alloc _) (0, 0, 0) _) hb1)
  simp only [World.size_alloc] at Q1
  have B1 := Lib.hid (bstep (balloc (balloc (Below.refl _ w) _) _) hb1)
  clear hb1
  obtain ⟨x1, x2, x3, x4, x5, x6, x7⟩ := Q1.out
  go_wp2
  refine bodyPost_ret (v := .tuple #[ptv (0, 0, 0), .int .i64 code]) (by rw [results_cell_tmp rfl]; go_simp) rfl ⟨rfl, ?_⟩
  exact below_set3 B1.out (by omega)
theorem scen_any (a : Option Addr) (np c : Nat) (a' : Option Addr) (nf c' : Nat) (P F : Nat → P3) (w : World) (rp : Lst w a np P) (rf : Lst w a' nf F) (hn : np ≤ 1000000) (hm : nf ≤ 1000000) : Calls Try.prog 10 #[msv a np c a' nf c'] w fun e w' => e = .returned (.tuple #[ptv (if vcode ⟨np, nf, P, F⟩ = 0 then cen P F nf else (0, 0, 0)), .int .i64 (vcode ⟨np, nf, P, F⟩)]) ∧ Below w.heap.size w w' := by
  have V := fun W (B : Below w.heap.size w W) => val_any a np c a' nf c' P F W (lst_below rp B) (lst_below rf B) hn hm
  by_cases z : vcode ⟨np, nf, P, F⟩ = 0
  · obtain ⟨h1, h2, h3, h4, h5, h6⟩ := vcode_rows z
    obtain ⟨b', off', rfl, rF⟩ := rf h3
    obtain ⟨b, off, rfl, rP⟩ := rp h1
    rw [z] at V
    rw [if_pos z, z]
    exact cen_row b off np c b' off' nf c' P F w (Lib.hid V) (Lib.hid fun W B => panels_row b off np c b' off' nf c' P F W (row3_below rP B) (row3_below rF B) (by omega) (by omega) h3 h5) h3 (by omega) h6
  · rw [if_neg z]
    exact cen_no a np c a' nf c' _ w (Lib.hid V) z
/-- the span of a triangle's area, from the square of its normal's length -/
def arR (x : Nat) : Sp.R := Sp.told (Sp.fl ((Rt.isq (x * 1099511627776) : Nat) : Int) 2) (Sp.ce ((Rt.csq (x * 1099511627776) : Nat) : Int) 2)
theorem isq30 {x : Nat} (h : x ≤ 4294967296) : ((Rt.isq (x * 1099511627776) : Nat) : Int) ≤ 68719476736 ∧ ((Rt.isq (x * 1099511627776) : Nat) : Int) ≤ ((Rt.csq (x * 1099511627776) : Nat) : Int) ∧ ((Rt.csq (x * 1099511627776) : Nat) : Int) ≤ 68719476737 := by
  have a := Rt.isq_lt (n := x * 1099511627776) (b := 68719476737) (by omega)
  have b := csq_iff (x * 1099511627776)
  rcases Nat.lt_or_ge (Rt.isq (x * 1099511627776) * Rt.isq (x * 1099511627776)) (x * 1099511627776) with c | c
  · rw [b.1 c]; omega
  · rw [b.2 c]; omega
theorem told_len2 {x : Nat} (h : x ≤ 4294967296) : Sp.told ((Rt.isq (x * 1099511627776) : Nat) : Int) ((Rt.csq (x * 1099511627776) : Nat) : Int) = ((((Rt.isq (x * 1099511627776) : Nat) : Int), ((Rt.csq (x * 1099511627776) : Nat) : Int)), 0) := by
  have := isq30 h
  exact Sp.told_yes (Sp.vld_iff.2 (by omega))
theorem part_len {x : Nat} (h : x ≤ 4294967296) : partR ((Rt.isq (x * 1099511627776) : Nat) : Int) ((Rt.csq (x * 1099511627776) : Nat) : Int) 2 = arR x := by
  have := isq30 h
  unfold partR arR
  exact if_pos ⟨Sp.vld_iff.2 (by omega), by omega, by omega⟩
theorem arR_ok {x : Nat} (h : x ≤ 4294967296) : arR x = ((Sp.fl ((Rt.isq (x * 1099511627776) : Nat) : Int) 2, Sp.ce ((Rt.csq (x * 1099511627776) : Nat) : Int) 2), 0) ∧ Sp.vldB (Sp.fl ((Rt.isq (x * 1099511627776) : Nat) : Int) 2) (Sp.ce ((Rt.csq (x * 1099511627776) : Nat) : Int) 2) = true := by
  have := isq30 h
  have v : Sp.vldB (Sp.fl ((Rt.isq (x * 1099511627776) : Nat) : Int) 2) (Sp.ce ((Rt.csq (x * 1099511627776) : Nat) : Int) 2) = true := by
    refine Sp.vld_iff.2 ?_
    unfold Sp.ce
    rw [Sp.fl_pos (by omega), Sp.fl_pos (by omega)]
    omega
  exact ⟨Sp.told_yes v, v⟩
/-- the square of the length of a triangle's normal -/
def nn (t : P3 × P3 × P3) : Nat := (dot (nrm t.1 t.2.1 t.2.2) (nrm t.1 t.2.1 t.2.2)).toNat
def al (t : P3 × P3 × P3) : Int := Sp.fl ((Rt.isq (nn t * 1099511627776) : Nat) : Int) 2
def ah (t : P3 × P3 × P3) : Int := Sp.ce ((Rt.csq (nn t * 1099511627776) : Nat) : Int) 2
theorem nn_bd {a b c : P3} (h : BdP 64 a) (k : BdP 64 b) (l : BdP 64 c) : nn (a, b, c) ≤ 4294967296 ∧ dot (nrm a b c) (nrm a b c) = (nn (a, b, c) : Int) ∧ BdP 1152921504606846976 (pw (nrm a b c) (nrm a b c)) := by
  have n := nrm_bd h k l
  have d := dot_bd n n
  obtain ⟨n1, n2, n3, n4, n5, n6⟩ := n
  have p1 := mul_bd n1 n2 n1 n2
  have p2 := mul_bd n3 n4 n3 n4
  have p3 := mul_bd n5 n6 n5 n6
  have q (x : Int) : 0 ≤ x * x := by
    rcases Int.le_total 0 x with c | c
    · exact Int.mul_nonneg c c
    · exact Int.mul_nonneg_of_nonpos_of_nonpos c c
  have d0 : 0 ≤ dot (nrm a b c) (nrm a b c) := by
    have := q (nrm a b c).1; have := q (nrm a b c).2.1; have := q (nrm a b c).2.2
    unfold dot
    omega
  have e : nn (a, b, c) = (dot (nrm a b c) (nrm a b c)).toNat := rfl
  refine ⟨by rw [e]; omega, by rw [e]; omega, ?_⟩
  unfold pw BdP
  dsimp only
  omega
theorem area_any (a b c : P3) (w : World) (h : BdP 64 a) (k : BdP 64 b) (l : BdP 64 c) :
    Calls Try.prog 35 #[.agg #[.int .i64 a.1, .int .i64 a.2.1, .int .i64 a.2.2, .int .i64 b.1, .int .i64 b.2.1, .int .i64 b.2.2, .int .i64 c.1, .int .i64 c.2.1, .int .i64 c.2.2]] w fun e w' => e = .returned (spr ((al (a, b, c), ah (a, b, c)), 0)) ∧ Below w.heap.size w w' := by
  obtain ⟨h1, h2, h3⟩ := nn_bd h k l
  have NO := Lib.hid fun W => normal_any a b c W (h.mono (by decide)) (k.mono (by decide)) (l.mono (by decide))
  have SC := Lib.hid fun W => scalar_any (nrm a b c) (nrm a b c) W h3
  rw [h2] at SC
  have LE := fun W => len_yes (nn (a, b, c)) W (by omega)
  rw [told_len2 h1] at LE
  have LE := Lib.hid LE
  have PA := fun W => part_any ((Rt.isq (nn (a, b, c) * 1099511627776) : Nat) : Int) ((Rt.csq (nn (a, b, c) * 1099511627776) : Nat) : Int) 2 W
  rw [part_len h1, (arR_ok h1).1] at PA
  have PA := Lib.hid PA
  have e1 : al (a, b, c) = Sp.fl ((Rt.isq (nn (a, b, c) * 1099511627776) : Nat) : Int) 2 := rfl
  have e2 : ah (a, b, c) = Sp.ce ((Rt.csq (nn (a, b, c) * 1099511627776) : Nat) : Int) 2 := rfl
  rw [← e1, ← e2] at PA
  clear h k l h1 h2 h3 e1 e2
  generalize al (a, b, c) = x at *
  generalize ah (a, b, c) = y at *
  generalize ((Rt.isq (nn (a, b, c) * 1099511627776) : Nat) : Int) = i at *
  generalize ((Rt.csq (nn (a, b, c) * 1099511627776) : Nat) : Int) = j at *
  generalize nrm a b c = n at *
  go_enter Try.func35, Try.ntmps35
  go_wp2_with fail
  refine (NO.out _).mono ?_
  rintro e w1 ⟨rfl, hb1⟩
  have PR := Lib.hid (by have z := pair_below (pair_new (w.alloc (pnc a b c 44)) 0 0 36) hb1; simp only [World.size_alloc] at z; exact z : Pair w1 (w.heap.size + 1) 0 0)
  have B1 := Lib.hid (bstep (balloc (balloc (Below.refl _ w) _) _) hb1)
  have PR := Lib.hid (pair_alloc PR.out (ptc n 32))
  have ON := Lib.hid (own_new w1 n 32)
  have B1 := Lib.hid (balloc B1.out (ptc n 32))
  clear hb1
  obtain ⟨x1, x2, x3, x4, x5, x6, x7⟩ := ON.out
  go_wp2_with fail
  refine (SC.out _).mono ?_
  rintro e w2 ⟨rfl, hb2⟩
  clear x1 x2 x3 x4 x5 x6 x7
  have PR := Lib.hid (pair_below PR.out hb2)
  have B2 := Lib.hid (bstep B1.out hb2)
  clear hb2 ON
  go_wp2_with fail
  refine (LE.out _).mono ?_
  rintro e w3 ⟨rfl, hb3⟩
  have PR := Lib.hid (pair_alloc (pair_below PR.out hb3) (.cells #[.int .i64 i, .int .i64 j] 36))
  have B3 := Lib.hid (balloc (bstep B2.out hb3) (.cells #[.int .i64 i, .int .i64 j] 36))
  clear hb3
  go_wp2_with fail
  refine (PA.out _).mono ?_
  rintro e w4 ⟨rfl, hb4⟩
  have B4 := Lib.hid (bstep B3.out hb4)
  obtain ⟨g1, g2, g3, g4, g5⟩ := pair_below PR.out hb4
  clear hb4
  go_wp2
  refine bodyPost_ret (v := spr ((x, y), 0)) (by rw [results_cell_tmp rfl]; go_simp) rfl ⟨rfl, ?_⟩
  exact (B4.out.setCell (by show w.heap.size ≤ w.heap.size + 1; omega) _).setCell (by show w.heap.size ≤ w.heap.size + 1; omega) _

end Go.Proofs.Ytjflgiegnibgmaa
