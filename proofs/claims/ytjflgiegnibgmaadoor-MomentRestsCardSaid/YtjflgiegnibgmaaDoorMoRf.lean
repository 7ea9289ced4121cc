/-
  The contracts of Rest in the program and in the document's answer, and the law MomentRests.
-/
import Derived.Test.YtjflgiegnibgmaaDoorMoRe
namespace Go.Proofs.YtjflgiegnibgmaaDoor
open Go.ChangeShapes Go.WideShapes Go.RowKit
open Sh
theorem told_len (x : Nat) (h : x < 1048576) : Sp.told ((Rt.isq (x * 1099511627776) : Nat) : Int) ((Rt.csq (x * 1099511627776) : Nat) : Int) = ((((Rt.isq (x * 1099511627776) : Nat) : Int), ((Rt.csq (x * 1099511627776) : Nat) : Int)), 0) := by
  have a := Rt.isq_lt (n := x * 1099511627776) (b := 1073741824) (by omega)
  have b := csq_iff (x * 1099511627776)
  refine Sp.told_yes (Sp.vld_iff.2 ?_)
  rcases Nat.lt_or_ge (Rt.isq (x * 1099511627776) * Rt.isq (x * 1099511627776)) (x * 1099511627776) with c | c
  · rw [b.1 c]; omega
  · rw [b.2 c]; omega
theorem csq_bd (x : Nat) (h : x < 1048576) : ((Rt.csq (x * 1099511627776) : Nat) : Int) ≤ 1073741824 := by
  have a := Rt.isq_lt (n := x * 1099511627776) (b := 1073741824) (by omega)
  have b := csq_iff (x * 1099511627776)
  rcases Nat.lt_or_ge (Rt.isq (x * 1099511627776) * Rt.isq (x * 1099511627776)) (x * 1099511627776) with c | c
  · rw [b.1 c]; omega
  · rw [b.2 c]; omega
theorem isq_bd2 (x : Nat) (h : x < 1048576) : ((Rt.isq (x * 1099511627776) : Nat) : Int) ≤ 1073741824 := by
  have a := Rt.isq_lt (n := x * 1099511627776) (b := 1073741824) (by omega)
  omega
theorem pw_bd {u : P3} (h : BdP 384 u) : BdP 147456 (pw u u) := by
  obtain ⟨h1, h2, h3, h4, h5, h6⟩ := h
  have a := mul_bd h1 h2 h1 h2
  have b := mul_bd h3 h4 h3 h4
  have c := mul_bd h5 h6 h5 h6
  exact ⟨a.1, a.2, b.1, b.2, c.1, c.2⟩
/-- what Rest answers -/
def restR (tot r2 : Int) (u : P3) (k : Int) : Int × Int :=
  if rngB tot 0 1048576 && rngB r2 0 131072 && inP 384 u && rngB k 0 2 then beR tot ((Rt.csq (r2.toNat * 1099511627776) : Nat) : Int) ((Rt.isq ((sq u).toNat * 1099511627776) : Nat) : Int) k.toNat else (0, 1)
theorem restR_no {tot r2 : Int} {u : P3} {k : Int} (h : (rngB tot 0 1048576 && rngB r2 0 131072 && inP 384 u && rngB k 0 2) = false) : restR tot r2 u k = (0, 1) := by unfold restR; rw [h]; exact if_neg Bool.false_ne_true
theorem restR_ok {tot r2 : Int} {u : P3} {k : Int} (h : (rngB tot 0 1048576 && rngB r2 0 131072 && inP 384 u && rngB k 0 2) = true) : restR tot r2 u k = beR tot ((Rt.csq (r2.toNat * 1099511627776) : Nat) : Int) ((Rt.isq ((sq u).toNat * 1099511627776) : Nat) : Int) k.toNat := by unfold restR; rw [h]; exact if_pos rfl
theorem sq_bd {u : P3} (h : BdP 384 u) : 0 ≤ sq u ∧ sq u ≤ 442368 := by
  have d := dot_bd h h
  refine ⟨?_, d.2⟩
  unfold sq dot
  have a (x : Int) : 0 ≤ x * x := by
    rcases Int.le_total 0 x with c | c
    · exact Int.mul_nonneg c c
    · exact Int.mul_nonneg_of_nonpos_of_nonpos c c
  have := a u.1; have := a u.2.1; have := a u.2.2
  omega
theorem may_any (u : P3) (k : Int) (w : World) : Calls Tryd.prog 55 #[ptv u, .int .i64 k] w fun e w' => e = .returned (.bool (inP 384 u && rngB k 0 2)) ∧ Below w.heap.size w w' := by
  cases h : inP 384 u with
  | false =>
    have I : Hid (∀ W, Calls Tryd.prog 63 #[ptv u, .int .i64 384] W fun e w' => e = .returned (.bool false) ∧ Below W.heap.size W w') := Lib.hid (fun W => by have z := vwi_any u 384 W (by decide) (by decide); rw [h] at z; exact z)
    clear h
    go_enter Tryd.func55, Tryd.ntmps55
    go_wp2_with fail
    refine (vof_any u _).mono ?_
    rintro e w1 ⟨rfl, hb1⟩
    go_wp2_with fail
    refine (I.out _).mono ?_
    rintro e w2 ⟨rfl, hb2⟩
    go_wp2
    go_ret
    exact ⟨rfl, by (repeat' (first | exact Below.refl _ _ | refine bstep ?_ hb1 | refine bstep ?_ hb2 | refine Below.setCell ?_ (by simp <;> omega) _ | refine balloc ?_ _ | refine Below.drew ?_ | refine bdrewN ?_ _))⟩
  | true =>
    have I : Hid (∀ W, Calls Tryd.prog 63 #[ptv u, .int .i64 384] W fun e w' => e = .returned (.bool true) ∧ Below W.heap.size W w') := Lib.hid (fun W => by have z := vwi_any u 384 W (by decide) (by decide); rw [h] at z; exact z)
    clear h
    go_enter Tryd.func55, Tryd.ntmps55
    go_wp2_with fail
    refine (vof_any u _).mono ?_
    rintro e w1 ⟨rfl, hb1⟩
    go_wp2_with fail
    refine (I.out _).mono ?_
    rintro e w2 ⟨rfl, hb2⟩
    go_wp2_with fail
    refine (inr_any k 0 2 _).mono ?_
    rintro e w3 ⟨rfl, rfl⟩
    go_wp2
    go_ret
    exact ⟨rfl, by (repeat' (first | exact Below.refl _ _ | refine bstep ?_ hb1 | refine bstep ?_ hb2 | refine Below.setCell ?_ (by simp <;> omega) _ | refine balloc ?_ _ | refine Below.drew ?_ | refine bdrewN ?_ _))⟩
theorem mrest_a (tot r2 : Int) (u : P3) (k : Int) (w : World) (IA : Hid (∀ W, Calls Tryd.prog 44 #[.int .i64 tot, .int .i64 0, .int .i64 1048576] W fun e w' => e = .returned (.bool false) ∧ W = w')) : Calls Tryd.prog 22 #[.int .i64 tot, .int .i64 r2, ptv u, .int .i64 k] w fun e w' => e = .returned (.tuple #[.int .i64 0, .int .i64 1]) ∧ Below w.heap.size w w' := by
  go_enter Tryd.func22, Tryd.ntmps22
  go_wp2_with fail
  refine (IA.out _).mono ?_
  rintro e w1 ⟨rfl, rfl⟩
  go_wp2
  go_ret2
  exact ⟨rfl, by (repeat' (first | exact Below.refl _ _ | refine Below.setCell ?_ (by simp <;> omega) _ | refine balloc ?_ _ | refine Below.drew ?_ | refine bdrewN ?_ _))⟩
theorem mrest_b (tot r2 : Int) (u : P3) (k : Int) (w : World) (IA : Hid (∀ W, Calls Tryd.prog 44 #[.int .i64 tot, .int .i64 0, .int .i64 1048576] W fun e w' => e = .returned (.bool true) ∧ W = w')) (IB : Hid (∀ W, Calls Tryd.prog 44 #[.int .i64 r2, .int .i64 0, .int .i64 131072] W fun e w' => e = .returned (.bool false) ∧ W = w')) : Calls Tryd.prog 22 #[.int .i64 tot, .int .i64 r2, ptv u, .int .i64 k] w fun e w' => e = .returned (.tuple #[.int .i64 0, .int .i64 1]) ∧ Below w.heap.size w w' := by
  go_enter Tryd.func22, Tryd.ntmps22
  go_wp2_with fail
  refine (IA.out _).mono ?_
  rintro e w1 ⟨rfl, rfl⟩
  go_wp2_with fail
  refine (IB.out _).mono ?_
  rintro e w2 ⟨rfl, rfl⟩
  go_wp2
  go_ret2
  exact ⟨rfl, by (repeat' (first | exact Below.refl _ _ | refine Below.setCell ?_ (by simp <;> omega) _ | refine balloc ?_ _ | refine Below.drew ?_ | refine bdrewN ?_ _))⟩
theorem mrest_c (tot r2 : Int) (u : P3) (k : Int) (w : World) (IA : Hid (∀ W, Calls Tryd.prog 44 #[.int .i64 tot, .int .i64 0, .int .i64 1048576] W fun e w' => e = .returned (.bool true) ∧ W = w')) (IB : Hid (∀ W, Calls Tryd.prog 44 #[.int .i64 r2, .int .i64 0, .int .i64 131072] W fun e w' => e = .returned (.bool true) ∧ W = w')) (MY : Hid (∀ W, Calls Tryd.prog 55 #[ptv u, .int .i64 k] W fun e w' => e = .returned (.bool false) ∧ Below W.heap.size W w')) : Calls Tryd.prog 22 #[.int .i64 tot, .int .i64 r2, ptv u, .int .i64 k] w fun e w' => e = .returned (.tuple #[.int .i64 0, .int .i64 1]) ∧ Below w.heap.size w w' := by
  go_enter Tryd.func22, Tryd.ntmps22
  go_wp2_with fail
  refine (IA.out _).mono ?_
  rintro e w1 ⟨rfl, rfl⟩
  go_wp2_with fail
  refine (IB.out _).mono ?_
  rintro e w2 ⟨rfl, rfl⟩
  go_wp2_with fail
  refine (MY.out _).mono ?_
  rintro e w3 ⟨rfl, hb3⟩
  go_wp2
  go_ret2
  exact ⟨rfl, by (repeat' (first | exact Below.refl _ _ | refine bstep ?_ hb3 | refine Below.setCell ?_ (by simp <;> omega) _ | refine balloc ?_ _ | refine Below.drew ?_ | refine bdrewN ?_ _))⟩
theorem mrest_ok (tot r2 : Int) (u : P3) (k : Int) (d l1 h1 l2 h2 x er : Int) (w : World) (IA : Hid (∀ W, Calls Tryd.prog 44 #[.int .i64 tot, .int .i64 0, .int .i64 1048576] W fun e w' => e = .returned (.bool true) ∧ W = w')) (IB : Hid (∀ W, Calls Tryd.prog 44 #[.int .i64 r2, .int .i64 0, .int .i64 131072] W fun e w' => e = .returned (.bool true) ∧ W = w')) (MY : Hid (∀ W, Calls Tryd.prog 55 #[ptv u, .int .i64 k] W fun e w' => e = .returned (.bool true) ∧ Below W.heap.size W w'))
    (LA : Hid (∀ W, Calls Tryd.prog 56 #[.int .i64 r2] W fun e w' => e = .returned (spr ((l1, h1), 0)) ∧ Below W.heap.size W w')) (VS : Hid (∀ W, Calls Tryd.prog 37 #[ptv u, ptv u] W fun e w' => e = .returned (.int .i64 d) ∧ Below W.heap.size W w')) (LB : Hid (∀ W, Calls Tryd.prog 56 #[.int .i64 d] W fun e w' => e = .returned (spr ((l2, h2), 0)) ∧ Below W.heap.size W w')) (BY : Hid (∀ W, Calls Tryd.prog 57 #[.int .i64 tot, .int .i64 h1, .int .i64 l2, .int .i64 k] W fun e w' => e = .returned (.tuple #[.int .i64 x, .int .i64 er]) ∧ W = w')) :
    Calls Tryd.prog 22 #[.int .i64 tot, .int .i64 r2, ptv u, .int .i64 k] w fun e w' => e = .returned (.tuple #[.int .i64 x, .int .i64 er]) ∧ Below w.heap.size w w' := by
  go_enter Tryd.func22, Tryd.ntmps22
  go_wp2_with fail
  refine (IA.out _).mono ?_
  rintro e w1 ⟨rfl, rfl⟩
  go_wp2_with fail
  refine (IB.out _).mono ?_
  rintro e w2 ⟨rfl, rfl⟩
  go_wp2_with fail
  refine (MY.out _).mono ?_
  rintro e w3 ⟨rfl, hb3⟩
  have PP := Lib.hid (own_below (own_new w u 24) hb3)
  have B3 := Lib.hid (bstep (balloc (Below.refl _ w) _) hb3)
  clear hb3
  have PP' := PP.out
  obtain ⟨a1, a2, a3, a4, a5, a6, a7⟩ := PP'
  go_wp2_with fail
  refine (vof_any u _).mono ?_
  rintro e w4 ⟨rfl, hb4⟩
  clear a1 a2 a3 a4 a5 a6 a7
  have PV := Lib.hid (own_new w4 u 59)
  have B4 := Lib.hid (balloc (bstep B3.out hb4) (ptc u 59))
  clear hb4 PP
  go_wp2_with fail
  refine (LA.out _).mono ?_
  rintro e w5 ⟨rfl, hb5⟩
  have PV := Lib.hid (own_alloc (own_below PV.out hb5) (.cells #[.int .i64 l1, .int .i64 h1] 48))
  have PA := Lib.hid (pair_new w5 l1 h1 48)
  have B5 := Lib.hid (balloc (bstep B4.out hb5) (.cells #[.int .i64 l1, .int .i64 h1] 48))
  clear hb5
  have PV' := PV.out
  obtain ⟨a1, a2, a3, a4, a5, a6, a7⟩ := PV'
  go_wp2_with fail
  refine (VS.out _).mono ?_
  rintro e w6 ⟨rfl, hb6⟩
  clear a1 a2 a3 a4 a5 a6 a7
  have PA := Lib.hid (pair_below PA.out hb6)
  have B6 := Lib.hid (bstep B5.out hb6)
  clear hb6 PV
  go_wp2_with fail
  refine (LB.out _).mono ?_
  rintro e w7 ⟨rfl, hb7⟩
  have PA := Lib.hid (pair_alloc (pair_below PA.out hb7) (.cells #[.int .i64 l2, .int .i64 h2] 48))
  have B7 := Lib.hid (balloc (bstep B6.out hb7) (.cells #[.int .i64 l2, .int .i64 h2] 48))
  clear hb7
  have PA' := PA.out
  obtain ⟨p1, p2, p3, p4, p5⟩ := PA'
  go_wp2_with fail
  refine (BY.out _).mono ?_
  rintro e w8 ⟨rfl, rfl⟩
  go_wp2
  go_ret2
  exact ⟨rfl, B7.out⟩
theorem mrest_any (tot r2 : Int) (u : P3) (k : Int) (w : World) : Calls Tryd.prog 22 #[.int .i64 tot, .int .i64 r2, ptv u, .int .i64 k] w fun e w' => e = .returned (.tuple #[.int .i64 (restR tot r2 u k).1, .int .i64 (restR tot r2 u k).2]) ∧ Below w.heap.size w w' := by
  have ia := fun W => inr_any tot 0 1048576 W
  have ib := fun W => inr_any r2 0 131072 W
  have my := fun W => may_any u k W
  cases a : rngB tot 0 1048576 with
  | false => rw [a] at ia; rw [restR_no (by rw [a]; rfl)]; exact mrest_a tot r2 u k w (Lib.hid ia)
  | true =>
    rw [a] at ia
    cases b : rngB r2 0 131072 with
    | false => rw [b] at ib; rw [restR_no (by rw [a, b]; rfl)]; exact mrest_b tot r2 u k w (Lib.hid ia) (Lib.hid ib)
    | true =>
      rw [b] at ib
      cases c : (inP 384 u && rngB k 0 2) with
      | false => rw [c] at my; rw [restR_no (by rw [a, b, Bool.and_assoc, c]; rfl)]; exact mrest_c tot r2 u k w (Lib.hid ia) (Lib.hid ib) (Lib.hid my)
      | true =>
        rw [c] at my
        rw [restR_ok (by rw [a, b, Bool.and_assoc, c]; rfl)]
        have cc := (Bool.and_eq_true_iff).1 c
        have c1 := inP_iff.1 cc.1
        have c2 := rngB_iff.1 cc.2
        have a' := rngB_iff.1 a
        have b' := rngB_iff.1 b
        have d := sq_bd c1
        obtain ⟨x, hx⟩ := Int.eq_ofNat_of_zero_le b'.1
        obtain ⟨y, hy⟩ := Int.eq_ofNat_of_zero_le d.1
        obtain ⟨j, hj⟩ := Int.eq_ofNat_of_zero_le c2.1
        rw [hx, hy, hj, Int.toNat_natCast, Int.toNat_natCast, Int.toNat_natCast]
        subst hx hj
        have L1 := fun W => len_yes x W (by omega)
        rw [told_len x (by omega)] at L1
        have L2 := fun W => len_yes y W (by omega)
        rw [told_len y (by omega)] at L2
        have vs := fun W => vsc_any u u W ((pw_bd c1).mono (by decide))
        rw [show dot u u = (y : Int) from hy] at vs
        exact mrest_ok tot x u j y _ _ _ _ _ _ w (Lib.hid ia) (Lib.hid ib) (Lib.hid my) (Lib.hid L1) (Lib.hid vs) (Lib.hid L2) (Lib.hid fun W => bey_any tot _ _ j W a'.1 a'.2 (by omega) (by have := isq_bd2 y (by omega); omega) (by omega))

end Go.Proofs.YtjflgiegnibgmaaDoor
