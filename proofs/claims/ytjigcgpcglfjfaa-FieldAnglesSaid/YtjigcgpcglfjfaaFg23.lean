/-
  The document's place and asked.
-/
import Derived.Test.YtjigcgpcglfjfaaFg22
namespace Go.Proofs.Ytjigcgpcglfjfaa
open Go.ChangeShapes Go.WideShapes Go.RowKit
open Sh
set_option maxHeartbeats 1000000 in
theorem rplc_walk (x : P3) (b1 b2 b3 : Bool) (w : World) (M1 : Hid (∀ W, Calls Try.prog 47 #[.int .i64 x.1, .int .i64 (-256), .int .i64 256] W fun e w' => e = .returned (.bool b1) ∧ W = w')) (M2 : Hid (∀ W, Calls Try.prog 47 #[.int .i64 x.2.1, .int .i64 (-256), .int .i64 256] W fun e w' => e = .returned (.bool b2) ∧ W = w')) (M3 : Hid (∀ W, Calls Try.prog 47 #[.int .i64 x.2.2, .int .i64 (-256), .int .i64 256] W fun e w' => e = .returned (.bool b3) ∧ W = w')) : Calls Try.prog 113 #[ptv x] w fun e w' => e = .returned (.bool (b1 && (b2 && b3))) ∧ Below w.heap.size w w' := by
  cases b1 with
  | false =>
    go_enter Try.func113, Try.ntmps113
    go_wp2_with fail
    refine (M1.out _).mono ?_
    rintro e w1 ⟨rfl, rfl⟩
    go_wp2
    go_ret
    exact ⟨rfl, by (repeat' (first | exact Below.refl _ _ | refine Below.setCell ?_ (by simp <;> omega) _ | refine balloc ?_ _ | refine Below.drew ?_ | refine bdrewN ?_ _))⟩
  | true =>
    cases b2 with
    | false =>
      go_enter Try.func113, Try.ntmps113
      go_wp2_with fail
      refine (M1.out _).mono ?_
      rintro e w1 ⟨rfl, rfl⟩
      go_wp2_with fail
      refine (M2.out _).mono ?_
      rintro e w2 ⟨rfl, rfl⟩
      go_wp2
      go_ret
      exact ⟨rfl, by (repeat' (first | exact Below.refl _ _ | refine Below.setCell ?_ (by simp <;> omega) _ | refine balloc ?_ _ | refine Below.drew ?_ | refine bdrewN ?_ _))⟩
    | true =>
      go_enter Try.func113, Try.ntmps113
      go_wp2_with fail
      refine (M1.out _).mono ?_
      rintro e w1 ⟨rfl, rfl⟩
      go_wp2_with fail
      refine (M2.out _).mono ?_
      rintro e w2 ⟨rfl, rfl⟩
      go_wp2_with fail
      refine (M3.out _).mono ?_
      rintro e w3 ⟨rfl, rfl⟩
      go_wp2
      go_ret
      exact ⟨rfl, by (repeat' (first | exact Below.refl _ _ | refine Below.setCell ?_ (by simp <;> omega) _ | refine balloc ?_ _ | refine Below.drew ?_ | refine bdrewN ?_ _))⟩
theorem rplc_any (x : P3) (w : World) : Calls Try.prog 113 #[ptv x] w fun e w' => e = .returned (.bool (inP 256 x)) ∧ Below w.heap.size w w' := by
  have E : inP 256 x = (rngB x.1 (-256) 256 && (rngB x.2.1 (-256) 256 && rngB x.2.2 (-256) 256)) := by
    unfold inP rngB
    rw [Bool.eq_iff_iff]
    simp only [decide_eq_true_eq, Bool.and_eq_true]
    constructor
    · rintro ⟨h1, h2, h3, h4, h5, h6⟩; exact ⟨⟨h1, h2⟩, ⟨h3, h4⟩, h5, h6⟩
    · rintro ⟨⟨h1, h2⟩, ⟨h3, h4⟩, h5, h6⟩; exact ⟨h1, h2, h3, h4, h5, h6⟩
  rw [E]
  exact rplc_walk x _ _ _ w (Lib.hid fun W => rfinr_any _ _ _ W) (Lib.hid fun W => rfinr_any _ _ _ W) (Lib.hid fun W => rfinr_any _ _ _ W)
theorem ask_no (t : P9) (x : P3) (D pc : Int) (w : World) (V : Hid (∀ W, Calls Try.prog 46 #[p9v t] W fun e w' => e = .returned (.int .i64 pc) ∧ Below W.heap.size W w')) (z : (pc != 0) = true) :
    Calls Try.prog 51 #[p9v t, ptv x, .int .i64 D] w fun e w' => e = .returned (.int .i64 pc) ∧ Below w.heap.size w w' := by
  obtain ⟨a, b, c⟩ := t
  go_enter Try.func51, Try.ntmps51
  go_wp2_with fail
  refine (V.out _).mono ?_
  rintro e w1 ⟨rfl, hb1⟩
  go_wp2
  go_ret
  exact ⟨rfl, by (repeat' (first | exact Below.refl _ _ | refine bstep ?_ hb1 | refine Below.setCell ?_ (by simp <;> omega) _ | refine balloc ?_ _ | refine Below.drew ?_ | refine bdrewN ?_ _))⟩
theorem ask_a (t : P9) (x : P3) (D : Int) (w : World) (V : Hid (∀ W, Calls Try.prog 46 #[p9v t] W fun e w' => e = .returned (.int .i64 0) ∧ Below W.heap.size W w')) (K : Hid (∀ W, Calls Try.prog 113 #[ptv x] W fun e w' => e = .returned (.bool false) ∧ Below W.heap.size W w')) :
    Calls Try.prog 51 #[p9v t, ptv x, .int .i64 D] w fun e w' => e = .returned (.int .i64 1) ∧ Below w.heap.size w w' := by
  obtain ⟨a, b, c⟩ := t
  have O0 := own_new (w.alloc (pnc a b c 25)) x 23
  simp only [World.size_alloc] at O0
  go_enter Try.func51, Try.ntmps51
  go_wp2_with fail
  refine (V.out _).mono ?_
  rintro e w1 ⟨rfl, hb1⟩
  obtain ⟨o0, o1, o2, _⟩ := own_below O0 hb1
  go_wp2_with fail
  refine (K.out _).mono ?_
  rintro e w2 ⟨rfl, hb2⟩
  go_wp2
  go_ret
  exact ⟨rfl, by (repeat' (first | exact Below.refl _ _ | refine bstep ?_ hb2 | refine bstep ?_ hb1 | refine Below.setCell ?_ (by simp <;> omega) _ | refine balloc ?_ _ | refine Below.drew ?_ | refine bdrewN ?_ _))⟩
theorem ask_b (t : P9) (x : P3) (D : Int) (w : World) (V : Hid (∀ W, Calls Try.prog 46 #[p9v t] W fun e w' => e = .returned (.int .i64 0) ∧ Below W.heap.size W w')) (K : Hid (∀ W, Calls Try.prog 113 #[ptv x] W fun e w' => e = .returned (.bool true) ∧ Below W.heap.size W w')) (I : Hid (∀ W, Calls Try.prog 47 #[.int .i64 D, .int .i64 0, .int .i64 3] W fun e w' => e = .returned (.bool false) ∧ W = w')) :
    Calls Try.prog 51 #[p9v t, ptv x, .int .i64 D] w fun e w' => e = .returned (.int .i64 1) ∧ Below w.heap.size w w' := by
  obtain ⟨a, b, c⟩ := t
  have O0 := own_new (w.alloc (pnc a b c 25)) x 23
  simp only [World.size_alloc] at O0
  go_enter Try.func51, Try.ntmps51
  go_wp2_with fail
  refine (V.out _).mono ?_
  rintro e w1 ⟨rfl, hb1⟩
  obtain ⟨o0, o1, o2, _⟩ := own_below O0 hb1
  go_wp2_with fail
  refine (K.out _).mono ?_
  rintro e w2 ⟨rfl, hb2⟩
  go_wp2_with fail
  refine (I.out _).mono ?_
  rintro e w3 ⟨rfl, rfl⟩
  go_wp2
  go_ret
  exact ⟨rfl, by (repeat' (first | exact Below.refl _ _ | refine bstep ?_ hb2 | refine bstep ?_ hb1 | refine Below.setCell ?_ (by simp <;> omega) _ | refine balloc ?_ _ | refine Below.drew ?_ | refine bdrewN ?_ _))⟩
theorem ask_c (t : P9) (x : P3) (D : Int) (w : World) (V : Hid (∀ W, Calls Try.prog 46 #[p9v t] W fun e w' => e = .returned (.int .i64 0) ∧ Below W.heap.size W w')) (K : Hid (∀ W, Calls Try.prog 113 #[ptv x] W fun e w' => e = .returned (.bool true) ∧ Below W.heap.size W w')) (I : Hid (∀ W, Calls Try.prog 47 #[.int .i64 D, .int .i64 0, .int .i64 3] W fun e w' => e = .returned (.bool true) ∧ W = w')) :
    Calls Try.prog 51 #[p9v t, ptv x, .int .i64 D] w fun e w' => e = .returned (.int .i64 0) ∧ Below w.heap.size w w' := by
  obtain ⟨a, b, c⟩ := t
  have O0 := own_new (w.alloc (pnc a b c 25)) x 23
  simp only [World.size_alloc] at O0
  go_enter Try.func51, Try.ntmps51
  go_wp2_with fail
  refine (V.out _).mono ?_
  rintro e w1 ⟨rfl, hb1⟩
  obtain ⟨o0, o1, o2, _⟩ := own_below O0 hb1
  go_wp2_with fail
  refine (K.out _).mono ?_
  rintro e w2 ⟨rfl, hb2⟩
  go_wp2_with fail
  refine (I.out _).mono ?_
  rintro e w3 ⟨rfl, rfl⟩
  go_wp2
  go_ret
  exact ⟨rfl, by (repeat' (first | exact Below.refl _ _ | refine bstep ?_ hb2 | refine bstep ?_ hb1 | refine Below.setCell ?_ (by simp <;> omega) _ | refine balloc ?_ _ | refine Below.drew ?_ | refine bdrewN ?_ _))⟩
theorem rask_any (t : P9) (x : P3) (D : Int) (w : World) : Calls Try.prog 51 #[p9v t, ptv x, .int .i64 D] w fun e w' => e = .returned (.int .i64 (snc t x D)) ∧ Below w.heap.size w w' := by
  have V := fun W => rvp_any t.1 t.2.1 t.2.2 W
  unfold snc
  by_cases z : pcode t.1 t.2.1 t.2.2 = 0
  · rw [if_pos z]
    rw [z] at V
    have M := fun W => rplc_any x W
    have I := fun W => rfinr_any D 0 3 W
    unfold akc
    cases h : inP 256 x with
    | true =>
      rw [h] at M
      cases k : rngB D 0 3 with
      | true => rw [k] at I; exact ask_c t x D w (Lib.hid V) (Lib.hid M) (Lib.hid I)
      | false => rw [k] at I; exact ask_b t x D w (Lib.hid V) (Lib.hid M) (Lib.hid I)
    | false => rw [h] at M; exact ask_a t x D w (Lib.hid V) (Lib.hid M)
  · rw [if_neg z]
    exact ask_no t x D _ w (Lib.hid V) (bne_iff_ne.2 z)

end Go.Proofs.Ytjigcgpcglfjfaa
