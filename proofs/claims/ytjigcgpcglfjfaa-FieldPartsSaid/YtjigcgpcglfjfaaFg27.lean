/-
  The document's Parts, and the law FieldParts: its walk.
-/
import Derived.Test.YtjigcgpcglfjfaaFg25
namespace Go.Proofs.Ytjigcgpcglfjfaa
open Go.ChangeShapes Go.WideShapes Go.RowKit
open Sh
theorem rprt_no (t : P9) (D pc : Int) (w : World) (V : Hid (∀ W, Calls Try.prog 46 #[p9v t] W fun e w' => e = .returned (.int .i64 pc) ∧ Below W.heap.size W w')) (z : (pc != 0) = true) :
    Calls Try.prog 14 #[p9v t, .int .i64 D] w fun e w' => e = .returned (.tuple #[.slice none 0 0, .int .i64 pc]) ∧ Below w.heap.size w w' := by
  obtain ⟨a, b, c⟩ := t
  go_enter Try.func14, Try.ntmps14
  go_wp2_with fail
  refine (V.out _).mono ?_
  rintro e w1 ⟨rfl, hb1⟩
  go_wp2
  go_ret2
  exact ⟨rfl, by (repeat' (first | exact Below.refl _ _ | refine bstep ?_ hb1 | refine Below.setCell ?_ (by simp <;> omega) _ | refine balloc ?_ _ | refine Below.drew ?_ | refine bdrewN ?_ _))⟩
theorem rprt_rng (t : P9) (D : Int) (w : World) (V : Hid (∀ W, Calls Try.prog 46 #[p9v t] W fun e w' => e = .returned (.int .i64 0) ∧ Below W.heap.size W w')) (I : Hid (∀ W, Calls Try.prog 47 #[.int .i64 D, .int .i64 0, .int .i64 3] W fun e w' => e = .returned (.bool false) ∧ W = w')) :
    Calls Try.prog 14 #[p9v t, .int .i64 D] w fun e w' => e = .returned (.tuple #[.slice none 0 0, .int .i64 1]) ∧ Below w.heap.size w w' := by
  obtain ⟨a, b, c⟩ := t
  go_enter Try.func14, Try.ntmps14
  go_wp2_with fail
  refine (V.out _).mono ?_
  rintro e w1 ⟨rfl, hb1⟩
  go_wp2_with fail
  refine (I.out _).mono ?_
  rintro e w2 ⟨rfl, rfl⟩
  go_wp2
  go_ret2
  exact ⟨rfl, by (repeat' (first | exact Below.refl _ _ | refine bstep ?_ hb1 | refine Below.setCell ?_ (by simp <;> omega) _ | refine balloc ?_ _ | refine Below.drew ?_ | refine bdrewN ?_ _))⟩
theorem rprt_ok (t : P9) (D : Int) (n : Nat) (L : Nat → P9) (w : World) (V : Hid (∀ W, Calls Try.prog 46 #[p9v t] W fun e w' => e = .returned (.int .i64 0) ∧ Below W.heap.size W w')) (I : Hid (∀ W, Calls Try.prog 47 #[.int .i64 D, .int .i64 0, .int .i64 3] W fun e w' => e = .returned (.bool true) ∧ W = w'))
    (CC : Hid (∀ W, Calls Try.prog 48 #[p9v t, .int .i64 D] W fun e w' => ∃ g off cap, e = .returned (.slice (some ⟨g, off, none⟩) n cap) ∧ RowP w' g off n L ∧ Below W.heap.size W w')) :
    Calls Try.prog 14 #[p9v t, .int .i64 D] w fun e w' => ∃ g off cap, e = .returned (.tuple #[.slice (some ⟨g, off, none⟩) n cap, .int .i64 0]) ∧ RowP w' g off n L ∧ Below w.heap.size w w' := by
  obtain ⟨a, b, c⟩ := t
  have P0 := Lib.hid (pan_new w a b c 25)
  go_enter Try.func14, Try.ntmps14
  go_wp2_with fail
  refine (V.out _).mono ?_
  rintro e w1 ⟨rfl, hb1⟩
  obtain ⟨k0, k1, k2, k3, k4, k5, k6, k7, k8, k9⟩ := pan_below P0.out hb1
  go_wp2_with fail
  refine (I.out _).mono ?_
  rintro e w2 ⟨rfl, rfl⟩
  go_wp2_with fail
  refine (CC.out _).mono ?_
  rintro e w3 ⟨g, off, cap, rfl, hr, hb3⟩
  go_wp2
  go_ret2
  exact ⟨g, off, cap, rfl, hr, by (repeat' (first | exact Below.refl _ _ | refine bstep ?_ hb3 | refine bstep ?_ hb1 | refine Below.setCell ?_ (by simp <;> omega) _ | refine balloc ?_ _ | refine Below.drew ?_ | refine bdrewN ?_ _))⟩
/-- what Parts answers: a list of panels and a code -/
def PrtA (w w' : World) (e : Ending) (t : P9) (D : Int) : Prop := ∃ a cap, e = .returned (.tuple #[.slice a (if ctcode t D = 0 then ptn D else 0) cap, .int .i64 (ctcode t D)]) ∧ (0 < (if ctcode t D = 0 then ptn D else 0) → ∃ g off, a = some ⟨g, off, none⟩ ∧ RowP w' g off (if ctcode t D = 0 then ptn D else 0) (ptk t D)) ∧ Below w.heap.size w w'
theorem ctcode_ok' {t : P9} {D : Int} (h : ctcode t D = 0) : pcode t.1 t.2.1 t.2.2 = 0 ∧ BdT 64 t ∧ 0 ≤ D ∧ D ≤ 3 := by
  unfold ctcode at h
  by_cases z : pcode t.1 t.2.1 t.2.2 = 0
  · rw [if_pos z] at h
    cases k : rngB D 0 3 with
    | true => exact ⟨z, pcode_64 z, rngB_iff.1 k⟩
    | false => rw [k] at h; cases h
  · rw [if_neg z] at h; exact absurd h z
theorem rprt_any (t : P9) (D : Int) (w : World) : Calls Try.prog 14 #[p9v t, .int .i64 D] w fun e w' => PrtA w w' e t D := by
  have V := fun W => rvp_any t.1 t.2.1 t.2.2 W
  have I := fun W => rfinr_any D 0 3 W
  unfold PrtA
  by_cases h : ctcode t D = 0
  · obtain ⟨z, hB, d0, d3⟩ := ctcode_ok' h
    rw [z] at V
    rw [rngB_iff.2 ⟨d0, d3⟩] at I
    refine (rprt_ok t D (ptn D) (ptk t D) w (Lib.hid V) (Lib.hid I) (Lib.hid fun W => (rcut_any D.toNat D t W (by omega) (by omega) hB).mono ?_)).mono ?_
    · rintro e w' ⟨v, rfl, ho, hb⟩
      obtain ⟨g, off, cap, rfl, hr⟩ := rparts_row ho
      exact ⟨g, off, cap, rfl, hr, hb⟩
    · rintro e w' ⟨g, off, cap, rfl, hr, hb⟩
      rw [if_pos h, h]
      exact ⟨_, cap, rfl, fun _ => ⟨g, off, rfl, hr⟩, hb⟩
  · rw [if_neg h]
    have key : Calls Try.prog 14 #[p9v t, .int .i64 D] w fun e w' => e = .returned (.tuple #[.slice none 0 0, .int .i64 (ctcode t D)]) ∧ Below w.heap.size w w' := by
      unfold ctcode at h ⊢
      by_cases z : pcode t.1 t.2.1 t.2.2 = 0
      · rw [if_pos z] at h ⊢
        rw [z] at V
        cases k : rngB D 0 3 with
        | true => rw [k] at h; exact absurd rfl h
        | false => rw [k] at I; exact rprt_rng t D w (Lib.hid V) (Lib.hid I)
      · rw [if_neg z]
        exact rprt_no t D _ w (Lib.hid V) (bne_iff_ne.2 z)
    exact key.mono fun e w' ⟨h1, h2⟩ => ⟨none, 0, h1, fun h => absurd h (Nat.lt_irrefl 0), h2⟩
theorem fprt_any (t : P9) (D : Int) (w : World) : Calls Try.prog 13 #[p9v t, .int .i64 D] w fun e w' => PrtA w w' e t D := by
  refine (prt_any t D w).mono ?_
  rintro e w' ⟨v, rfl, h, hb⟩
  unfold PrtA
  by_cases z : ctcode t D = 0
  · rw [if_pos z] at h ⊢
    rw [cutP_len] at h
    obtain ⟨g, off, cap, rfl, hr⟩ := rparts_row h
    exact ⟨_, cap, rfl, fun _ => ⟨g, off, rfl, hr⟩, hb⟩
  · rw [if_neg z] at h ⊢
    exact ⟨none, 0, by rw [h], fun h => absurd h (Nat.lt_irrefl 0), hb⟩
set_option maxRecDepth 100000 in
set_option maxHeartbeats 4000000 in
theorem fparts_walk0 (t : P9) (D c : Int) (n : Nat) (L : Nat → P9) (w : World) (hn : n ≤ 64) (M1 : Hid (∀ W, Calls Try.prog 13 #[p9v t, .int .i64 D] W fun e w' => ∃ a cap, e = .returned (.tuple #[.slice a n cap, .int .i64 c]) ∧ (0 < n → ∃ g off, a = some ⟨g, off, none⟩ ∧ RowP w' g off n L) ∧ Below W.heap.size W w')) (M2 : Hid (∀ W, Calls Try.prog 14 #[p9v t, .int .i64 D] W fun e w' => ∃ a cap, e = .returned (.tuple #[.slice a n cap, .int .i64 c]) ∧ (0 < n → ∃ g off, a = some ⟨g, off, none⟩ ∧ RowP w' g off n L) ∧ Below W.heap.size W w')) (K : Hid (∀ W, Calls Try.prog 15 #[] W fun e w' => e = .returned (.bool true) ∧ Below W.heap.size W w')) : Calls Try.prog 3 #[p9v t, .int .i64 D] w fun e w' => e = .returned (.bool true) ∧ Below w.heap.size w w' := by
  have hn' : (n : Int) ≤ 64 := by omega
  obtain ⟨p, q, r⟩ := t
  have P0 := Lib.hid (pan_new w p q r 25)
  go_enter Try.func3, Try.ntmps3
  go_wp2_with fail
  with_reducible refine (M1.out _).mono ?_
  rintro e w1 ⟨a1, cap1, rfl, hr1, hb1⟩
  have R1 := Lib.hid hr1
  have B1 := Lib.hid (show Below w.heap.size w w1 by (repeat' (first | exact Below.refl _ _ | refine bstep ?_ hb1 | refine Below.setCell ?_ (by simp <;> omega) _ | refine balloc ?_ _ | refine Below.drew ?_ | refine bdrewN ?_ _)))
  obtain ⟨k0, k1, k2, k3, k4, k5, k6, k7, k8, k9⟩ := pan_below P0.out hb1
  clear P0 hb1 hr1
  go_wp2_with fail
  with_reducible refine (M2.out _).mono ?_
  rintro e w2 ⟨a2, cap2, rfl, hr2, hb2⟩
  have R1' := Lib.hid (fun h => by obtain ⟨g, off, e, r⟩ := R1.out h; exact (⟨g, off, e, rowP_in r hb2 r.1⟩ : ∃ g off, a1 = some ⟨g, off, none⟩ ∧ RowP w2 g off n L))
  have R2 := Lib.hid hr2
  have B2 := Lib.hid (bstep B1.out hb2)
  clear k0 k1 k2 k3 k4 k5 k6 k7 k8 k9 hr2 R1 hb2 B1
  go_wp2_with fail
  go_loopw [9] (fun kv wr => ∃ k : Nat, k ≤ n ∧ kv = .int .i64 k ∧ Below w2.heap.size w2 wr) (fun kv _ => n - (intOf kv).toNat)
  case atStart => exact ⟨0, Nat.zero_le _, rfl, Below.refl _ _⟩
  case round =>
    obtain ⟨k, hk, rfl, BB⟩ := hrel
    have B3 := Lib.hid BB
    clear BB
    by_cases hlt : k < n
    · have hk1 : (k : Int) < (n : Int) := by omega
      have hk0 : 0 ≤ (k : Int) := by omega
      obtain ⟨g1, o1, rfl, r1⟩ := R1'.out (by omega)
      obtain ⟨g2, o2, rfl, r2⟩ := R2.out (by omega)
      have r1' := rowP_in r1 B3.out r1.1
      have r2' := rowP_in r2 B3.out r2.1
      obtain ⟨c0, c1, c2, c3, c4, c5, c6, c7, c8⟩ := r1'.2 k hlt
      obtain ⟨d0, d1, d2, d3, d4, d5, d6, d7, d8⟩ := r2'.2 k hlt
      have s1 := r1'.1
      have s2 := r2'.1
      clear r1 r2 r1' r2'
      generalize L k = t at *
      go_wp2_with fail
      go_region
      all_goals
        go_wp2_with fail
        go_roundw
        case rel => exact ⟨k + 1, by omega, by go_num, by have hB := B3.out; (repeat' (first | exact Below.refl _ _ | refine bstep ?_ hB | refine Below.setCell ?_ (by simp <;> omega) _ | refine balloc ?_ _ | refine Below.drew ?_ | refine bdrewN ?_ _))⟩
        case measure => simp [intOf]; omega
    · obtain rfl : k = n := by omega
      go_wp2_with fail
      refine (K.out _).mono ?_
      rintro e w4 ⟨rfl, hb4⟩
      go_wp2
      go_ret
      exact ⟨rfl, bstep (bstep B2.out B3.out) hb4⟩
theorem fparts_walk (t : P9) (D : Int) (w : World) : Calls Try.prog 3 #[p9v t, .int .i64 D] w fun e w' => e = .returned (.bool true) ∧ Below w.heap.size w w' :=
  fparts_walk0 t D (ctcode t D) (if ctcode t D = 0 then ptn D else 0) (ptk t D) w (by
    by_cases h : ctcode t D = 0
    · rw [if_pos h]; exact (ptn_vals (ctcode_ok' h).2.2.1 (ctcode_ok' h).2.2.2).2
    · rw [if_neg h]; omega) (Lib.hid fun W => fprt_any t D W) (Lib.hid fun W => rprt_any t D W) (Lib.hid fun W => fkn_any W)

end Go.Proofs.Ytjigcgpcglfjfaa
