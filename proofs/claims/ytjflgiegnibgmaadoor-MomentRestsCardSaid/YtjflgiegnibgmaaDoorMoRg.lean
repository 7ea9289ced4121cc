/-
  The contract of the document's Rest, and the law MomentRests: for all numbers and vectors it answers true.
-/
import Derived.Test.YtjflgiegnibgmaaDoorMoRf
namespace Go.Proofs.YtjflgiegnibgmaaDoor
open Go.ChangeShapes Go.WideShapes Go.RowKit
open Sh
theorem rrest_0 (tot r2 : Int) (u : P3) (k : Int) (w : World) (d0 : decide (tot < 0) = true) : Calls Tryd.prog 23 #[.int .i64 tot, .int .i64 r2, ptv u, .int .i64 k] w fun e w' => e = .returned (.tuple #[.int .i64 0, .int .i64 1]) ∧ Below w.heap.size w w' := by
  go_enter Tryd.func23, Tryd.ntmps23
  go_wp2
  go_ret2
  exact ⟨rfl, by (repeat' (first | exact Below.refl _ _ | refine Below.setCell ?_ (by simp <;> omega) _ | refine balloc ?_ _ | refine Below.drew ?_ | refine bdrewN ?_ _))⟩
theorem rrest_1 (tot r2 : Int) (u : P3) (k : Int) (w : World) (d0 : decide (tot < 0) = false) (d1 : decide (1048576 < tot) = true) : Calls Tryd.prog 23 #[.int .i64 tot, .int .i64 r2, ptv u, .int .i64 k] w fun e w' => e = .returned (.tuple #[.int .i64 0, .int .i64 1]) ∧ Below w.heap.size w w' := by
  go_enter Tryd.func23, Tryd.ntmps23
  go_wp2
  go_ret2
  exact ⟨rfl, by (repeat' (first | exact Below.refl _ _ | refine Below.setCell ?_ (by simp <;> omega) _ | refine balloc ?_ _ | refine Below.drew ?_ | refine bdrewN ?_ _))⟩
theorem rrest_2 (tot r2 : Int) (u : P3) (k : Int) (w : World) (d0 : decide (tot < 0) = false) (d1 : decide (1048576 < tot) = false) (d2 : decide (r2 < 0) = true) : Calls Tryd.prog 23 #[.int .i64 tot, .int .i64 r2, ptv u, .int .i64 k] w fun e w' => e = .returned (.tuple #[.int .i64 0, .int .i64 1]) ∧ Below w.heap.size w w' := by
  go_enter Tryd.func23, Tryd.ntmps23
  go_wp2
  go_ret2
  exact ⟨rfl, by (repeat' (first | exact Below.refl _ _ | refine Below.setCell ?_ (by simp <;> omega) _ | refine balloc ?_ _ | refine Below.drew ?_ | refine bdrewN ?_ _))⟩
theorem rrest_3 (tot r2 : Int) (u : P3) (k : Int) (w : World) (d0 : decide (tot < 0) = false) (d1 : decide (1048576 < tot) = false) (d2 : decide (r2 < 0) = false) (d3 : decide (131072 < r2) = true) : Calls Tryd.prog 23 #[.int .i64 tot, .int .i64 r2, ptv u, .int .i64 k] w fun e w' => e = .returned (.tuple #[.int .i64 0, .int .i64 1]) ∧ Below w.heap.size w w' := by
  go_enter Tryd.func23, Tryd.ntmps23
  go_wp2
  go_ret2
  exact ⟨rfl, by (repeat' (first | exact Below.refl _ _ | refine Below.setCell ?_ (by simp <;> omega) _ | refine balloc ?_ _ | refine Below.drew ?_ | refine bdrewN ?_ _))⟩
theorem rrest_4 (tot r2 : Int) (u : P3) (k : Int) (w : World) (d0 : decide (tot < 0) = false) (d1 : decide (1048576 < tot) = false) (d2 : decide (r2 < 0) = false) (d3 : decide (131072 < r2) = false) (SM : Hid (∀ W, Calls Tryd.prog 15 #[ptv u, .int .i64 384] W fun e w' => e = .returned (.bool false) ∧ Below W.heap.size W w')) : Calls Tryd.prog 23 #[.int .i64 tot, .int .i64 r2, ptv u, .int .i64 k] w fun e w' => e = .returned (.tuple #[.int .i64 0, .int .i64 1]) ∧ Below w.heap.size w w' := by
  go_enter Tryd.func23, Tryd.ntmps23
  go_wp2_with fail
  refine (SM.out _).mono ?_
  rintro e w1 ⟨rfl, hb1⟩
  go_wp2
  go_ret2
  exact ⟨rfl, by (repeat' (first | exact Below.refl _ _ | refine bstep ?_ hb1 | refine Below.setCell ?_ (by simp <;> omega) _ | refine balloc ?_ _ | refine Below.drew ?_ | refine bdrewN ?_ _))⟩
theorem rrest_5 (tot r2 : Int) (u : P3) (k : Int) (w : World) (d0 : decide (tot < 0) = false) (d1 : decide (1048576 < tot) = false) (d2 : decide (r2 < 0) = false) (d3 : decide (131072 < r2) = false) (SM : Hid (∀ W, Calls Tryd.prog 15 #[ptv u, .int .i64 384] W fun e w' => e = .returned (.bool true) ∧ Below W.heap.size W w')) (e0 : decide (k < 0) = true) : Calls Tryd.prog 23 #[.int .i64 tot, .int .i64 r2, ptv u, .int .i64 k] w fun e w' => e = .returned (.tuple #[.int .i64 0, .int .i64 1]) ∧ Below w.heap.size w w' := by
  go_enter Tryd.func23, Tryd.ntmps23
  go_wp2_with fail
  refine (SM.out _).mono ?_
  rintro e w1 ⟨rfl, hb1⟩
  go_wp2
  go_ret2
  exact ⟨rfl, by (repeat' (first | exact Below.refl _ _ | refine bstep ?_ hb1 | refine Below.setCell ?_ (by simp <;> omega) _ | refine balloc ?_ _ | refine Below.drew ?_ | refine bdrewN ?_ _))⟩
theorem rrest_6 (tot r2 : Int) (u : P3) (k : Int) (w : World) (d0 : decide (tot < 0) = false) (d1 : decide (1048576 < tot) = false) (d2 : decide (r2 < 0) = false) (d3 : decide (131072 < r2) = false) (SM : Hid (∀ W, Calls Tryd.prog 15 #[ptv u, .int .i64 384] W fun e w' => e = .returned (.bool true) ∧ Below W.heap.size W w')) (e0 : decide (k < 0) = false) (e1 : decide (2 < k) = true) : Calls Tryd.prog 23 #[.int .i64 tot, .int .i64 r2, ptv u, .int .i64 k] w fun e w' => e = .returned (.tuple #[.int .i64 0, .int .i64 1]) ∧ Below w.heap.size w w' := by
  go_enter Tryd.func23, Tryd.ntmps23
  go_wp2_with fail
  refine (SM.out _).mono ?_
  rintro e w1 ⟨rfl, hb1⟩
  go_wp2
  go_ret2
  exact ⟨rfl, by (repeat' (first | exact Below.refl _ _ | refine bstep ?_ hb1 | refine Below.setCell ?_ (by simp <;> omega) _ | refine balloc ?_ _ | refine Below.drew ?_ | refine bdrewN ?_ _))⟩
set_option maxHeartbeats 1000000 in
theorem rrest_near (tot r2 : Int) (u : P3) (k : Nat) (d A r : Int) (w : World) (d0 : decide (tot < 0) = false) (d1 : decide (1048576 < tot) = false) (d2 : decide (r2 < 0) = false) (d3 : decide (131072 < r2) = false) (SM : Hid (∀ W, Calls Tryd.prog 15 #[ptv u, .int .i64 384] W fun e w' => e = .returned (.bool true) ∧ Below W.heap.size W w')) (e0 : decide ((k : Int) < 0) = false) (e1 : decide (2 < (k : Int)) = false) (m0 : 0 ≤ r2 ∧ r2 ≤ 131072) (m1 : 0 ≤ d ∧ d ≤ 442368) (AA : Hid (∀ W, Calls Tryd.prog 58 #[.int .i64 (r2 * 1048576 * 1048576)] W fun e w' => e = .returned (.int .i64 A) ∧ W = w')) (QQ : Hid (∀ W, Calls Tryd.prog 38 #[ptv u] W fun e w' => e = .returned (.int .i64 d) ∧ Below W.heap.size W w')) (BB : Hid (∀ W, Calls Tryd.prog 59 #[.int .i64 (d * 1048576 * 1048576)] W fun e w' => e = .returned (.int .i64 r) ∧ W = w')) (h : r ≤ A) : Calls Tryd.prog 23 #[.int .i64 tot, .int .i64 r2, ptv u, .int .i64 (k : Int)] w fun e w' => e = .returned (.tuple #[.int .i64 0, .int .i64 10]) ∧ Below w.heap.size w w' := by
  have wr0 : IntKind.i64.wrap (r2 * 1048576) = r2 * 1048576 := IntWalk.i64_in _ (by omega)
  have wr1 : IntKind.i64.wrap (r2 * 1048576 * 1048576) = r2 * 1048576 * 1048576 := IntWalk.i64_in _ (by omega)
  have wr2 : IntKind.i64.wrap (d * 1048576) = d * 1048576 := IntWalk.i64_in _ (by omega)
  have wr3 : IntKind.i64.wrap (d * 1048576 * 1048576) = d * 1048576 * 1048576 := IntWalk.i64_in _ (by omega)
  go_enter Tryd.func23, Tryd.ntmps23
  go_wp2_with fail
  refine (SM.out _).mono ?_
  rintro e w1 ⟨rfl, hb1⟩
  have i0 := own_drew (own_below (own_new w u 24) hb1)
  have B1 := Lib.hid (Below.drew (bstep (balloc (Below.refl _ w) _) hb1))
  clear hb1
  go_wp2_with fail
  go_region_held3 (fun w' => w'.cell? ⟨w.heap.size, 0, none⟩ = some (.int .i64 u.1) ∧ w'.cell? ⟨w.heap.size, 1, none⟩ = some (.int .i64 u.2.1) ∧ w'.cell? ⟨w.heap.size, 2, none⟩ = some (.int .i64 u.2.2))
    (first | exact own_cells i1 | exact own_cells i0 | fail)
    (first | (go_at_call 58; (with_reducible refine (AA.out _).mono ?_); rintro e v1 ⟨rfl, rfl⟩) | (go_at_call 38; (with_reducible refine (QQ.out _).mono ?_); rintro e v2 ⟨rfl, hv2⟩; have i1 := own_below i0 hv2; have B2 := Lib.hid (bstep B1.out hv2)) | (go_at_call 59; (with_reducible refine (BB.out _).mono ?_); rintro e v3 ⟨rfl, rfl⟩) | fail)
  all_goals
    go_wp2
    go_ret2
    exact ⟨rfl, B2.out⟩
set_option maxHeartbeats 2000000 in
theorem rrest_far (tot r2 : Int) (u : P3) (k : Nat) (d A r : Int) (w : World) (d0 : decide (tot < 0) = false) (d1 : decide (1048576 < tot) = false) (d2 : decide (r2 < 0) = false) (d3 : decide (131072 < r2) = false) (SM : Hid (∀ W, Calls Tryd.prog 15 #[ptv u, .int .i64 384] W fun e w' => e = .returned (.bool true) ∧ Below W.heap.size W w')) (e0 : decide ((k : Int) < 0) = false) (e1 : decide (2 < (k : Int)) = false) (m0 : 0 ≤ r2 ∧ r2 ≤ 131072) (m1 : 0 ≤ d ∧ d ≤ 442368) (AA : Hid (∀ W, Calls Tryd.prog 58 #[.int .i64 (r2 * 1048576 * 1048576)] W fun e w' => e = .returned (.int .i64 A) ∧ W = w')) (QQ : Hid (∀ W, Calls Tryd.prog 38 #[ptv u] W fun e w' => e = .returned (.int .i64 d) ∧ Below W.heap.size W w')) (BB : Hid (∀ W, Calls Tryd.prog 59 #[.int .i64 (d * 1048576 * 1048576)] W fun e w' => e = .returned (.int .i64 r) ∧ W = w')) (h : A < r) (t0 : 0 ≤ tot) (t1 : tot ≤ 1048576) (a0 : 0 ≤ A) (r1 : r ≤ 1099511627776) (hk : k ≤ 2) : Calls Tryd.prog 23 #[.int .i64 tot, .int .i64 r2, ptv u, .int .i64 (k : Int)] w fun e w' => e = .returned (.tuple #[.int .i64 (beR tot A r k).1, .int .i64 (beR tot A r k).2]) ∧ Below w.heap.size w w' := by
  have T := ce_bd (n := A * 1048576) (d := r) (B := 1048576) (by omega) (by omega) (by omega)
  have U1 := Lib.hid fun W => rup4_any (A * 1048576) r W (by omega) (by omega) (by omega) (by omega)
  have EN := Lib.hid (show beN tot A r k = Sp.ce (tot * pwr (Sp.ce (A * 1048576) r) k * 1048576) (r - A) from rfl)
  generalize Sp.ce (A * 1048576) r = t at *
  have P := Lib.hid (pwr_bd T.1 T.2)
  have pk := P.out k
  have tp := mul_le20 t0 t1 pk.1 pk.2
  have U3 := Lib.hid fun W => rup4_any (tot * pwr t k * 1048576) (r - A) W (by omega) (by omega) (by omega) (by omega)
  rw [← EN.out] at U3
  have R0 := Lib.hid (fun g => beR_big (tot := tot) (a := A) (r := r) (k := k) h g)
  have R1 := Lib.hid (fun g => beR_ok (tot := tot) (a := A) (r := r) (k := k) h g)
  have hk' : (k : Int) ≤ 2 := by omega
  clear EN
  generalize beN tot A r k = n at *
  have wr0 : IntKind.i64.wrap (r2 * 1048576) = r2 * 1048576 := IntWalk.i64_in _ (by omega)
  have wr1 : IntKind.i64.wrap (r2 * 1048576 * 1048576) = r2 * 1048576 * 1048576 := IntWalk.i64_in _ (by omega)
  have wr2 : IntKind.i64.wrap (d * 1048576) = d * 1048576 := IntWalk.i64_in _ (by omega)
  have wr3 : IntKind.i64.wrap (d * 1048576 * 1048576) = d * 1048576 * 1048576 := IntWalk.i64_in _ (by omega)
  go_enter Tryd.func23, Tryd.ntmps23
  go_wp2_with fail
  refine (SM.out _).mono ?_
  rintro e w1 ⟨rfl, hb1⟩
  have i0 := own_drew (own_below (own_new w u 24) hb1)
  have B1 := Lib.hid (Below.drew (bstep (balloc (Below.refl _ w) _) hb1))
  clear hb1
  go_wp2_with fail
  go_region_held3 (fun w' => w'.cell? ⟨w.heap.size, 0, none⟩ = some (.int .i64 u.1) ∧ w'.cell? ⟨w.heap.size, 1, none⟩ = some (.int .i64 u.2.1) ∧ w'.cell? ⟨w.heap.size, 2, none⟩ = some (.int .i64 u.2.2))
    (first | exact own_cells i1 | exact own_cells i0 | fail)
    (first | (go_at_call 58; (with_reducible refine (AA.out _).mono ?_); rintro e v1 ⟨rfl, rfl⟩) | (go_at_call 38; (with_reducible refine (QQ.out _).mono ?_); rintro e v2 ⟨rfl, hv2⟩; have i1 := own_below i0 hv2; have B2 := Lib.hid (bstep B1.out hv2)) | (go_at_call 59; (with_reducible refine (BB.out _).mono ?_); rintro e v3 ⟨rfl, rfl⟩) | fail)
  all_goals
    clear i0 i1
    go_wp2_with fail
    refine (U1.out _).mono ?_
    rintro e w5 ⟨rfl, rfl⟩
    go_wp2
    go_loopw [13, 14] (fun pv kv wr => ∃ j : Nat, j ≤ k ∧ kv = .int .i64 j ∧ pv = .int .i64 (pwr t j) ∧ Below w.heap.size w wr) (fun _ kv _ => k - (intOf kv).toNat)
    case atStart => exact ⟨0, Nat.zero_le _, by first | rfl | trivial, by first | rfl | trivial, B2.out⟩
    case round =>
      obtain ⟨j, hj, rfl, rfl, bb⟩ := hrel
      have B9 := Lib.hid bb
      clear bb
      by_cases hlt : j < k
      · have hk1 : (j : Int) < (k : Int) := by omega
        have pj := P.out j
        have E := Lib.hid (show pwr t (j + 1) = Sp.ce (pwr t j * t) 1048576 from rfl)
        generalize pwr t j = p at *
        have pt := mul_le20 pj.1 pj.2 T.1 T.2
        have U2 := Lib.hid fun W => rup4_any (p * t) 1048576 W (by omega) (by omega) (by omega) (by omega)
        go_wp2_with fail
        refine (U2.out _).mono ?_
        rintro e w6 ⟨rfl, rfl⟩
        go_wp2
        go_roundw
        case rel => exact ⟨j + 1, by omega, by go_num, by rw [E.out], B9.out⟩
        case measure => simp [intOf]; omega
      · obtain rfl : j = k := by omega
        generalize pwr t j = p at *
        go_wp2_with fail
        refine (U3.out _).mono ?_
        rintro e w6 ⟨rfl, rfl⟩
        rcases Int.lt_or_le 1099511627776 n with g | g
        · have E := Lib.hid (R0.out g)
          go_wp2
          go_ret2
          exact ⟨by rw [E.out]; rfl, B9.out⟩
        · have E := Lib.hid (R1.out g)
          go_wp2
          go_ret2
          exact ⟨by rw [E.out]; rfl, B9.out⟩
theorem rrest_any (tot r2 : Int) (u : P3) (k : Int) (w : World) : Calls Tryd.prog 23 #[.int .i64 tot, .int .i64 r2, ptv u, .int .i64 k] w fun e w' => e = .returned (.tuple #[.int .i64 (restR tot r2 u k).1, .int .i64 (restR tot r2 u k).2]) ∧ Below w.heap.size w w' := by
  have no : ∀ {p q r s : Bool}, p = false ∨ q = false ∨ r = false ∨ s = false → (p && q && r && s) = false := by
    intro p q r s h
    rcases h with h | h | h | h <;> subst h <;> simp
  cases d0 : decide (tot < 0) with
  | true => rw [restR_no (no (.inl (rngB_not.2 (by have := of_decide_eq_true d0; omega))))]; exact rrest_0 tot r2 u k w d0
  | false =>
    cases d1 : decide (1048576 < tot) with
    | true => rw [restR_no (no (.inl (rngB_not.2 (by have := of_decide_eq_true d1; omega))))]; exact rrest_1 tot r2 u k w d0 d1
    | false =>
      cases d2 : decide (r2 < 0) with
      | true => rw [restR_no (no (.inr (.inl (rngB_not.2 (by have := of_decide_eq_true d2; omega)))))]; exact rrest_2 tot r2 u k w d0 d1 d2
      | false =>
        cases d3 : decide (131072 < r2) with
        | true => rw [restR_no (no (.inr (.inl (rngB_not.2 (by have := of_decide_eq_true d3; omega)))))]; exact rrest_3 tot r2 u k w d0 d1 d2 d3
        | false =>
          have sm := fun W => small_any u 384 W (by decide) (by decide)
          cases c : inP 384 u with
          | false => rw [c] at sm; rw [restR_no (no (.inr (.inr (.inl c))))]; exact rrest_4 tot r2 u k w d0 d1 d2 d3 (Lib.hid sm)
          | true =>
            rw [c] at sm
            cases e0 : decide (k < 0) with
            | true => rw [restR_no (no (.inr (.inr (.inr (rngB_not.2 (by have := of_decide_eq_true e0; omega))))))]; exact rrest_5 tot r2 u k w d0 d1 d2 d3 (Lib.hid sm) e0
            | false =>
              cases e1 : decide (2 < k) with
              | true => rw [restR_no (no (.inr (.inr (.inr (rngB_not.2 (by have := of_decide_eq_true e1; omega))))))]; exact rrest_6 tot r2 u k w d0 d1 d2 d3 (Lib.hid sm) e0 e1
              | false =>
                have a0 := of_decide_eq_false d0
                have a1 := of_decide_eq_false d1
                have b0 := of_decide_eq_false d2
                have b1 := of_decide_eq_false d3
                have c0 := of_decide_eq_false e0
                have c1 := of_decide_eq_false e1
                have ra := rngB_iff.2 (show (0 : Int) ≤ tot ∧ tot ≤ 1048576 by omega)
                have rb := rngB_iff.2 (show (0 : Int) ≤ r2 ∧ r2 ≤ 131072 by omega)
                have rk := rngB_iff.2 (show (0 : Int) ≤ k ∧ k ≤ 2 by omega)
                rw [restR_ok (by rw [ra, rb, c, rk]; rfl)]
                have d := sq_bd (inP_iff.1 c)
                obtain ⟨x, hx⟩ := Int.eq_ofNat_of_zero_le (show 0 ≤ r2 by omega)
                obtain ⟨y, hy⟩ := Int.eq_ofNat_of_zero_le d.1
                obtain ⟨j, hj⟩ := Int.eq_ofNat_of_zero_le (show 0 ≤ k by omega)
                rw [hx, hy, hj, Int.toNat_natCast, Int.toNat_natCast, Int.toNat_natCast]
                subst hx hj
                have ea : (x : Int) * 1048576 * 1048576 = ((x * 1099511627776 : Nat) : Int) := by omega
                have eb : (y : Int) * 1048576 * 1048576 = ((y * 1099511627776 : Nat) : Int) := by omega
                have aa := fun W => above4_any (x * 1099511627776) W (by omega)
                have bb := fun W => below4_any (y * 1099511627776) W (by omega)
                rw [← ea] at aa
                rw [← eb] at bb
                have qq := fun W => square4_any u W ((pw_bd (inP_iff.1 c)).mono (by decide))
                rw [hy] at qq
                rcases Int.lt_or_le ((Rt.csq (x * 1099511627776) : Nat) : Int) ((Rt.isq (y * 1099511627776) : Nat) : Int) with g | g
                · exact rrest_far tot x u j y _ _ w d0 d1 d2 d3 (Lib.hid sm) e0 e1 ⟨by omega, by omega⟩ ⟨by omega, by omega⟩ (Lib.hid aa) (Lib.hid qq) (Lib.hid bb) g (by omega) (by omega) (by omega) (by have := isq_bd2 y (by omega); omega) (by omega)
                · rw [beR_near g]
                  exact rrest_near tot x u j y _ _ w d0 d1 d2 d3 (Lib.hid sm) e0 e1 ⟨by omega, by omega⟩ ⟨by omega, by omega⟩ (Lib.hid aa) (Lib.hid qq) (Lib.hid bb) g
/-- a vector and an order in memory -/
def Way4 (w : World) (b : Nat) (u : P3) (k : Int) : Prop := w.cell? ⟨b, 0, none⟩ = some (.int .i64 u.1) ∧ w.cell? ⟨b, 1, none⟩ = some (.int .i64 u.2.1) ∧ w.cell? ⟨b, 2, none⟩ = some (.int .i64 u.2.2) ∧ w.cell? ⟨b, 3, none⟩ = some (.int .i64 k) ∧ b < w.heap.size
theorem way_new (w : World) (u : P3) (k : Int) (t : TypeId) : Way4 (w.alloc (.cells #[.int .i64 u.1, .int .i64 u.2.1, .int .i64 u.2.2, .int .i64 k] t)) w.heap.size u k := ⟨by go_simp, by go_simp, by go_simp, by go_simp, by simp⟩
theorem way_below {w w1 : World} {b : Nat} {u : P3} {k : Int} (h : Way4 w b u k) (hb : Below w.heap.size w w1) : Way4 w1 b u k := by
  obtain ⟨h1, h2, h3, h4, l⟩ := h
  exact ⟨(hb.cell (p := ⟨b, 0, none⟩) l).trans h1, (hb.cell (p := ⟨b, 1, none⟩) l).trans h2, (hb.cell (p := ⟨b, 2, none⟩) l).trans h3, (hb.cell (p := ⟨b, 3, none⟩) l).trans h4, Nat.lt_of_lt_of_le l hb.size⟩
theorem mrs_walk0 (tot r2 : Int) (u : P3) (k : Int) (x er : Int) (w : World) (pl : Plc w) (A : Hid (∀ W, Calls Tryd.prog 22 #[.int .i64 tot, .int .i64 r2, ptv u, .int .i64 k] W fun e w' => e = .returned (.tuple #[.int .i64 x, .int .i64 er]) ∧ Below W.heap.size W w')) (B : Hid (∀ W, Calls Tryd.prog 23 #[.int .i64 tot, .int .i64 r2, ptv u, .int .i64 k] W fun e w' => e = .returned (.tuple #[.int .i64 x, .int .i64 er]) ∧ Below W.heap.size W w')) (S : Hid (∀ W, Plc W → Calls Tryd.prog 9 #[] W fun e w' => e = .returned (.bool true) ∧ Below W.heap.size W w')) : Calls Tryd.prog 7 #[.int .i64 tot, .int .i64 r2, .agg #[.int .i64 u.1, .int .i64 u.2.1, .int .i64 u.2.2, .int .i64 k]] w fun e w' => e = .returned (.bool true) ∧ Below w.heap.size w w' := by
  have PL := Lib.hid pl
  have gz : 0 < w.heap.size := pl.2
  clear pl
  have WB := way_new w u k 46
  go_enter Tryd.func7, Tryd.ntmps7
  have WB' := WB
  obtain ⟨q1, q2, q3, q4, q5⟩ := WB'
  go_wp2_with fail
  refine (A.out _).mono ?_
  rintro e w1 ⟨rfl, hb1⟩
  clear q1 q2 q3 q4 q5
  have W1 := way_below WB hb1
  have W1' := W1
  obtain ⟨q1, q2, q3, q4, q5⟩ := W1'
  go_wp2_with fail
  refine (B.out _).mono ?_
  rintro e w2 ⟨rfl, hb2⟩
  clear q1 q2 q3 q4 q5 W1 WB
  have B2 := bstep (bstep (balloc (Below.refl _ w) _) hb1) hb2
  go_wp2_with fail
  refine (S.out _ (plc_in PL.out B2 gz)).mono ?_
  rintro e w3 ⟨rfl, hb3⟩
  have B3 := bstep B2 hb3
  go_wp2
  go_ret
  exact ⟨rfl, B3⟩
theorem mrs_walk (tot r2 : Int) (u : P3) (k : Int) (w : World) (pl : Plc w) : Calls Tryd.prog 7 #[.int .i64 tot, .int .i64 r2, .agg #[.int .i64 u.1, .int .i64 u.2.1, .int .i64 u.2.2, .int .i64 k]] w fun e w' => e = .returned (.bool true) ∧ Below w.heap.size w w' :=
  mrs_walk0 tot r2 u k _ _ w pl (Lib.hid fun W => mrest_any tot r2 u k W) (Lib.hid fun W => rrest_any tot r2 u k W) (Lib.hid fun W p => sane_any W p)

end Go.Proofs.YtjflgiegnibgmaaDoor
