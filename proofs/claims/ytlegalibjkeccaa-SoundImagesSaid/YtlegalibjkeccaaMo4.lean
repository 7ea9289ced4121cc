/-
  The contracts of the document's small words of moments: sizes, limits, sums and differences of points.
-/
import Derived.Test.YtlegalibjkeccaaMo1
namespace Go.Proofs.Ytlegalibjkeccaa
open Go.ChangeShapes Go.WideShapes Go.RowKit
open Sh
attribute [local go_sem 1000000] run_min_mn run_max_mx
/-- the size of a number, as the program's negation has it -/
def szI (n : Int) : Int := Sp.mx n (wrap64 (-n))
theorem szI_le {n L : Int} (h0 : 0 ≤ L) (hL : L ≤ 4611686018427387904) : (szI n ≤ L ∧ -L ≤ n) ↔ (-L ≤ n ∧ n ≤ L) := by
  unfold szI Sp.mx
  constructor
  · rintro ⟨h, k⟩
    refine ⟨k, ?_⟩
    split at h <;> omega
  · rintro ⟨h, k⟩
    refine ⟨?_, h⟩
    have e : wrap64 (-n) = -n := IntWalk.wrap64_in _ (by omega)
    rw [e]
    split <;> omega
theorem szI_abs {n : Int} (h : -4611686018427387904 ≤ n ∧ n ≤ 4611686018427387904) : szI n = absI n := by
  unfold szI Sp.mx absI
  have e : wrap64 (-n) = -n := IntWalk.wrap64_in _ (by omega)
  rw [e]
  split <;> split <;> omega
theorem size_any (n : Int) (w : World) :
    Calls Try.prog 51 #[.int .i64 n] w fun e w' => e = .returned (.int .i64 (szI n)) ∧ w = w' := by
  go_enter Try.func51, Try.ntmps51
  go_wp2
  go_ret
  exact ⟨rfl, rfl⟩
theorem inP_sz (a : P3) (L : Int) (h0 : 0 ≤ L) (hL : L ≤ 4611686018427387904) : inP L a = (decide (szI a.1 ≤ L) && decide (szI a.2.1 ≤ L) && decide (szI a.2.2 ≤ L) && decide (-L ≤ a.1) && decide (-L ≤ a.2.1) && decide (-L ≤ a.2.2)) := by
  have x := szI_le (n := a.1) h0 hL
  have y := szI_le (n := a.2.1) h0 hL
  have z := szI_le (n := a.2.2) h0 hL
  unfold inP
  rw [Bool.eq_iff_iff]
  simp only [decide_eq_true_eq, Bool.and_eq_true]
  constructor
  · rintro ⟨h1, h2, h3, h4, h5, h6⟩
    exact ⟨⟨⟨⟨⟨(x.2 ⟨h1, h2⟩).1, (y.2 ⟨h3, h4⟩).1⟩, (z.2 ⟨h5, h6⟩).1⟩, h1⟩, h3⟩, h5⟩
  · rintro ⟨⟨⟨⟨⟨h1, h2⟩, h3⟩, h4⟩, h5⟩, h6⟩
    exact ⟨h4, (x.1 ⟨h1, h4⟩).2, h5, (y.1 ⟨h2, h5⟩).2, h6, (z.1 ⟨h3, h6⟩).2⟩
set_option maxHeartbeats 1000000 in
theorem small_any (a : P3) (L : Int) (w : World) (b1 : 0 ≤ L) (b2 : L ≤ 4611686018427387904) :
    Calls Try.prog 34 #[ptv a, .int .i64 L] w fun e w' => e = .returned (.bool (inP L a)) ∧ Below w.heap.size w w' := by
  cases h0 : decide (szI a.1 ≤ L) with
  | false =>
    rw [inP_sz a L b1 b2, h0]
    go_enter Try.func34, Try.ntmps34
    go_wp2_with (go_at_call 51; (with_reducible refine (size_any _ _).mono ?_); rintro e w' ⟨rfl, rfl⟩)
    go_ret
    exact ⟨rfl, by (repeat' (first | exact Below.refl _ _ | refine Below.setCell ?_ (by simp <;> omega) _ | refine balloc ?_ _ | refine Below.drew ?_ | refine bdrewN ?_ _))⟩
  | true =>
    cases h1 : decide (szI a.2.1 ≤ L) with
    | false =>
      rw [inP_sz a L b1 b2, h0, h1]
      go_enter Try.func34, Try.ntmps34
      go_wp2_with (go_at_call 51; (with_reducible refine (size_any _ _).mono ?_); rintro e w' ⟨rfl, rfl⟩)
      go_ret
      exact ⟨rfl, by (repeat' (first | exact Below.refl _ _ | refine Below.setCell ?_ (by simp <;> omega) _ | refine balloc ?_ _ | refine Below.drew ?_ | refine bdrewN ?_ _))⟩
    | true =>
      cases h2 : decide (szI a.2.2 ≤ L) with
      | false =>
        rw [inP_sz a L b1 b2, h0, h1, h2]
        go_enter Try.func34, Try.ntmps34
        go_wp2_with (go_at_call 51; (with_reducible refine (size_any _ _).mono ?_); rintro e w' ⟨rfl, rfl⟩)
        go_ret
        exact ⟨rfl, by (repeat' (first | exact Below.refl _ _ | refine Below.setCell ?_ (by simp <;> omega) _ | refine balloc ?_ _ | refine Below.drew ?_ | refine bdrewN ?_ _))⟩
      | true =>
        cases h3 : decide (-L ≤ a.1) with
        | false =>
          rw [inP_sz a L b1 b2, h0, h1, h2, h3]
          go_enter Try.func34, Try.ntmps34
          go_wp2_with (go_at_call 51; (with_reducible refine (size_any _ _).mono ?_); rintro e w' ⟨rfl, rfl⟩)
          go_ret
          exact ⟨rfl, by (repeat' (first | exact Below.refl _ _ | refine Below.setCell ?_ (by simp <;> omega) _ | refine balloc ?_ _ | refine Below.drew ?_ | refine bdrewN ?_ _))⟩
        | true =>
          cases h4 : decide (-L ≤ a.2.1) with
          | false =>
            rw [inP_sz a L b1 b2, h0, h1, h2, h3, h4]
            go_enter Try.func34, Try.ntmps34
            go_wp2_with (go_at_call 51; (with_reducible refine (size_any _ _).mono ?_); rintro e w' ⟨rfl, rfl⟩)
            go_ret
            exact ⟨rfl, by (repeat' (first | exact Below.refl _ _ | refine Below.setCell ?_ (by simp <;> omega) _ | refine balloc ?_ _ | refine Below.drew ?_ | refine bdrewN ?_ _))⟩
          | true =>
            cases h5 : decide (-L ≤ a.2.2) with
            | false =>
              rw [inP_sz a L b1 b2, h0, h1, h2, h3, h4, h5]
              go_enter Try.func34, Try.ntmps34
              go_wp2_with (go_at_call 51; (with_reducible refine (size_any _ _).mono ?_); rintro e w' ⟨rfl, rfl⟩)
              go_ret
              exact ⟨rfl, by (repeat' (first | exact Below.refl _ _ | refine Below.setCell ?_ (by simp <;> omega) _ | refine balloc ?_ _ | refine Below.drew ?_ | refine bdrewN ?_ _))⟩
            | true =>
              rw [inP_sz a L b1 b2, h0, h1, h2, h3, h4, h5]
              go_enter Try.func34, Try.ntmps34
              go_wp2_with (go_at_call 51; (with_reducible refine (size_any _ _).mono ?_); rintro e w' ⟨rfl, rfl⟩)
              go_ret
              exact ⟨rfl, by (repeat' (first | exact Below.refl _ _ | refine Below.setCell ?_ (by simp <;> omega) _ | refine balloc ?_ _ | refine Below.drew ?_ | refine bdrewN ?_ _))⟩
theorem minus4_any (a b : P3) (w : World) (h : BdP 4611686018427387904 (sub a b)) :
    Calls Try.prog 36 #[ptv a, ptv b] w fun e w' => e = .returned (ptv (sub a b)) ∧ Below w.heap.size w w' := by
  simp only [BdP, sub] at h
  obtain ⟨h1, h2, h3, h4, h5, h6⟩ := h
  go_enter Try.func36, Try.ntmps36
  go_wp2
  refine bodyPost_ret (v := ptv (sub a b)) (by rw [results_cell rfl]; go_simp; exact ⟨rfl, rfl, rfl⟩) rfl ⟨rfl, ?_⟩
  (repeat' (first | exact Below.refl _ _ | refine Below.setCell ?_ (by simp <;> omega) _ | refine balloc ?_ _ | refine Below.drew ?_ | refine bdrewN ?_ _))
theorem square4_any (a : P3) (w : World) (h : BdP 1152921504606846976 (pw a a)) :
    Calls Try.prog 35 #[ptv a] w fun e w' => e = .returned (.int .i64 (sq a)) ∧ Below w.heap.size w w' := by
  simp only [BdP, pw] at h
  obtain ⟨h1, h2, h3, h4, h5, h6⟩ := h
  go_enter Try.func35, Try.ntmps35
  go_wp2
  go_ret
  exact ⟨rfl, by (repeat' (first | exact Below.refl _ _ | refine Below.setCell ?_ (by simp <;> omega) _ | refine balloc ?_ _ | refine Below.drew ?_ | refine bdrewN ?_ _))⟩

end Go.Proofs.Ytlegalibjkeccaa
