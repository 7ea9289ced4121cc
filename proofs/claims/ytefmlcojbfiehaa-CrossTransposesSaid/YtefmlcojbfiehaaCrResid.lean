/-
  The walk of CrossResiduals.
-/
import Derived.Test.YtefmlcojbfiehaaCrMinors
namespace Go.Proofs.Ytefmlcojbfiehaa
open Go.ChangeShapes Go.WideShapes Go.RowKit
open Cr
/-- the two numbers of an element in the second block of the call's own -/
def EB (w : World) (i j : Int) (w' : World) : Prop := w'.cell? ⟨w.heap.size + 1, 0, none⟩ = some (.int .i64 i) ∧ w'.cell? ⟨w.heap.size + 1, 1, none⟩ = some (.int .i64 j) ∧ w.heap.size + 1 < w'.heap.size
theorem eb_below {w : World} {i j : Int} {w1 w2 : World} (h : EB w i j w1) (hb : Below w1.heap.size w1 w2) : EB w i j w2 := by
  obtain ⟨h0, h1, h3⟩ := h
  exact ⟨(hb.cell (p := ⟨w.heap.size + 1, 0, none⟩) h3).trans h0, (hb.cell (p := ⟨w.heap.size + 1, 1, none⟩) h3).trans h1, Nat.lt_of_lt_of_le h3 hb.size⟩
theorem eb_s {w : World} {i j : Int} {w1 : World} (h : EB w i j w1) : w1.cell? ⟨w.heap.size + 1, 0, none⟩ = some (.int .i64 i) ∧ w1.cell? ⟨w.heap.size + 1, 1, none⟩ = some (.int .i64 j) ∧ w.heap.size + 1 < w1.heap.size := h
/-- a fraction in the block q -/
def RB (q : Nat) (r : Int × Int) (w' : World) : Prop := w'.cell? ⟨q, 0, none⟩ = some (.int .i64 r.1) ∧ w'.cell? ⟨q, 1, none⟩ = some (.int .i64 r.2) ∧ q < w'.heap.size
theorem rb_new (w : World) (r : Int × Int) : RB w.heap.size r (w.alloc (rtc r)) := ⟨by go_simp, by go_simp, by simp⟩
theorem rb_below {q : Nat} {r : Int × Int} {w1 w2 : World} (h : RB q r w1) (hb : Below w1.heap.size w1 w2) : RB q r w2 := by
  obtain ⟨h0, h1, h3⟩ := h
  exact ⟨(hb.cell (p := ⟨q, 0, none⟩) h3).trans h0, (hb.cell (p := ⟨q, 1, none⟩) h3).trans h1, Nat.lt_of_lt_of_le h3 hb.size⟩
theorem rb_s {q : Nat} {r : Int × Int} {w' : World} (h : RB q r w') : w'.cell? ⟨q, 0, none⟩ = some (.int .i64 r.1) ∧ w'.cell? ⟨q, 1, none⟩ = some (.int .i64 r.2) ∧ q < w'.heap.size := h
set_option maxHeartbeats 2000000 in
theorem residuals_walk (A : Option Addr) (c : Nat) (M : List (List Int)) (R : Option Addr) (cr : Nat) (rows : List Int) (C : Option Addr) (cc : Nat) (cols : List Int) (i j : Int) (w : World) (lM : M.length ≤ c) (cM : c ≤ maxLen) (hM : ML w A M) (lR : rows.length ≤ cr) (cR : cr ≤ maxLen) (hR : IL w R rows) (lC : cols.length ≤ cc) (cC : cc ≤ maxLen) (hC : IL w C cols) :
    Calls Try.prog 6 #[.slice A M.length c, cdv R rows.length cr C cols.length cc, .agg #[.int .i64 i, .int .i64 j]] w fun e w' => e = .returned (.bool true) ∧ Below w.heap.size w w' := by
  have hm0 : M.length ≤ 9223372036854775807 := by unfold maxLen at cM; omega
  have hk0 : rows.length ≤ 9223372036854775807 := by unfold maxLen at cR; omega
  have hl0 : cols.length ≤ 9223372036854775807 := by unfold maxLen at cC; omega
  have LO := Lib.hid (fun W (B : Below w.heap.size w W) => long_any6 A c M W (ml_in hM B) hm0)
  have MA := Lib.hid (fun W => many_any R C rows.length cr cols.length cc W)
  have KN := Lib.hid (fun W => known6_any W)
  have X0 := Lib.hid (cb_below (cb_new w R rows.length cr C cols.length cc) (alloc_below _ (.cells #[.int .i64 i, .int .i64 j] 44)))
  have Y0 := Lib.hid (show EB w i j ((w.alloc (.cells #[.slice R rows.length cr, .slice C cols.length cc] 25)).alloc (.cells #[.int .i64 i, .int .i64 j] 44)) from ⟨by go_simp, by go_simp, by simp⟩)
  cases hlo : longB M with
  | true =>
    rw [hlo] at LO
    clear lM cM hM lR cR hR lC cC hC hlo
    go_enter Try.func6, Try.ntmps6
    go_wp2_with fail
    with_reducible refine (LO.out _ X0.out.bel).mono ?_
    rintro e w2 ⟨rfl, rfl⟩
    have HB := Lib.hid X0.out.bel
    go_wp2_with fail
    with_reducible refine (KN.out _).mono ?_
    rintro e w9 ⟨rfl, hb9⟩
    have HB9 := Lib.hid (bstep HB.out hb9)
    clear hb9
    go_wp2_with fail
    go_ret
    exact ⟨rfl, HB9.out⟩
  | false =>
    rw [hlo] at LO
    cases hma : (decide (40 < rows.length) || decide (40 < cols.length)) with
    | true =>
      rw [hma] at MA
      obtain ⟨q0, q1, q2⟩ := cb_s X0.out
      clear lM cM hM lR cR hR lC cC hC hlo hma
      go_enter Try.func6, Try.ntmps6
      go_wp2_with fail
      with_reducible refine (LO.out _ X0.out.bel).mono ?_
      rintro e w2 ⟨rfl, rfl⟩
      go_wp2_with fail
      with_reducible refine (MA.out _).mono ?_
      rintro e w2 ⟨rfl, rfl⟩
      have HB := Lib.hid (balloc X0.out.bel (.cells #[.slice R rows.length cr, .slice C cols.length cc] 25))
      go_wp2_with fail
      with_reducible refine (KN.out _).mono ?_
      rintro e w9 ⟨rfl, hb9⟩
      have HB9 := Lib.hid (bstep HB.out hb9)
      clear hb9
      go_wp2_with fail
      go_ret
      exact ⟨rfl, HB9.out⟩
    | false =>
      rw [hma] at MA
      simp only [Bool.or_eq_false_iff, decide_eq_false_iff_not] at hma
      have AG := Lib.hid (arg_of hM hR hC hlo hma.1 hma.2)
      have P1 := Lib.hid (fun W (B : Below w.heap.size w W) => res_any A R C c cr cc M rows cols i j W (arg_in AG.out B))
      have P2 := Lib.hid (fun W (B : Below w.heap.size w W) => rres_any A R C c cr cc M rows cols i j W (arg_in AG.out B) lR lC)
      clear lM cM hM lR cR hR lC cC hC hlo hma
      generalize resd M rows cols i j = rr at *
      obtain ⟨⟨r1, r2⟩, e0⟩ := rr
      have P1 : Hid (∀ W, Below w.heap.size w W → Calls Try.prog 31 #[.slice A M.length c, .slice R rows.length cr, .slice C cols.length cc, .int .i64 i, .int .i64 j] W fun e w' => e = .returned (.tuple #[rtv (r1, r2), .int .i64 e0]) ∧ Below W.heap.size W w') := P1
      have P2 : Hid (∀ W, Below w.heap.size w W → Calls Try.prog 32 #[.slice A M.length c, .slice R rows.length cr, .slice C cols.length cc, .int .i64 i, .int .i64 j] W fun e w' => e = .returned (.tuple #[rtv (r1, r2), .int .i64 e0]) ∧ Below W.heap.size W w') := P2
      obtain ⟨q0, q1, q2⟩ := cb_s X0.out
      obtain ⟨y0, y1, y2⟩ := eb_s Y0.out
      go_enter Try.func6, Try.ntmps6
      go_wp2_with fail
      with_reducible refine (LO.out _ X0.out.bel).mono ?_
      rintro e w2 ⟨rfl, rfl⟩
      go_wp2_with fail
      with_reducible refine (MA.out _).mono ?_
      rintro e w2 ⟨rfl, rfl⟩
      have AB := Lib.hid (alloc_below ((w.alloc (.cells #[.slice R rows.length cr, .slice C cols.length cc] 25)).alloc (.cells #[.int .i64 i, .int .i64 j] 44)) (.cells #[.slice R rows.length cr, .slice C cols.length cc] 25))
      have X1 := Lib.hid (cb_below X0.out AB.out)
      have Y1 := Lib.hid (eb_below Y0.out AB.out)
      clear q0 q1 q2 y0 y1 y2
      obtain ⟨q0, q1, q2⟩ := cb_s X1.out
      obtain ⟨y0, y1, y2⟩ := eb_s Y1.out
      go_wp2_with fail
      with_reducible refine (P1.out _ X1.out.bel).mono ?_
      rintro e w3 ⟨rfl, hb⟩
      have AB3 := Lib.hid (alloc_below w3 (rtc (r1, r2)))
      have X2 := Lib.hid (cb_below X1.out hb)
      have Y2 := Lib.hid (eb_below Y1.out hb)
      have X3 := Lib.hid (cb_below X2.out AB3.out)
      have Y3 := Lib.hid (eb_below Y2.out AB3.out)
      have Z3 := Lib.hid (rb_new w3 (r1, r2))
      clear hb
      clear q0 q1 q2 y0 y1 y2
      obtain ⟨q0, q1, q2⟩ := cb_s X3.out
      obtain ⟨y0, y1, y2⟩ := eb_s Y3.out
      go_wp2_with fail
      with_reducible refine (P2.out _ X3.out.bel).mono ?_
      rintro e w4 ⟨rfl, hb⟩
      have X4 := Lib.hid (cb_below X3.out hb)
      have Y4 := Lib.hid (eb_below Y3.out hb)
      have Z4 := Lib.hid (rb_below Z3.out hb)
      have HB := Lib.hid (balloc X4.out.bel (rtc (r1, r2)))
      obtain ⟨z0, z1, z2⟩ := rb_s Z4.out
      clear hb
      clear q0 q1 q2 y0 y1 y2
      go_wp2_with fail
      with_reducible refine (KN.out _).mono ?_
      rintro e w9 ⟨rfl, hb9⟩
      have HB9 := Lib.hid (bstep HB.out hb9)
      clear hb9
      go_wp2_with fail
      go_ret
      exact ⟨rfl, HB9.out⟩

end Go.Proofs.Ytefmlcojbfiehaa
