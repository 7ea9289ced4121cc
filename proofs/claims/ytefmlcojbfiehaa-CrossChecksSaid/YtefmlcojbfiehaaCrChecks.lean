/-
  The walk of CrossChecks.
-/
import Derived.Test.YtefmlcojbfiehaaCr28
namespace Go.Proofs.Ytefmlcojbfiehaa
open Go.ChangeShapes Go.WideShapes Go.RowKit
open Cr
def KS (w : World) (R : Option Addr) (k cr : Nat) (C : Option Addr) (l cc : Nat) (p q : Int) (w1 : World) : Prop := w1.cell? ⟨w.heap.size, 0, none⟩ = some (.slice R k cr) ∧ w1.cell? ⟨w.heap.size, 1, none⟩ = some (.slice C l cc) ∧ w1.cell? ⟨(w.heap.size + 1), 0, none⟩ = some (.int .i64 p) ∧ w1.cell? ⟨(w.heap.size + 1), 1, none⟩ = some (.int .i64 q) ∧ Below w.heap.size w w1 ∧ w.heap.size < w1.heap.size ∧ (w.heap.size + 1) < w1.heap.size
theorem ks_s {w : World} {R : Option Addr} {k cr : Nat} {C : Option Addr} {l cc : Nat} {p q : Int} {w1 : World} (h : KS w R k cr C l cc p q w1) : w1.cell? ⟨w.heap.size, 0, none⟩ = some (.slice R k cr) ∧ w1.cell? ⟨w.heap.size, 1, none⟩ = some (.slice C l cc) ∧ w1.cell? ⟨(w.heap.size + 1), 0, none⟩ = some (.int .i64 p) ∧ w1.cell? ⟨(w.heap.size + 1), 1, none⟩ = some (.int .i64 q) ∧ Below w.heap.size w w1 ∧ w.heap.size < w1.heap.size ∧ (w.heap.size + 1) < w1.heap.size := h
theorem ks_of {w : World} {R : Option Addr} {k cr : Nat} {C : Option Addr} {l cc : Nat} {p q : Int} {w1 : World} (h : w1.cell? ⟨w.heap.size, 0, none⟩ = some (.slice R k cr) ∧ w1.cell? ⟨w.heap.size, 1, none⟩ = some (.slice C l cc) ∧ w1.cell? ⟨(w.heap.size + 1), 0, none⟩ = some (.int .i64 p) ∧ w1.cell? ⟨(w.heap.size + 1), 1, none⟩ = some (.int .i64 q) ∧ Below w.heap.size w w1 ∧ w.heap.size < w1.heap.size ∧ (w.heap.size + 1) < w1.heap.size) : KS w R k cr C l cc p q w1 := h
theorem ks_drew {w : World} {R : Option Addr} {k cr : Nat} {C : Option Addr} {l cc : Nat} {p q : Int} {w1 : World} (h : KS w R k cr C l cc p q w1) : KS w R k cr C l cc p q w1.drew := by
  obtain ⟨h0, h1, h2, h3, hB, b0, b1⟩ := h
  exact ⟨h0, h1, h2, h3, Below.drew hB, b0, b1⟩
theorem ks_drewN {w : World} {R : Option Addr} {k cr : Nat} {C : Option Addr} {l cc : Nat} {p q : Int} {w1 : World} (h : KS w R k cr C l cc p q w1) (kk : Nat) : KS w R k cr C l cc p q (w1.drewN kk) := by
  obtain ⟨h0, h1, h2, h3, hB, b0, b1⟩ := h
  exact ⟨h0, h1, h2, h3, bdrewN hB kk, b0, b1⟩
theorem ks_bel {w : World} {R : Option Addr} {k cr : Nat} {C : Option Addr} {l cc : Nat} {p q : Int} {w1 : World} (h : KS w R k cr C l cc p q w1) : Below w.heap.size w w1 := by
  obtain ⟨h0, h1, h2, h3, hB, b0, b1⟩ := h
  exact hB
theorem ks_below {w : World} {R : Option Addr} {k cr : Nat} {C : Option Addr} {l cc : Nat} {p q : Int} {w1 w2 : World} (h : KS w R k cr C l cc p q w1) (hb : Below w1.heap.size w1 w2) : KS w R k cr C l cc p q w2 := by
  obtain ⟨h0, h1, h2, h3, hB, b0, b1⟩ := h
  exact ⟨(hb.cell (p := ⟨w.heap.size, 0, none⟩) b0).trans h0, (hb.cell (p := ⟨w.heap.size, 1, none⟩) b0).trans h1, (hb.cell (p := ⟨(w.heap.size + 1), 0, none⟩) b1).trans h2, (hb.cell (p := ⟨(w.heap.size + 1), 1, none⟩) b1).trans h3, bstep hB hb, Nat.lt_of_lt_of_le b0 hb.size, Nat.lt_of_lt_of_le b1 hb.size⟩
theorem ks_new (w : World) (R : Option Addr) (k cr : Nat) (C : Option Addr) (l cc : Nat) (p q : Int) : KS w R k cr C l cc p q ((w.alloc (.cells #[.slice R k cr, .slice C l cc] 25)).alloc (rtc (p, q))) :=
  ⟨by go_simp, by go_simp, by go_simp, by go_simp, balloc (balloc (Below.refl _ _) _) _, by simp <;> omega, by simp⟩
set_option maxHeartbeats 2000000 in
theorem checks_walk (A : Option Addr) (c : Nat) (M : List (List Int)) (R : Option Addr) (cr : Nat) (rows : List Int) (C : Option Addr) (cc : Nat) (cols : List Int) (p q : Int) (w : World) (lM : M.length ≤ c) (cM : c ≤ maxLen) (hM : ML w A M) (lR : rows.length ≤ cr) (cR : cr ≤ maxLen) (hR : IL w R rows) (lC : cols.length ≤ cc) (cC : cc ≤ maxLen) (hC : IL w C cols) :
    Calls Try.prog 8 #[.slice A M.length c, cdv R rows.length cr C cols.length cc, .agg #[.int .i64 p, .int .i64 q]] w fun e w' => e = .returned (.bool true) ∧ Below w.heap.size w w' := by
  have hm0 : M.length ≤ 9223372036854775807 := by unfold maxLen at cM; omega
  have hk0 : rows.length ≤ 9223372036854775807 := by unfold maxLen at cR; omega
  have hl0 : cols.length ≤ 9223372036854775807 := by unfold maxLen at cC; omega
  have LO := Lib.hid (fun W (B : Below w.heap.size w W) => long_any6 A c M W (ml_in hM B) hm0)
  have MA := Lib.hid (fun W => many_any R C rows.length cr cols.length cc W)
  have KN := Lib.hid (fun W => known6_any W)
  have X0 := Lib.hid (ks_new w R rows.length cr C cols.length cc p q)
  cases hlo : longB M with
  | true =>
    rw [hlo] at LO
    clear lM cM hM lR cR hR lC cC hC hlo
    go_enter Try.func8, Try.ntmps8
    go_wp2_with fail
    with_reducible refine (LO.out _ (ks_bel X0.out)).mono ?_
    rintro e w2 ⟨rfl, rfl⟩
    have HB := Lib.hid (ks_bel X0.out)
    go_wp2_with fail
    with_reducible refine (KN.out _).mono ?_
    rintro e w9 ⟨rfl, hb9⟩
    have HB9 := Lib.hid (bstep HB.out hb9)
    clear hb9
    go_wp2_with fail
    go_ret
    exact ⟨rfl, HB9.out⟩
  | false =>
    rw [hlo] at LO
    cases hma : (decide (40 < rows.length) || decide (40 < cols.length)) with
    | true =>
      rw [hma] at MA
      obtain ⟨q0, q1, y0, y1, _, q2, y2⟩ := ks_s X0.out
      clear lM cM hM lR cR hR lC cC hC hlo hma
      go_enter Try.func8, Try.ntmps8
      go_wp2_with fail
      with_reducible refine (LO.out _ (ks_bel X0.out)).mono ?_
      rintro e w2 ⟨rfl, rfl⟩
      go_wp2_with fail
      with_reducible refine (MA.out _).mono ?_
      rintro e w2 ⟨rfl, rfl⟩
      have HB := Lib.hid (balloc (ks_bel X0.out) (.cells #[.slice R rows.length cr, .slice C cols.length cc] 25))
      go_wp2_with fail
      with_reducible refine (KN.out _).mono ?_
      rintro e w9 ⟨rfl, hb9⟩
      have HB9 := Lib.hid (bstep HB.out hb9)
      clear hb9
      go_wp2_with fail
      go_ret
      exact ⟨rfl, HB9.out⟩
    | false =>
      rw [hma] at MA
      simp only [Bool.or_eq_false_iff, decide_eq_false_iff_not] at hma
      have AG := Lib.hid (arg_of hM hR hC hlo hma.1 hma.2)
      have P1 := Lib.hid (fun W (B : Below w.heap.size w W) => checkP_any A R C c cr cc M rows cols p q W (arg_in AG.out B))
      have P2 := Lib.hid (fun W (B : Below w.heap.size w W) => rcheckP_any A R C c cr cc M rows cols p q W (arg_in AG.out B) lR lC)
      clear lM cM hM lR cR hR lC cC hC hlo hma
      generalize chk M rows cols p q = v at *
      obtain ⟨q0, q1, y0, y1, _, q2, y2⟩ := ks_s X0.out
      go_enter Try.func8, Try.ntmps8
      go_wp2_with fail
      with_reducible refine (LO.out _ (ks_bel X0.out)).mono ?_
      rintro e w2 ⟨rfl, rfl⟩
      go_wp2_with fail
      with_reducible refine (MA.out _).mono ?_
      rintro e w2 ⟨rfl, rfl⟩
      have X1 := Lib.hid (ks_below X0.out (balloc (Below.refl _ _) (.cells #[.slice R rows.length cr, .slice C cols.length cc] 25)))
      clear q0 q1 q2 y0 y1 y2
      go_wp2_with fail
      generalize ((w.alloc (.cells #[.slice R rows.length cr, .slice C cols.length cc] 25)).alloc (rtc (p, q))).alloc (.cells #[.slice R rows.length cr, .slice C cols.length cc] 25) = W1 at *
      go_region_held3 (fun w' => w'.cell? ⟨w.heap.size, 0, none⟩ = some (.slice R rows.length cr) ∧ w'.cell? ⟨w.heap.size, 1, none⟩ = some (.slice C cols.length cc) ∧ w'.cell? ⟨(w.heap.size + 1), 0, none⟩ = some (.int .i64 p) ∧ w'.cell? ⟨(w.heap.size + 1), 1, none⟩ = some (.int .i64 q) ∧ Below w.heap.size w w' ∧ w.heap.size < w'.heap.size ∧ (w.heap.size + 1) < w'.heap.size)
        (first | with_reducible exact ks_s (ks_drew X1.out) | with_reducible exact ks_s X2.out | with_reducible exact ks_s X3.out | with_reducible exact ks_s X4.out | fail)
        (first
          | (go_at_call 38; (with_reducible refine (P1.out _ (ks_bel (ks_of (by assumption)))).mono ?_); rintro e w3 ⟨rfl, hb⟩; have X2 := Lib.hid (ks_below (ks_of (by assumption)) hb); clear hb)
          | (go_at_call 39; (with_reducible refine (P2.out _ (ks_bel (ks_of (by assumption)))).mono ?_); rintro e w4 ⟨rfl, hb⟩; have X3 := Lib.hid (ks_below (ks_of (by assumption)) hb); clear hb)
          | (go_at_call 17; (with_reducible refine (KN.out _).mono ?_); rintro e w5 ⟨rfl, hb⟩; have X4 := Lib.hid (ks_below (ks_of (by assumption)) hb); clear hb)
          | fail)
      all_goals
        go_wp2_with fail
        go_ret
        exact ⟨rfl, ks_bel X4.out⟩

end Go.Proofs.Ytefmlcojbfiehaa
