/-
  The walk of CrossMinors.
-/
import Derived.Test.YtefmlcojbfiehaaCr23
namespace Go.Proofs.Ytefmlcojbfiehaa
open Go.ChangeShapes Go.WideShapes Go.RowKit
open Cr
theorem alloc_below (w : World) (o : Obj) : Below w.heap.size w (w.alloc o) := balloc (Below.refl _ _) o
/-- the two slices of a choice in the first block of the call's own -/
def CB (w : World) (R : Option Addr) (k cr : Nat) (C : Option Addr) (l cc : Nat) (w' : World) : Prop := w'.cell? ⟨w.heap.size, 0, none⟩ = some (.slice R k cr) ∧ w'.cell? ⟨w.heap.size, 1, none⟩ = some (.slice C l cc) ∧ Below w.heap.size w w' ∧ w.heap.size < w'.heap.size
theorem cb_new (w : World) (R : Option Addr) (k cr : Nat) (C : Option Addr) (l cc : Nat) : CB w R k cr C l cc (w.alloc (.cells #[.slice R k cr, .slice C l cc] 25)) := ⟨by go_simp, by go_simp, alloc_below _ _, by simp⟩
theorem cb_below {w : World} {R : Option Addr} {k cr : Nat} {C : Option Addr} {l cc : Nat} {w1 w2 : World} (h : CB w R k cr C l cc w1) (hb : Below w1.heap.size w1 w2) : CB w R k cr C l cc w2 := by
  obtain ⟨h0, h1, h2, h3⟩ := h
  exact ⟨(hb.cell (p := ⟨w.heap.size, 0, none⟩) h3).trans h0, (hb.cell (p := ⟨w.heap.size, 1, none⟩) h3).trans h1, bstep h2 hb, Nat.lt_of_lt_of_le h3 hb.size⟩
theorem cb_s {w : World} {R : Option Addr} {k cr : Nat} {C : Option Addr} {l cc : Nat} {w1 : World} (h : CB w R k cr C l cc w1) : w1.cell? ⟨w.heap.size, 0, none⟩ = some (.slice R k cr) ∧ w1.cell? ⟨w.heap.size, 1, none⟩ = some (.slice C l cc) ∧ w.heap.size < w1.heap.size := ⟨h.1, h.2.1, h.2.2.2⟩
theorem CB.bel {w : World} {R : Option Addr} {k cr : Nat} {C : Option Addr} {l cc : Nat} {w1 : World} (h : CB w R k cr C l cc w1) : Below w.heap.size w w1 := h.2.2.1
theorem arg_of {w : World} {A R C : Option Addr} {M : List (List Int)} {rows cols : List Int} (hM : ML w A M) (hR : IL w R rows) (hC : IL w C cols) (hl : longB M = false) (h1 : ¬ 40 < rows.length) (h2 : ¬ 40 < cols.length) : Arg w A M R C rows cols := by
  obtain ⟨a, b⟩ := long_no hl
  exact ⟨hM, by omega, fun i hi => by have := b i hi; omega, hR, hC, by omega, by omega⟩
set_option maxHeartbeats 2000000 in
theorem minors_walk (A : Option Addr) (c : Nat) (M : List (List Int)) (R : Option Addr) (cr : Nat) (rows : List Int) (C : Option Addr) (cc : Nat) (cols : List Int) (w : World) (lM : M.length ≤ c) (cM : c ≤ maxLen) (hM : ML w A M) (lR : rows.length ≤ cr) (cR : cr ≤ maxLen) (hR : IL w R rows) (lC : cols.length ≤ cc) (cC : cc ≤ maxLen) (hC : IL w C cols) :
    Calls Try.prog 3 #[.slice A M.length c, cdv R rows.length cr C cols.length cc] w fun e w' => e = .returned (.bool true) ∧ Below w.heap.size w w' := by
  have hm0 : M.length ≤ 9223372036854775807 := by unfold maxLen at cM; omega
  have hk0 : rows.length ≤ 9223372036854775807 := by unfold maxLen at cR; omega
  have hl0 : cols.length ≤ 9223372036854775807 := by unfold maxLen at cC; omega
  have LO := Lib.hid (fun W (B : Below w.heap.size w W) => long_any6 A c M W (ml_in hM B) hm0)
  have MA := Lib.hid (fun W => many_any R C rows.length cr cols.length cc W)
  have KN := Lib.hid (fun W => known6_any W)
  have X0 := Lib.hid (cb_new w R rows.length cr C cols.length cc)
  cases hlo : longB M with
  | true =>
    rw [hlo] at LO
    clear lM cM hM lR cR hR lC cC hC hlo
    go_enter Try.func3, Try.ntmps3
    go_wp2_with fail
    with_reducible refine (LO.out _ X0.out.bel).mono ?_
    rintro e w2 ⟨rfl, rfl⟩
    have HB := Lib.hid X0.out.bel
    go_wp2_with fail
    with_reducible refine (KN.out _).mono ?_
    rintro e w9 ⟨rfl, hb9⟩
    have HB9 := Lib.hid (bstep HB.out hb9)
    clear hb9
    go_wp2_with fail
    go_ret
    exact ⟨rfl, HB9.out⟩
  | false =>
    rw [hlo] at LO
    cases hma : (decide (40 < rows.length) || decide (40 < cols.length)) with
    | true =>
      rw [hma] at MA
      obtain ⟨q0, q1, q2⟩ := cb_s X0.out
      clear lM cM hM lR cR hR lC cC hC hlo hma
      go_enter Try.func3, Try.ntmps3
      go_wp2_with fail
      with_reducible refine (LO.out _ X0.out.bel).mono ?_
      rintro e w2 ⟨rfl, rfl⟩
      go_wp2_with fail
      with_reducible refine (MA.out _).mono ?_
      rintro e w2 ⟨rfl, rfl⟩
      have HB := Lib.hid (balloc X0.out.bel (.cells #[.slice R rows.length cr, .slice C cols.length cc] 25))
      go_wp2_with fail
      with_reducible refine (KN.out _).mono ?_
      rintro e w9 ⟨rfl, hb9⟩
      have HB9 := Lib.hid (bstep HB.out hb9)
      clear hb9
      go_wp2_with fail
      go_ret
      exact ⟨rfl, HB9.out⟩
    | false =>
      rw [hma] at MA
      simp only [Bool.or_eq_false_iff, decide_eq_false_iff_not] at hma
      have AG := Lib.hid (arg_of hM hR hC hlo hma.1 hma.2)
      have P1 := Lib.hid (fun W (B : Below w.heap.size w W) => minorP_any A R C c cr cc M rows cols W (arg_in AG.out B))
      have P2 := Lib.hid (fun W (B : Below w.heap.size w W) => rminor_any A R C c cr cc M rows cols W (arg_in AG.out B) lR lC)
      have P3 := Lib.hid (fun W (B : Below w.heap.size w W) => val6_any A c M W (ml_in hM B) AG.out.len AG.out.wid)
      have P4 := Lib.hid (fun W (B : Below w.heap.size w W) => rval6_any A c M W (ml_in hM B) AG.out.len AG.out.wid)
      clear lM cM hM lR cR hR lC cC hC hlo hma
      generalize vcode M = v at *
      generalize (mnr M rows cols).1 = x at *
      generalize (mnr M rows cols).2 = y at *
      obtain ⟨q0, q1, q2⟩ := cb_s X0.out
      go_enter Try.func3, Try.ntmps3
      go_wp2_with fail
      with_reducible refine (LO.out _ X0.out.bel).mono ?_
      rintro e w2 ⟨rfl, rfl⟩
      go_wp2_with fail
      with_reducible refine (MA.out _).mono ?_
      rintro e w2 ⟨rfl, rfl⟩
      have X1 := Lib.hid (cb_below X0.out (alloc_below _ (.cells #[.slice R rows.length cr, .slice C cols.length cc] 25)))
      clear q0 q1 q2
      obtain ⟨q0, q1, q2⟩ := cb_s X1.out
      go_wp2_with fail
      with_reducible refine (P1.out _ X1.out.bel).mono ?_
      rintro e w3 ⟨rfl, hb⟩
      clear q0 q1 q2
      have X2 := Lib.hid (cb_below X1.out hb)
      obtain ⟨q0, q1, q2⟩ := cb_s X2.out
      clear hb
      go_wp2_with fail
      with_reducible refine (P2.out _ X2.out.bel).mono ?_
      rintro e w4 ⟨rfl, hb⟩
      clear q0 q1 q2
      have X3 := Lib.hid (cb_below X2.out hb)
      obtain ⟨q0, q1, q2⟩ := cb_s X3.out
      clear hb
      go_wp2_with fail
      with_reducible refine (P3.out _ X3.out.bel).mono ?_
      rintro e w5 ⟨rfl, rfl⟩
      go_wp2_with fail
      with_reducible refine (P4.out _ X3.out.bel).mono ?_
      rintro e w5 ⟨rfl, hb⟩
      have HB := Lib.hid (cb_below X3.out hb).bel
      clear hb q0 q1 q2
      go_wp2_with fail
      with_reducible refine (KN.out _).mono ?_
      rintro e w9 ⟨rfl, hb9⟩
      have HB9 := Lib.hid (bstep HB.out hb9)
      clear hb9
      go_wp2_with fail
      go_ret
      exact ⟨rfl, HB9.out⟩

end Go.Proofs.Ytefmlcojbfiehaa
