/-
  The walk of CrossTransposes.
-/
import Derived.Test.YtefmlcojbfiehaaCrResid
import Derived.Test.YtefmlcojbfiehaaCrTr
namespace Go.Proofs.Ytefmlcojbfiehaa
open Go.ChangeShapes Go.WideShapes Go.RowKit
open Cr
set_option maxHeartbeats 4000000 in
theorem transposes_walk (A : Option Addr) (c : Nat) (M : List (List Int)) (R : Option Addr) (cr : Nat) (rows : List Int) (C : Option Addr) (cc : Nat) (cols : List Int) (i j : Int) (w : World) (lM : M.length ≤ c) (cM : c ≤ maxLen) (hM : ML w A M) (lR : rows.length ≤ cr) (cR : cr ≤ maxLen) (hR : IL w R rows) (lC : cols.length ≤ cc) (cC : cc ≤ maxLen) (hC : IL w C cols) :
    Calls Try.prog 14 #[.slice A M.length c, cdv R rows.length cr C cols.length cc, .agg #[.int .i64 i, .int .i64 j]] w fun e w' => e = .returned (.bool true) ∧ Below w.heap.size w w' := by
  have hm0 : M.length ≤ 9223372036854775807 := by unfold maxLen at cM; omega
  have hk0 : rows.length ≤ 9223372036854775807 := by unfold maxLen at cR; omega
  have hl0 : cols.length ≤ 9223372036854775807 := by unfold maxLen at cC; omega
  have LO := Lib.hid (fun W (B : Below w.heap.size w W) => long_any6 A c M W (ml_in hM B) hm0)
  have MA := Lib.hid (fun W => many_any R C rows.length cr cols.length cc W)
  have KN := Lib.hid (fun W => known6_any W)
  have X0 := Lib.hid (cb_below (cb_new w R rows.length cr C cols.length cc) (alloc_below _ (.cells #[.int .i64 i, .int .i64 j] 44)))
  have Y0 := Lib.hid (show EB w i j ((w.alloc (.cells #[.slice R rows.length cr, .slice C cols.length cc] 25)).alloc (.cells #[.int .i64 i, .int .i64 j] 44)) from ⟨by go_simp, by go_simp, by simp⟩)
  cases hlo : longB M with
  | true =>
    rw [hlo] at LO
    clear lM cM hM lR cR hR lC cC hC hlo
    go_enter Try.func14, Try.ntmps14
    go_wp2_with fail
    with_reducible refine (LO.out _ X0.out.bel).mono ?_
    rintro e w2 ⟨rfl, rfl⟩
    have HB := Lib.hid X0.out.bel
    go_wp2_with fail
    with_reducible refine (KN.out _).mono ?_
    rintro e w9 ⟨rfl, hb9⟩
    have HB9 := Lib.hid (bstep HB.out hb9)
    clear hb9
    go_wp2_with fail
    go_ret
    exact ⟨rfl, HB9.out⟩
  | false =>
    rw [hlo] at LO
    cases hma : (decide (40 < rows.length) || decide (40 < cols.length)) with
    | true =>
      rw [hma] at MA
      obtain ⟨q0, q1, q2⟩ := cb_s X0.out
      clear lM cM hM lR cR hR lC cC hC hlo hma
      go_enter Try.func14, Try.ntmps14
      go_wp2_with fail
      with_reducible refine (LO.out _ X0.out.bel).mono ?_
      rintro e w2 ⟨rfl, rfl⟩
      go_wp2_with fail
      with_reducible refine (MA.out _).mono ?_
      rintro e w2 ⟨rfl, rfl⟩
      have HB := Lib.hid (balloc X0.out.bel (.cells #[.slice R rows.length cr, .slice C cols.length cc] 25))
      go_wp2_with fail
      with_reducible refine (KN.out _).mono ?_
      rintro e w9 ⟨rfl, hb9⟩
      have HB9 := Lib.hid (bstep HB.out hb9)
      clear hb9
      go_wp2_with fail
      go_ret
      exact ⟨rfl, HB9.out⟩
    | false =>
      rw [hma] at MA
      simp only [Bool.or_eq_false_iff, decide_eq_false_iff_not] at hma
      have AG := Lib.hid (arg_of hM hR hC hlo hma.1 hma.2)
      by_cases hv : vcode M = 0
      · have P0 := Lib.hid (fun W (B : Below w.heap.size w W) => transP_ok A c M W (ml_in hM B) hv)
        have P1 := Lib.hid (fun W (B : Below w.heap.size w W) => res_any A R C c cr cc M rows cols i j W (arg_in AG.out B))
        have P2 := Lib.hid (fun A2 c2 W (B : Below w.heap.size w W) (h2 : ML W A2 (tr M)) => res_any A2 C R c2 cc cr (tr M) cols rows j i W ⟨h2, by rw [tr_len]; have := vcode_pos hv; omega, fun k hk => by rw [tr_len] at hk; rw [tr_rlen M hk]; have := vcode_pos hv; omega, il_in hC B, il_in hR B, by omega, by omega⟩)
        rw [tr_resd hv, tr_len] at P2
        clear lM cM hM lR cR hR lC cC hC hlo hma hv
        generalize resd M rows cols i j = rr at *
        obtain ⟨⟨r1, r2⟩, e0⟩ := rr
        have P1 : Hid (∀ W, Below w.heap.size w W → Calls Try.prog 31 #[.slice A M.length c, .slice R rows.length cr, .slice C cols.length cc, .int .i64 i, .int .i64 j] W fun e w' => e = .returned (.tuple #[rtv (r1, r2), .int .i64 e0]) ∧ Below W.heap.size W w') := P1
        have P2 : Hid (∀ A2 c2 W, Below w.heap.size w W → ML W A2 (tr M) → Calls Try.prog 31 #[.slice A2 (rw_ M 0).length c2, .slice C cols.length cc, .slice R rows.length cr, .int .i64 j, .int .i64 i] W fun e w' => e = .returned (.tuple #[rtv (r1, r2), .int .i64 e0]) ∧ Below W.heap.size W w') := P2
        obtain ⟨q0, q1, q2⟩ := cb_s X0.out
        obtain ⟨y0, y1, y2⟩ := eb_s Y0.out
        go_enter Try.func14, Try.ntmps14
        go_wp2_with fail
        with_reducible refine (LO.out _ X0.out.bel).mono ?_
        rintro e w2 ⟨rfl, rfl⟩
        go_wp2_with fail
        with_reducible refine (MA.out _).mono ?_
        rintro e w2 ⟨rfl, rfl⟩
        have AB := Lib.hid (alloc_below ((w.alloc (.cells #[.slice R rows.length cr, .slice C cols.length cc] 25)).alloc (.cells #[.int .i64 i, .int .i64 j] 44)) (.cells #[.slice R rows.length cr, .slice C cols.length cc] 25))
        have X1 := Lib.hid (cb_below X0.out AB.out)
        have Y1 := Lib.hid (eb_below Y0.out AB.out)
        clear q0 q1 q2 y0 y1 y2
        go_wp2_with fail
        with_reducible refine (P0.out _ X1.out.bel).mono ?_
        rintro e w2 ⟨A2, c2, rfl, _, hm2, hb⟩
        have X2 := Lib.hid (cb_below X1.out hb)
        have Y2 := Lib.hid (eb_below Y1.out hb)
        have HM2 := Lib.hid hm2
        clear hb hm2
        obtain ⟨q0, q1, q2⟩ := cb_s X2.out
        obtain ⟨y0, y1, y2⟩ := eb_s Y2.out
        go_wp2_with fail
        with_reducible refine (P1.out _ X2.out.bel).mono ?_
        rintro e w3 ⟨rfl, hb⟩
        have AB3 := Lib.hid (alloc_below w3 (rtc (r1, r2)))
        have HM3 := Lib.hid (ml_in (ml_in HM2.out hb) AB3.out)
        have X3 := Lib.hid (cb_below X2.out hb)
        have Y3 := Lib.hid (eb_below Y2.out hb)
        have X4 := Lib.hid (cb_below X3.out AB3.out)
        have Y4 := Lib.hid (eb_below Y3.out AB3.out)
        have Z4 := Lib.hid (rb_new w3 (r1, r2))
        clear hb
        clear q0 q1 q2 y0 y1 y2
        obtain ⟨q0, q1, q2⟩ := cb_s X4.out
        obtain ⟨y0, y1, y2⟩ := eb_s Y4.out
        go_wp2_with fail
        with_reducible refine (P2.out A2 c2 _ X4.out.bel HM3.out).mono ?_
        rintro e w4 ⟨rfl, hb⟩
        have X5 := Lib.hid (cb_below X4.out hb)
        have Y5 := Lib.hid (eb_below Y4.out hb)
        have Z5 := Lib.hid (rb_below Z4.out hb)
        have HB := Lib.hid (balloc X5.out.bel (rtc (r1, r2)))
        obtain ⟨z0, z1, z2⟩ := rb_s Z5.out
        clear hb
        clear q0 q1 q2 y0 y1 y2
        go_wp2_with fail
        with_reducible refine (KN.out _).mono ?_
        rintro e w9 ⟨rfl, hb9⟩
        have HB9 := Lib.hid (bstep HB.out hb9)
        clear hb9
        go_wp2_with fail
        go_ret
        exact ⟨rfl, HB9.out⟩
      · have P0 := Lib.hid (fun W (B : Below w.heap.size w W) => transP_err A c M W (ml_in hM B) AG.out.len AG.out.wid hv)
        clear lM cM hM lR cR hR lC cC hC hlo hma
        generalize vcode M = e at *
        have t1 : (e != 0) = true := by simp [hv]
        have t2 : (e == 0) = false := by simp [hv]
        clear hv
        obtain ⟨q0, q1, q2⟩ := cb_s X0.out
        obtain ⟨y0, y1, y2⟩ := eb_s Y0.out
        go_enter Try.func14, Try.ntmps14
        go_wp2_with fail
        with_reducible refine (LO.out _ X0.out.bel).mono ?_
        rintro e w2 ⟨rfl, rfl⟩
        go_wp2_with fail
        with_reducible refine (MA.out _).mono ?_
        rintro e w2 ⟨rfl, rfl⟩
        have AB := Lib.hid (alloc_below ((w.alloc (.cells #[.slice R rows.length cr, .slice C cols.length cc] 25)).alloc (.cells #[.int .i64 i, .int .i64 j] 44)) (.cells #[.slice R rows.length cr, .slice C cols.length cc] 25))
        have X1 := Lib.hid (cb_below X0.out AB.out)
        have Y1 := Lib.hid (eb_below Y0.out AB.out)
        clear q0 q1 q2 y0 y1 y2
        go_wp2_with fail
        with_reducible refine (P0.out _ X1.out.bel).mono ?_
        rintro e w2 ⟨rfl, hb⟩
        have HB := Lib.hid (cb_below X1.out hb).bel
        clear hb
        go_wp2_with fail
        with_reducible refine (KN.out _).mono ?_
        rintro e w9 ⟨rfl, hb9⟩
        have HB9 := Lib.hid (bstep HB.out hb9)
        clear hb9
        go_wp2_with fail
        go_ret
        exact ⟨rfl, HB9.out⟩

end Go.Proofs.Ytefmlcojbfiehaa
