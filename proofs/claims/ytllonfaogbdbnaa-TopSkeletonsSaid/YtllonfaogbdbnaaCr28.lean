/-
  The contracts of Check, in the program and in the document's answer.
-/
import Derived.Test.YtllonfaogbdbnaaCr27
namespace Go.Proofs.Ytllonfaogbdbnaa
open Go.ChangeShapes Go.WideShapes Go.RowKit
open Cr
theorem ratq_zero {d : Int} (h : 0 < d) : ratq 0 d = (0, 1) := by
  have g : gI 0 d = d := by
    unfold gI
    rw [show (0 : Int).natAbs = 0 from rfl, Nat.gcd_zero_left]
    omega
  rw [ratq_pos (by omega), g, Int.zero_tdiv, Int.tdiv_self (by omega)]
theorem ratq_bd {n d N D : Int} (h0 : 0 ≤ n) (h1 : n ≤ N) (d0 : 0 < d) (h2 : d ≤ D) : 0 ≤ (ratq n d).1 ∧ (ratq n d).1 ≤ N ∧ 0 ≤ (ratq n d).2 ∧ (ratq n d).2 ≤ D := by
  rw [ratq_pos (by omega)]
  have g1 := gI_pos (n := n) (d := d) (by omega)
  have a1 := Int.tdiv_nonneg h0 (show 0 ≤ gI n d by omega)
  have a2 := Int.tdiv_nonneg (show 0 ≤ d by omega) (show 0 ≤ gI n d by omega)
  have b1 := (tdiv_bdB (n := n) (d := gI n d) (B := n) (by omega) (Int.le_refl _)).2
  have b2 := (tdiv_bdB (n := d) (d := gI n d) (B := d) (by omega) (Int.le_refl _)).2
  exact ⟨a1, by show n.tdiv (gI n d) ≤ N; omega, a2, by show d.tdiv (gI n d) ≤ D; omega⟩
theorem wrs_bd {w : World} {A R C : Option Addr} {M : List (List Int)} {rows cols : List Int} (h : ChS w A M.length (rw_ M 0).length M R C rows.length rows cols) (dz : detR M rows cols ≠ 0) :
    0 ≤ (ratq (wst M rows cols) (absI (detR M rows cols))).1 ∧ (ratq (wst M rows cols) (absI (detR M rows cols))).1 ≤ 720000000000000 ∧ 0 ≤ (ratq (wst M rows cols) (absI (detR M rows cols))).2 ∧ (ratq (wst M rows cols) (absI (detR M rows cols))).2 ≤ 1200000000000 := by
  have W := wst6 h
  have D := detC6 h
  have ad : 0 < absI (detR M rows cols) := by unfold absI; split <;> omega
  by_cases z : wst M rows cols = 0
  · rw [z, ratq_zero ad]; decide
  · have k5 := W.2.2 z
    have d5 := D.2.2 k5
    exact ratq_bd W.1 W.2.1 ad (absI_bd d5.1 d5.2).2
/-- what Check answers -/
def chk (M : List (List Int)) (rows cols : List Int) (p q : Int) : Int := if (wrs M rows cols).2 = 0 then (if bndB p q then (if abvB (wrs M rows cols).1 (p, q) then 12 else 0) else 1) else (wrs M rows cols).2
theorem prod_bd {x y X Y : Int} (h1 : 0 ≤ x) (h2 : x ≤ X) (h3 : 0 ≤ y) (h4 : y ≤ Y) : 0 ≤ x * y ∧ x * y ≤ X * Y := ⟨Int.mul_nonneg h1 h3, Int.le_trans (Int.mul_le_mul_of_nonneg_right h2 h3) (Int.mul_le_mul_of_nonneg_left h4 (by omega))⟩
theorem wrs_ok {M : List (List Int)} {rows cols : List Int} (h : (wrs M rows cols).2 = 0) : kcode M rows cols = 0 ∧ detR M rows cols ≠ 0 ∧ (wrs M rows cols).1 = ratq (wst M rows cols) (absI (detR M rows cols)) := by
  unfold wrs at *
  split at h
  · rename_i z
    rw [if_pos z]
    exact ⟨(dvz_ok z).1, (dvz_ok z).2.1, rfl⟩
  · rename_i z; exact absurd h z
/-- a fraction in the block b -/
def RBk (b : Nat) (r : Int × Int) (w' : World) : Prop := w'.cell? ⟨b, 0, none⟩ = some (.int .i64 r.1) ∧ w'.cell? ⟨b, 1, none⟩ = some (.int .i64 r.2) ∧ b < w'.heap.size
theorem rbk_new (w : World) (r : Int × Int) : RBk w.heap.size r (w.alloc (rtc r)) := ⟨by go_simp, by go_simp, by simp⟩
theorem rbk_below {b : Nat} {r : Int × Int} {w1 w2 : World} (h : RBk b r w1) (hb : Below w1.heap.size w1 w2) : RBk b r w2 := by
  obtain ⟨h0, h1, h3⟩ := h
  exact ⟨(hb.cell (p := ⟨b, 0, none⟩) h3).trans h0, (hb.cell (p := ⟨b, 1, none⟩) h3).trans h1, Nat.lt_of_lt_of_le h3 hb.size⟩
theorem rbk_s {b : Nat} {r : Int × Int} {w' : World} (h : RBk b r w') : w'.cell? ⟨b, 0, none⟩ = some (.int .i64 r.1) ∧ w'.cell? ⟨b, 1, none⟩ = some (.int .i64 r.2) ∧ b < w'.heap.size := h
set_option maxHeartbeats 2000000 in
theorem checkP_any (A R C : Option Addr) (c cr cc : Nat) (M : List (List Int)) (rows cols : List Int) (p q : Int) (w : World) (h : Arg w A M R C rows cols) :
    Calls Try.prog 23 #[.slice A M.length c, .slice R rows.length cr, .slice C cols.length cc, rtv (p, q)] w fun e w' => e = .returned (.int .i64 (chk M rows cols p q)) ∧ Below w.heap.size w w' := by
  have X0 := Lib.hid (bx_new w p q)
  have CH := Lib.hid (fun W (B : Below w.heap.size w W) => worstP_any A R C c cr cc M rows cols W (arg_in h B))
  by_cases z : (wrs M rows cols).2 = 0
  · obtain ⟨k, dz, e1⟩ := wrs_ok z
    have ho := chs_of h k
    have wb := wrs_bd ho dz
    rw [← e1] at wb
    have BN := Lib.hid (fun W => isb_any p q W)
    have C1 := Lib.hid (show bndB p q = false → chk M rows cols p q = 1 from fun g => by unfold chk; rw [if_pos z, g]; rfl)
    have C2 := Lib.hid (show bndB p q = true → abvB (wrs M rows cols).1 (p, q) = true → chk M rows cols p q = 12 from fun g g' => by unfold chk; rw [if_pos z, g, g']; rfl)
    have C3 := Lib.hid (show bndB p q = true → abvB (wrs M rows cols).1 (p, q) = false → chk M rows cols p q = 0 from fun g g' => by unfold chk; rw [if_pos z, g, g']; rfl)
    rw [z] at CH
    clear h ho k dz e1 z
    generalize (wrs M rows cols).1 = rr at *
    generalize chk M rows cols p q = res at *
    cases hbn : bndB p q with
    | false =>
      rw [hbn] at BN
      have e := C1.out hbn
      subst e
      clear C1 C2 C3 hbn wb
      go_enter Try.func23, Try.ntmps23
      go_wp2_with fail
      with_reducible refine (CH.out _ (bx_bel X0.out)).mono ?_
      rintro e w2 ⟨rfl, hb⟩
      have X2 := Lib.hid (bx_below X0.out hb)
      have Y2 := Lib.hid (rbk_new w2 rr)
      have X3 := Lib.hid (bx_below X2.out (balloc (Below.refl _ _) (rtc rr)))
      obtain ⟨x0, x1, _, x2⟩ := bx_s X3.out
      clear hb
      go_wp2_with fail
      with_reducible refine (BN.out _).mono ?_
      rintro e w3 ⟨rfl, hb⟩
      have X4 := Lib.hid (bx_below X3.out hb)
      have Y4 := Lib.hid (rbk_below Y2.out hb)
      clear hb x0 x1 x2
      go_wp2_with fail
      go_ret
      exact ⟨rfl, bx_bel X4.out⟩
    | true =>
      have pq : 1 ≤ q ∧ q ≤ 1000 ∧ 0 ≤ p ∧ p ≤ 1000000 := by
        unfold bndB at hbn
        simp only [Bool.and_eq_true] at hbn
        have u1 := inr_iff.1 hbn.1.1
        have u2 := inr_iff.1 hbn.1.2
        omega
      have pr1 := prod_bd wb.1 wb.2.1 (show 0 ≤ q by omega) pq.2.1
      have pr2 := prod_bd pq.2.2.1 pq.2.2.2 wb.2.2.1 wb.2.2.2
      have AB := Lib.hid (fun W => above_any rr (p, q) W (by (try dsimp only); omega) (by (try dsimp only); omega) (by (try dsimp only); omega) (by (try dsimp only); omega))
      rw [hbn] at BN
      cases hab : abvB rr (p, q) with
      | true =>
        rw [hab] at AB
        have e := C2.out hbn hab
        subst e
        clear C1 C2 C3 hbn wb hab pq pr1 pr2
        go_enter Try.func23, Try.ntmps23
        go_wp2_with fail
        with_reducible refine (CH.out _ (bx_bel X0.out)).mono ?_
        rintro e w2 ⟨rfl, hb⟩
        have X2 := Lib.hid (bx_below X0.out hb)
        have Y2 := Lib.hid (rbk_new w2 rr)
        have X3 := Lib.hid (bx_below X2.out (balloc (Below.refl _ _) (rtc rr)))
        obtain ⟨x0, x1, _, x2⟩ := bx_s X3.out
        clear hb
        go_wp2_with fail
        with_reducible refine (BN.out _).mono ?_
        rintro e w3 ⟨rfl, hb⟩
        have X4 := Lib.hid (bx_below X3.out hb)
        have Y4 := Lib.hid (rbk_below Y2.out hb)
        clear hb x0 x1 x2
        obtain ⟨x0, x1, _, x2⟩ := bx_s X4.out
        obtain ⟨y0, y1, y2⟩ := rbk_s Y4.out
        go_wp2_with fail
        with_reducible refine (AB.out _).mono ?_
        rintro e w4 ⟨rfl, hb⟩
        have X5 := Lib.hid (bx_below X4.out hb)
        clear hb
        go_wp2_with fail
        go_ret
        exact ⟨rfl, bx_bel X5.out⟩
      | false =>
        rw [hab] at AB
        have e := C3.out hbn hab
        subst e
        clear C1 C2 C3 hbn wb hab pq pr1 pr2
        go_enter Try.func23, Try.ntmps23
        go_wp2_with fail
        with_reducible refine (CH.out _ (bx_bel X0.out)).mono ?_
        rintro e w2 ⟨rfl, hb⟩
        have X2 := Lib.hid (bx_below X0.out hb)
        have Y2 := Lib.hid (rbk_new w2 rr)
        have X3 := Lib.hid (bx_below X2.out (balloc (Below.refl _ _) (rtc rr)))
        obtain ⟨x0, x1, _, x2⟩ := bx_s X3.out
        clear hb
        go_wp2_with fail
        with_reducible refine (BN.out _).mono ?_
        rintro e w3 ⟨rfl, hb⟩
        have X4 := Lib.hid (bx_below X3.out hb)
        have Y4 := Lib.hid (rbk_below Y2.out hb)
        clear hb x0 x1 x2
        obtain ⟨x0, x1, _, x2⟩ := bx_s X4.out
        obtain ⟨y0, y1, y2⟩ := rbk_s Y4.out
        go_wp2_with fail
        with_reducible refine (AB.out _).mono ?_
        rintro e w4 ⟨rfl, hb⟩
        have X5 := Lib.hid (bx_below X4.out hb)
        clear hb
        go_wp2_with fail
        go_ret
        exact ⟨rfl, bx_bel X5.out⟩
  · have e : chk M rows cols p q = (wrs M rows cols).2 := by unfold chk; rw [if_neg z]
    rw [e]
    clear h e
    generalize (wrs M rows cols).2 = e at *
    generalize (wrs M rows cols).1 = rr at *
    have t1 : (e != 0) = true := by simp [z]
    have t2 : (e == 0) = false := by simp [z]
    clear z
    go_enter Try.func23, Try.ntmps23
    go_wp2_with fail
    with_reducible refine (CH.out _ (bx_bel X0.out)).mono ?_
    rintro e w2 ⟨rfl, hb⟩
    have X2 := Lib.hid (bx_below X0.out hb)
    have Y2 := Lib.hid (rbk_new w2 rr)
    have X3 := Lib.hid (bx_below X2.out (balloc (Below.refl _ _) (rtc rr)))
    obtain ⟨x0, x1, _, x2⟩ := bx_s X3.out
    clear hb
    go_wp2_with fail
    go_ret
    exact ⟨rfl, bx_bel X3.out⟩
end Go.Proofs.Ytllonfaogbdbnaa
