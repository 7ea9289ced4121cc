/-
  The contracts of Numbers, and the walk of CrossNumbers.
-/
import Derived.Test.YtefmlcojbfiehaaCrMinors
namespace Go.Proofs.Ytefmlcojbfiehaa
open Go.ChangeShapes Go.WideShapes Go.RowKit
open Cr
/-- what Numbers answers -/
def num (M : List (List Int)) (rows : List Int) : Int × Int :=
  if vcode M = 0 then (if setB rows M.length && decide (rows.length ≤ (rw_ M 0).length) then ((rows.length : Int) * ((M.length : Int) + ((rw_ M 0).length : Int)) - (rows.length : Int) * (rows.length : Int), 0) else (0, 1)) else (0, vcode M)
theorem num_v {M : List (List Int)} {rows : List Int} (h : vcode M ≠ 0) : num M rows = (0, vcode M) := if_neg h
theorem num_1 {M : List (List Int)} {rows : List Int} (h : vcode M = 0) (b : setB rows M.length = false) : num M rows = (0, 1) := by unfold num; rw [if_pos h, b]; rfl
theorem num_2 {M : List (List Int)} {rows : List Int} (h : vcode M = 0) (b : ¬ rows.length ≤ (rw_ M 0).length) : num M rows = (0, 1) := by unfold num; rw [if_pos h]; simp [b]
theorem num_3 {M : List (List Int)} {rows : List Int} (h : vcode M = 0) (b : setB rows M.length = true) (c : rows.length ≤ (rw_ M 0).length) : num M rows = ((rows.length : Int) * ((M.length : Int) + ((rw_ M 0).length : Int)) - (rows.length : Int) * (rows.length : Int), 0) := by unfold num; rw [if_pos h, b]; simp [c]
theorem nums_bd {k n m : Nat} (h1 : k ≤ 1000) (h2 : n ≤ 6) (h3 : m ≤ 6) : 0 ≤ (k : Int) * ((n : Int) + (m : Int)) ∧ (k : Int) * ((n : Int) + (m : Int)) ≤ 12000 ∧ 0 ≤ (k : Int) * (k : Int) ∧ (k : Int) * (k : Int) ≤ 1000000 := by
  have a := Nat.mul_le_mul h1 (show n + m ≤ 12 by omega)
  have b := Nat.mul_le_mul h1 h1
  have a' : ((k * (n + m) : Nat) : Int) ≤ 12000 := by omega
  have b' : ((k * k : Nat) : Int) ≤ 1000000 := by omega
  rw [Int.natCast_mul] at a' b'
  rw [Int.natCast_add] at a'
  refine ⟨?_, a', ?_, b'⟩
  · rw [← Int.natCast_add, ← Int.natCast_mul]; omega
  · rw [← Int.natCast_mul]; omega
set_option maxHeartbeats 1000000 in
theorem numP_any (A R : Option Addr) (c cr : Nat) (M : List (List Int)) (rows : List Int) (w : World) (hM : ML w A M) (ln : M.length ≤ 1000) (wd : ∀ i, i < M.length → (rw_ M i).length ≤ 1000) (hR : IL w R rows) (nr : rows.length ≤ 1000) :
    Calls Try.prog 51 #[.slice A M.length c, .slice R rows.length cr] w fun e w' => e = .returned (.tuple #[.int .i64 (num M rows).1, .int .i64 (num M rows).2]) ∧ Below w.heap.size w w' := by
  have CV := Lib.hid (fun W (B : Below w.heap.size w W) => val6_any A c M W (ml_in hM B) ln wd)
  have CR := Lib.hid (fun W (B : Below w.heap.size w W) => isset_any R cr rows M.length W (il_in hR B) nr (by omega))
  by_cases hv : vcode M = 0
  · have VP := vcode_pos hv
    obtain ⟨b, o, A0, c0, rfl, hb0, hc0, hl0, hr0⟩ := hM 0 VP.1
    have hc0 : w.cell? ⟨b, o, none⟩ = some (.slice A0 (rw_ M 0).length c0) := hc0
    have N1 := Lib.hid (num_1 (rows := rows) hv)
    have N2 := Lib.hid (num_2 (rows := rows) hv)
    have N3 := Lib.hid (num_3 (rows := rows) hv)
    rw [hv] at CV
    obtain ⟨bd1, bd2, bd3, bd4⟩ := nums_bd nr VP.2.1 VP.2.2
    obtain ⟨v1, v2, v3⟩ := VP
    have x1 : (0 : Int) < (M.length : Int) := by omega
    have y1 : (M.length : Int) ≤ 6 := by omega
    have y2 : ((rw_ M 0).length : Int) ≤ 6 := by omega
    have y3 : (rows.length : Int) ≤ 1000 := by omega
    clear hM hR wd hv hl0 hr0
    generalize setB rows M.length = e1 at *
    generalize num M rows = res at *
    generalize M.length = n at *
    generalize (rw_ M 0).length = m at *
    generalize rows.length = k at *
    cases e1 with
    | false =>
      have e := N1.out rfl
      subst e
      clear N1 N2 N3
      go_enter Try.func51, Try.ntmps51
      go_wp2_with fail
      with_reducible refine (CV.out _ (Below.refl _ _)).mono ?_
      rintro e w2 ⟨rfl, rfl⟩
      have HB := Lib.hid (Below.refl w.heap.size w)
      go_wp2_with fail
      with_reducible refine (CR.out _ HB.out).mono ?_
      rintro e w3 ⟨rfl, rfl⟩
      have HB3 := HB
      go_wp2_with fail
      go_ret2
      exact ⟨rfl, HB3.out⟩
    | true =>
      by_cases hk : k ≤ m
      · have e := N3.out rfl hk
        subst e
        clear N1 N2 N3
        have k1 : ¬ (m : Int) < (k : Int) := by omega
        go_enter Try.func51, Try.ntmps51
        go_wp2_with fail
        with_reducible refine (CV.out _ (Below.refl _ _)).mono ?_
        rintro e w2 ⟨rfl, rfl⟩
        have HB := Lib.hid (Below.refl w.heap.size w)
        go_wp2_with fail
        with_reducible refine (CR.out _ HB.out).mono ?_
        rintro e w3 ⟨rfl, rfl⟩
        have HB3 := HB
        go_wp2_with fail
        go_ret2
        exact ⟨rfl, HB3.out⟩
      · have e := N2.out hk
        subst e
        clear N1 N2 N3
        have k1 : (m : Int) < (k : Int) := by omega
        go_enter Try.func51, Try.ntmps51
        go_wp2_with fail
        with_reducible refine (CV.out _ (Below.refl _ _)).mono ?_
        rintro e w2 ⟨rfl, rfl⟩
        have HB := Lib.hid (Below.refl w.heap.size w)
        go_wp2_with fail
        with_reducible refine (CR.out _ HB.out).mono ?_
        rintro e w3 ⟨rfl, rfl⟩
        have HB3 := HB
        go_wp2_with fail
        go_ret2
        exact ⟨rfl, HB3.out⟩
  · rw [num_v hv]
    clear hM hR wd
    generalize vcode M = e at *
    have t1 : (e != 0) = true := by simp [hv]
    have t2 : (e == 0) = false := by simp [hv]
    clear hv
    go_enter Try.func51, Try.ntmps51
    go_wp2_with fail
    with_reducible refine (CV.out _ (Below.refl _ _)).mono ?_
    rintro e w2 ⟨rfl, rfl⟩
    go_wp2_with fail
    go_ret2
    exact ⟨rfl, Below.refl _ _⟩
set_option maxHeartbeats 1000000 in
theorem rnum_any (A R : Option Addr) (c cr : Nat) (M : List (List Int)) (rows : List Int) (w : World) (hM : ML w A M) (ln : M.length ≤ 1000) (wd : ∀ i, i < M.length → (rw_ M i).length ≤ 1000) (hR : IL w R rows) (nr : rows.length ≤ 1000) :
    Calls Try.prog 52 #[.slice A M.length c, .slice R rows.length cr] w fun e w' => e = .returned (.tuple #[.int .i64 (num M rows).1, .int .i64 (num M rows).2]) ∧ Below w.heap.size w w' := by
  have CV := Lib.hid (fun W (B : Below w.heap.size w W) => rval6_any A c M W (ml_in hM B) ln wd)
  have CR := Lib.hid (fun W (B : Below w.heap.size w W) => risset_any R cr rows M.length W (il_in hR B) nr (by omega))
  by_cases hv : vcode M = 0
  · have VP := vcode_pos hv
    obtain ⟨b, o, A0, c0, rfl, hb0, hc0, hl0, hr0⟩ := hM 0 VP.1
    have hc0 : w.cell? ⟨b, o, none⟩ = some (.slice A0 (rw_ M 0).length c0) := hc0
    have N1 := Lib.hid (num_1 (rows := rows) hv)
    have N2 := Lib.hid (num_2 (rows := rows) hv)
    have N3 := Lib.hid (num_3 (rows := rows) hv)
    rw [hv] at CV
    obtain ⟨bd1, bd2, bd3, bd4⟩ := nums_bd nr VP.2.1 VP.2.2
    obtain ⟨v1, v2, v3⟩ := VP
    have x1 : (0 : Int) < (M.length : Int) := by omega
    have y1 : (M.length : Int) ≤ 6 := by omega
    have y2 : ((rw_ M 0).length : Int) ≤ 6 := by omega
    have y3 : (rows.length : Int) ≤ 1000 := by omega
    clear hM hR wd hv hl0 hr0
    generalize setB rows M.length = e1 at *
    generalize num M rows = res at *
    generalize M.length = n at *
    generalize (rw_ M 0).length = m at *
    generalize rows.length = k at *
    cases e1 with
    | false =>
      have e := N1.out rfl
      subst e
      clear N1 N2 N3
      go_enter Try.func52, Try.ntmps52
      go_wp2_with fail
      with_reducible refine (CV.out _ (Below.refl _ _)).mono ?_
      rintro e w2 ⟨rfl, hb⟩
      have HB := Lib.hid hb
      have x2 : w2.cell? ⟨b, o, none⟩ = some (.slice A0 m c0) := (hb.cell (p := ⟨b, o, none⟩) hb0).trans hc0
      clear hb
      go_wp2_with fail
      with_reducible refine (CR.out _ HB.out).mono ?_
      rintro e w3 ⟨rfl, hb⟩
      have HB3 := Lib.hid (bstep HB.out hb)
      have x3 : w3.cell? ⟨b, o, none⟩ = some (.slice A0 m c0) := (HB3.out.cell (p := ⟨b, o, none⟩) hb0).trans hc0
      clear hb
      go_wp2_with fail
      go_ret2
      exact ⟨rfl, HB3.out⟩
    | true =>
      by_cases hk : k ≤ m
      · have e := N3.out rfl hk
        subst e
        clear N1 N2 N3
        have k1 : ¬ (m : Int) < (k : Int) := by omega
        go_enter Try.func52, Try.ntmps52
        go_wp2_with fail
        with_reducible refine (CV.out _ (Below.refl _ _)).mono ?_
        rintro e w2 ⟨rfl, hb⟩
        have HB := Lib.hid hb
        have x2 : w2.cell? ⟨b, o, none⟩ = some (.slice A0 m c0) := (hb.cell (p := ⟨b, o, none⟩) hb0).trans hc0
        clear hb
        go_wp2_with fail
        with_reducible refine (CR.out _ HB.out).mono ?_
        rintro e w3 ⟨rfl, hb⟩
        have HB3 := Lib.hid (bstep HB.out hb)
        have x3 : w3.cell? ⟨b, o, none⟩ = some (.slice A0 m c0) := (HB3.out.cell (p := ⟨b, o, none⟩) hb0).trans hc0
        clear hb
        go_wp2_with fail
        go_ret2
        exact ⟨rfl, HB3.out⟩
      · have e := N2.out hk
        subst e
        clear N1 N2 N3
        have k1 : (m : Int) < (k : Int) := by omega
        go_enter Try.func52, Try.ntmps52
        go_wp2_with fail
        with_reducible refine (CV.out _ (Below.refl _ _)).mono ?_
        rintro e w2 ⟨rfl, hb⟩
        have HB := Lib.hid hb
        have x2 : w2.cell? ⟨b, o, none⟩ = some (.slice A0 m c0) := (hb.cell (p := ⟨b, o, none⟩) hb0).trans hc0
        clear hb
        go_wp2_with fail
        with_reducible refine (CR.out _ HB.out).mono ?_
        rintro e w3 ⟨rfl, hb⟩
        have HB3 := Lib.hid (bstep HB.out hb)
        have x3 : w3.cell? ⟨b, o, none⟩ = some (.slice A0 m c0) := (HB3.out.cell (p := ⟨b, o, none⟩) hb0).trans hc0
        clear hb
        go_wp2_with fail
        go_ret2
        exact ⟨rfl, HB3.out⟩
  · rw [num_v hv]
    clear hM hR wd
    generalize vcode M = e at *
    have t1 : (e != 0) = true := by simp [hv]
    have t2 : (e == 0) = false := by simp [hv]
    clear hv
    go_enter Try.func52, Try.ntmps52
    go_wp2_with fail
    with_reducible refine (CV.out _ (Below.refl _ _)).mono ?_
    rintro e w2 ⟨rfl, hb⟩
    go_wp2_with fail
    go_ret2
    exact ⟨rfl, hb⟩
set_option maxHeartbeats 1000000 in
theorem numbers_walk (A : Option Addr) (c : Nat) (M : List (List Int)) (R : Option Addr) (cr : Nat) (rows : List Int) (w : World) (lM : M.length ≤ c) (cM : c ≤ maxLen) (hM : ML w A M) (_ : rows.length ≤ cr) (cR : cr ≤ maxLen) (hR : IL w R rows) :
    Calls Try.prog 12 #[.slice A M.length c, .slice R rows.length cr] w fun e w' => e = .returned (.bool true) ∧ Below w.heap.size w w' := by
  have hm0 : M.length ≤ 9223372036854775807 := by unfold maxLen at cM; omega
  have hk0 : rows.length ≤ 9223372036854775807 := by unfold maxLen at cR; omega
  have LO := Lib.hid (long_any6 A c M w hM hm0)
  have KN := Lib.hid (fun W => known6_any W)
  have HB := Lib.hid (Below.refl w.heap.size w)
  cases hlo : longB M with
  | true =>
    rw [hlo] at LO
    clear lM cM hM cR hR hlo
    go_enter Try.func12, Try.ntmps12
    go_wp2_with fail
    with_reducible refine LO.out.mono ?_
    rintro e w2 ⟨rfl, rfl⟩
    go_wp2_with fail
    with_reducible refine (KN.out _).mono ?_
    rintro e w9 ⟨rfl, hb9⟩
    have HB9 := Lib.hid (bstep HB.out hb9)
    clear hb9
    go_wp2_with fail
    go_ret
    exact ⟨rfl, HB9.out⟩
  | false =>
    rw [hlo] at LO
    by_cases h4 : 40 < rows.length
    · have h5 : (40 : Int) < (rows.length : Int) := by omega
      clear lM cM hM cR hR hlo h4
      go_enter Try.func12, Try.ntmps12
      go_wp2_with fail
      with_reducible refine LO.out.mono ?_
      rintro e w2 ⟨rfl, rfl⟩
      go_wp2_with fail
      with_reducible refine (KN.out _).mono ?_
      rintro e w9 ⟨rfl, hb9⟩
      have HB9 := Lib.hid (bstep HB.out hb9)
      clear hb9
      go_wp2_with fail
      go_ret
      exact ⟨rfl, HB9.out⟩
    · have h5 : ¬ (40 : Int) < (rows.length : Int) := by omega
      obtain ⟨ln, wd⟩ := long_no hlo
      have P1 := Lib.hid (fun W (B : Below w.heap.size w W) => numP_any A R c cr M rows W (ml_in hM B) (by omega) (fun i hi => by have := wd i hi; omega) (il_in hR B) (by omega))
      have P2 := Lib.hid (fun W (B : Below w.heap.size w W) => rnum_any A R c cr M rows W (ml_in hM B) (by omega) (fun i hi => by have := wd i hi; omega) (il_in hR B) (by omega))
      clear lM cM hM cR hR hlo h4 ln wd
      generalize (num M rows).1 = x at *
      generalize (num M rows).2 = y at *
      go_enter Try.func12, Try.ntmps12
      go_wp2_with fail
      with_reducible refine LO.out.mono ?_
      rintro e w2 ⟨rfl, rfl⟩
      go_wp2_with fail
      with_reducible refine (P1.out _ HB.out).mono ?_
      rintro e w3 ⟨rfl, hb⟩
      have HB1 := Lib.hid hb
      clear hb
      go_wp2_with fail
      with_reducible refine (P2.out _ HB1.out).mono ?_
      rintro e w4 ⟨rfl, hb⟩
      have HB := Lib.hid (bstep HB1.out hb)
      clear hb
      go_wp2_with fail
      with_reducible refine (KN.out _).mono ?_
      rintro e w9 ⟨rfl, hb9⟩
      have HB9 := Lib.hid (bstep HB.out hb9)
      clear hb9
      go_wp2_with fail
      go_ret
      exact ⟨rfl, HB9.out⟩

end Go.Proofs.Ytefmlcojbfiehaa
