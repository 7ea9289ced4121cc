/-
  The contracts of shorterSide, Sides, checkSize, Volume in the program and in the document's answer, and of Largest.
-/
import Derived.Test.YtefmlcojbfiehaaCrS7
namespace Go.Proofs.Ytefmlcojbfiehaa
open Go.ChangeShapes Go.WideShapes Go.RowKit
open Cr
/-- the smaller side -/
def sd (n m : Nat) : Nat := if m < n then m else n
theorem sd_le (n m : Nat) : sd n m ≤ n ∧ sd n m ≤ m := by unfold sd; split <;> omega
/-- the error of a matrix and a number of rows -/
def zcode (M : List (List Int)) (k : Int) : Int := if vcode M = 0 then (if inr k 0 (sd M.length (rw_ M 0).length : Int) then 0 else 1) else vcode M
theorem zcode_v {M : List (List Int)} {k : Int} (h : vcode M ≠ 0) : zcode M k = vcode M := if_neg h
theorem zcode_0 {M : List (List Int)} {k : Int} (h : vcode M = 0) (b : inr k 0 (sd M.length (rw_ M 0).length : Int) = true) : zcode M k = 0 := by unfold zcode; rw [if_pos h, b]; rfl
theorem zcode_1 {M : List (List Int)} {k : Int} (h : vcode M = 0) (b : inr k 0 (sd M.length (rw_ M 0).length : Int) = false) : zcode M k = 1 := by unfold zcode; rw [if_pos h, b]; rfl
theorem shorter_any (A : Option Addr) (c n m : Nat) (M : List (List Int)) (w : World) (hM : ML w A M) (sq : Sq n m M) (n1 : 1 ≤ n) (n6 : n ≤ 6) (m6 : m ≤ 6) : Calls Try.prog 60 #[.slice A n c] w fun e w' => e = .returned (.int .i64 (sd n m : Int)) ∧ w = w' := by
  obtain ⟨b0, o0, A0, c0, rfl, hb0, hc0, _, _⟩ := hM 0 (by rw [sq.len]; omega)
  rw [rw_len sq (by omega)] at hc0
  have hc0 : w.cell? ⟨b0, o0, none⟩ = some (.slice A0 m c0) := hc0
  have n01 : 1 ≤ (n : Int) := by omega
  have n02 : (0 : Int) < (n : Int) := by omega
  have n66 : (n : Int) ≤ 6 := by omega
  have m66 : (m : Int) ≤ 6 := by omega
  have m0 : 0 ≤ (m : Int) := by omega
  by_cases h : m < n
  · have e : (sd n m : Int) = m := by unfold sd; rw [if_pos h]
    have h1 : (m : Int) < (n : Int) := by omega
    have h2 : ¬ (n : Int) < (m : Int) := by omega
    have hm : min (n : Int) (m : Int) = m := by omega
    rw [e]
    clear e h hM sq n1 n6 m6
    go_enter Try.func60, Try.ntmps60
    go_wp2_with fail
    go_ret
    exact ⟨rfl, rfl⟩
  · have e : (sd n m : Int) = n := by unfold sd; rw [if_neg h]
    have h1 : ¬ (m : Int) < (n : Int) := by omega
    have hm : min (n : Int) (m : Int) = n := by omega
    rw [e]
    clear e h hM sq n1 n6 m6
    go_enter Try.func60, Try.ntmps60
    go_wp2_with fail
    go_ret
    exact ⟨rfl, rfl⟩
theorem sides_any (A : Option Addr) (c n m : Nat) (M : List (List Int)) (w : World) (hM : ML w A M) (sq : Sq n m M) (n1 : 1 ≤ n) (n6 : n ≤ 6) (m6 : m ≤ 6) : Calls Try.prog 62 #[.slice A n c] w fun e w' => e = .returned (.int .i64 (sd n m : Int)) ∧ w = w' := by
  obtain ⟨b0, o0, A0, c0, rfl, hb0, hc0, _, _⟩ := hM 0 (by rw [sq.len]; omega)
  rw [rw_len sq (by omega)] at hc0
  have hc0 : w.cell? ⟨b0, o0, none⟩ = some (.slice A0 m c0) := hc0
  have n01 : 1 ≤ (n : Int) := by omega
  have n02 : (0 : Int) < (n : Int) := by omega
  have n66 : (n : Int) ≤ 6 := by omega
  have m66 : (m : Int) ≤ 6 := by omega
  have m0 : 0 ≤ (m : Int) := by omega
  by_cases h : m < n
  · have e : (sd n m : Int) = m := by unfold sd; rw [if_pos h]
    have h1 : (m : Int) < (n : Int) := by omega
    have h2 : ¬ (n : Int) < (m : Int) := by omega
    rw [e]
    clear e h hM sq n1 n6 m6
    go_enter Try.func62, Try.ntmps62
    go_wp2_with fail
    go_ret
    exact ⟨rfl, rfl⟩
  · have e : (sd n m : Int) = n := by unfold sd; rw [if_neg h]
    have h1 : ¬ (m : Int) < (n : Int) := by omega
    rw [e]
    clear e h hM sq n1 n6 m6
    go_enter Try.func62, Try.ntmps62
    go_wp2_with fail
    go_ret
    exact ⟨rfl, rfl⟩
theorem csize_any (A : Option Addr) (c : Nat) (M : List (List Int)) (k : Int) (w : World) (hM : ML w A M) (ln : M.length ≤ 1000) (wd : ∀ i, i < M.length → (rw_ M i).length ≤ 1000) : Calls Try.prog 64 #[.slice A M.length c, .int .i64 k] w fun e w' => e = .returned (.int .i64 (zcode M k)) ∧ w = w' := by
  have CV := Lib.hid (val6_any A c M w hM ln wd)
  by_cases hv : vcode M = 0
  · obtain ⟨n, m, q, n1, n6, m1, m6⟩ := sq_of hv
    obtain rfl : M.length = n := q.len
    obtain rfl : (rw_ M 0).length = m := rw_len q (by omega)
    have SH := Lib.hid (shorter_any A c M.length (rw_ M 0).length M w hM q n1 n6 m6)
    rw [hv] at CV
    cases hin : inr k 0 (sd M.length (rw_ M 0).length : Int) with
    | false =>
      rw [zcode_1 hv hin]
      have CI := Lib.hid (fun W => (hin ▸ inrange_any k 0 (sd M.length (rw_ M 0).length : Int) W : Calls Try.prog 57 #[.int .i64 k, .int .i64 0, .int .i64 (sd M.length (rw_ M 0).length : Int)] W fun e w' => e = .returned (.bool false) ∧ W = w'))
      clear hM ln wd hv hin q n1 n6 m1 m6
      generalize (sd M.length (rw_ M 0).length : Int) = s at *
      go_enter Try.func64, Try.ntmps64
      go_wp2_with fail
      with_reducible refine CV.out.mono ?_
      rintro e w2 ⟨rfl, rfl⟩
      go_wp2_with fail
      with_reducible refine SH.out.mono ?_
      rintro e w2 ⟨rfl, rfl⟩
      go_wp2_with fail
      with_reducible refine (CI.out _).mono ?_
      rintro e w2 ⟨rfl, rfl⟩
      go_wp2_with fail
      go_ret
      exact ⟨rfl, rfl⟩
    | true =>
      rw [zcode_0 hv hin]
      have CI := Lib.hid (fun W => (hin ▸ inrange_any k 0 (sd M.length (rw_ M 0).length : Int) W : Calls Try.prog 57 #[.int .i64 k, .int .i64 0, .int .i64 (sd M.length (rw_ M 0).length : Int)] W fun e w' => e = .returned (.bool true) ∧ W = w'))
      clear hM ln wd hv hin q n1 n6 m1 m6
      generalize (sd M.length (rw_ M 0).length : Int) = s at *
      go_enter Try.func64, Try.ntmps64
      go_wp2_with fail
      with_reducible refine CV.out.mono ?_
      rintro e w2 ⟨rfl, rfl⟩
      go_wp2_with fail
      with_reducible refine SH.out.mono ?_
      rintro e w2 ⟨rfl, rfl⟩
      go_wp2_with fail
      with_reducible refine (CI.out _).mono ?_
      rintro e w2 ⟨rfl, rfl⟩
      go_wp2_with fail
      go_ret
      exact ⟨rfl, rfl⟩
  · rw [zcode_v hv]
    clear hM ln wd
    generalize vcode M = e at *
    have t1 : (e != 0) = true := by simp [hv]
    have t2 : (e == 0) = false := by simp [hv]
    clear hv
    go_enter Try.func64, Try.ntmps64
    go_wp2_with fail
    with_reducible refine CV.out.mono ?_
    rintro e w2 ⟨rfl, rfl⟩
    go_wp2_with fail
    go_ret
    exact ⟨rfl, rfl⟩
/-- the greatest minor of so many rows, or an error -/
def vlm (M : List (List Int)) (k : Int) : Int × Int := if zcode M k = 0 then (gv M M.length (rw_ M 0).length k.toNat (-1), 0) else (0, zcode M k)
theorem zcode_of {M : List (List Int)} {k : Int} (h : zcode M k = 0) : vcode M = 0 ∧ 0 ≤ k ∧ k ≤ (sd M.length (rw_ M 0).length : Int) := by
  unfold zcode at h
  split at h
  · rename_i hv
    refine ⟨hv, ?_⟩
    cases e : inr k 0 (sd M.length (rw_ M 0).length : Int)
    · rw [e] at h; cases h
    · exact inr_iff.1 e
  · rename_i hv; exact absurd h hv
theorem volP_any (A : Option Addr) (c : Nat) (M : List (List Int)) (k : Int) (w : World) (hM : ML w A M) (ln : M.length ≤ 1000) (wd : ∀ i, i < M.length → (rw_ M i).length ≤ 1000) : Calls Try.prog 28 #[.slice A M.length c, .int .i64 k] w fun e w' => e = .returned (.tuple #[.int .i64 (vlm M k).1, .int .i64 (vlm M k).2]) ∧ Below w.heap.size w w' := by
  have CV := Lib.hid (csize_any A c M k w hM ln wd)
  unfold vlm
  by_cases hz : zcode M k = 0
  · obtain ⟨hv, k0, kn⟩ := zcode_of hz
    obtain ⟨n, m, q, n1, n6, m1, m6⟩ := sq_of hv
    obtain rfl : M.length = n := q.len
    obtain rfl : (rw_ M 0).length = m := rw_len q (by omega)
    obtain ⟨s1, s2⟩ := sd_le M.length (rw_ M 0).length
    obtain ⟨K, rfl⟩ : ∃ K : Nat, k = (K : Int) := ⟨k.toNat, by omega⟩
    have eK : ((K : Int)).toNat = K := by omega
    have LA := Lib.hid (largest_any A c M.length (rw_ M 0).length K M w hM q n1 n6 m6 (by omega))
    rw [hz] at CV
    rw [if_pos hz, eK]
    clear hM ln wd hv hz q n1 n6 m1 m6 s1 s2 k0 kn eK
    generalize gv M M.length (rw_ M 0).length K (-1) = v at *
    go_enter Try.func28, Try.ntmps28
    go_wp2_with fail
    with_reducible refine CV.out.mono ?_
    rintro e w2 ⟨rfl, rfl⟩
    go_wp2_with fail
    with_reducible refine LA.out.mono ?_
    rintro e w3 ⟨rv, cv, rfl, _, hb⟩
    go_wp2_with fail
    go_ret2
    exact ⟨rfl, hb⟩
  · rw [if_neg hz]
    clear hM ln wd
    generalize zcode M k = e at *
    have t1 : (e != 0) = true := by simp [hz]
    clear hz
    go_enter Try.func28, Try.ntmps28
    go_wp2_with fail
    with_reducible refine CV.out.mono ?_
    rintro e w2 ⟨rfl, rfl⟩
    go_wp2_with fail
    go_ret2
    exact ⟨rfl, Below.refl _ _⟩
/-- what Largest answers -/
def LG (w : World) (M : List (List Int)) (k : Int) (rv cv : Value) : Prop :=
  if zcode M k = 0 then PK w M (setsN M.length k.toNat) (setsN (rw_ M 0).length k.toNat) (vlm M k).1 rv cv else rv = .slice none 0 0 ∧ cv = .slice none 0 0
theorem lg_0 {w : World} {M : List (List Int)} {k : Int} {rv cv : Value} (h : zcode M k = 0) (p : PK w M (setsN M.length k.toNat) (setsN (rw_ M 0).length k.toNat) (vlm M k).1 rv cv) : LG w M k rv cv := by unfold LG; rw [if_pos h]; exact p
theorem lg_1 {w : World} {M : List (List Int)} {k : Int} (h : zcode M k ≠ 0) : LG w M k (.slice none 0 0) (.slice none 0 0) := by unfold LG; rw [if_neg h]; exact ⟨rfl, rfl⟩
theorem vlm_0 {M : List (List Int)} {k : Int} (h : zcode M k = 0) : vlm M k = (gv M M.length (rw_ M 0).length k.toNat (-1), 0) := if_pos h
theorem vlm_1 {M : List (List Int)} {k : Int} (h : zcode M k ≠ 0) : vlm M k = (0, zcode M k) := if_neg h
theorem largP_any (A : Option Addr) (c : Nat) (M : List (List Int)) (k : Int) (w : World) (hM : ML w A M) (ln : M.length ≤ 1000) (wd : ∀ i, i < M.length → (rw_ M i).length ≤ 1000) : Calls Try.prog 30 #[.slice A M.length c, .int .i64 k] w fun e w' => ∃ rv cv, e = .returned (.tuple #[rv, cv, .int .i64 (vlm M k).2]) ∧ LG w' M k rv cv ∧ Below w.heap.size w w' := by
  have CV := Lib.hid (csize_any A c M k w hM ln wd)
  by_cases hz : zcode M k = 0
  · obtain ⟨hv, k0, kn⟩ := zcode_of hz
    obtain ⟨n, m, q, n1, n6, m1, m6⟩ := sq_of hv
    obtain rfl : M.length = n := q.len
    obtain rfl : (rw_ M 0).length = m := rw_len q (by omega)
    obtain ⟨s1, s2⟩ := sd_le M.length (rw_ M 0).length
    obtain ⟨K, rfl⟩ : ∃ K : Nat, k = (K : Int) := ⟨k.toNat, by omega⟩
    have eK : ((K : Int)).toNat = K := by omega
    have LA := Lib.hid (largest_any A c M.length (rw_ M 0).length K M w hM q n1 n6 m6 (by omega))
    have LGZ := Lib.hid (fun W rv cv => lg_0 (w := W) (M := M) (k := (K : Int)) (rv := rv) (cv := cv) hz)
    rw [vlm_0 hz] at LGZ ⊢
    rw [eK] at LGZ ⊢
    rw [hz] at CV
    clear hM ln wd hv hz q n1 n6 m1 m6 s1 s2 k0 kn eK
    generalize LG = LGG at *
    generalize PK = PKK at *
    generalize gv M M.length (rw_ M 0).length K (-1) = v at *
    go_enter Try.func30, Try.ntmps30
    go_wp2_with fail
    with_reducible refine CV.out.mono ?_
    rintro e w2 ⟨rfl, rfl⟩
    go_wp2_with fail
    with_reducible refine LA.out.mono ?_
    rintro e w3 ⟨rv, cv, rfl, hp, hb⟩
    go_wp2_with fail
    go_ret3
    exact ⟨rv, cv, rfl, LGZ.out _ _ _ hp, hb⟩
  · have LGZ := Lib.hid (fun W => lg_1 (w := W) hz)
    rw [vlm_1 hz]
    clear hM ln wd
    generalize LG = LGG at *
    generalize hzc : zcode M k = e at *
    have t1 : (e != 0) = true := by simp [hz]
    clear hz hzc
    go_enter Try.func30, Try.ntmps30
    go_wp2_with fail
    with_reducible refine CV.out.mono ?_
    rintro e w2 ⟨rfl, rfl⟩
    go_wp2_with fail
    go_ret3
    exact ⟨_, _, rfl, LGZ.out _, Below.refl _ _⟩
theorem rvolP_any (A : Option Addr) (c : Nat) (M : List (List Int)) (k : Int) (w : World) (hM : ML w A M) (ln : M.length ≤ 1000) (wd : ∀ i, i < M.length → (rw_ M i).length ≤ 1000) : Calls Try.prog 29 #[.slice A M.length c, .int .i64 k] w fun e w' => e = .returned (.tuple #[.int .i64 (vlm M k).1, .int .i64 (vlm M k).2]) ∧ Below w.heap.size w w' := by
  have CV := Lib.hid (rval6_any A c M w hM ln wd)
  by_cases hv : vcode M = 0
  · obtain ⟨n, m, q, n1, n6, m1, m6⟩ := sq_of hv
    obtain rfl : M.length = n := q.len
    obtain rfl : (rw_ M 0).length = m := rw_len q (by omega)
    have SH := Lib.hid (fun W (B : Below w.heap.size w W) => sides_any A c M.length (rw_ M 0).length M W (ml_in hM B) q n1 n6 m6)
    rw [hv] at CV
    cases hin : inr k 0 (sd M.length (rw_ M 0).length : Int) with
    | false =>
      have hz := zcode_1 hv hin
      rw [vlm_1 (by rw [hz]; decide), hz]
      have CI := Lib.hid (fun W => (hin ▸ within6_any k 0 (sd M.length (rw_ M 0).length : Int) W : Calls Try.prog 59 #[.int .i64 k, .int .i64 0, .int .i64 (sd M.length (rw_ M 0).length : Int)] W fun e w' => e = .returned (.bool false) ∧ W = w'))
      clear hM ln wd hv hin q n1 n6 m1 m6 hz
      generalize (sd M.length (rw_ M 0).length : Int) = s at *
      go_enter Try.func29, Try.ntmps29
      go_wp2_with fail
      with_reducible refine CV.out.mono ?_
      rintro e w2 ⟨rfl, hb⟩
      have HB := Lib.hid hb
      clear hb
      go_wp2_with fail
      with_reducible refine (SH.out _ HB.out).mono ?_
      rintro e w3 ⟨rfl, rfl⟩
      go_wp2_with fail
      with_reducible refine (CI.out _).mono ?_
      rintro e w3 ⟨rfl, rfl⟩
      go_wp2_with fail
      go_ret2
      exact ⟨rfl, HB.out⟩
    | true =>
      have hz := zcode_0 hv hin
      have ib := inr_iff.1 hin
      obtain ⟨s1, s2⟩ := sd_le M.length (rw_ M 0).length
      obtain ⟨K, rfl⟩ : ∃ K : Nat, k = (K : Int) := ⟨k.toNat, by omega⟩
      have eK : ((K : Int)).toNat = K := by omega
      rw [vlm_0 hz, eK, ← (gv_0 (M := M) n6 m6 (show K ≤ M.length by omega) (show K ≤ (rw_ M 0).length by omega)).1]
      have CI := Lib.hid (fun W => (hin ▸ within6_any (K : Int) 0 (sd M.length (rw_ M 0).length : Int) W : Calls Try.prog 59 #[.int .i64 (K : Int), .int .i64 0, .int .i64 (sd M.length (rw_ M 0).length : Int)] W fun e w' => e = .returned (.bool true) ∧ W = w'))
      have VO := Lib.hid (fun W (B : Below w.heap.size w W) => rvolume_any A c M.length (rw_ M 0).length K M W (ml_in hM B) q n1 n6 m6 (by omega))
      clear hM ln wd hv hin q n1 n6 m1 m6 hz ib s1 s2 eK
      generalize (sd M.length (rw_ M 0).length : Int) = s at *
      generalize gv M M.length (rw_ M 0).length K 0 = v at *
      go_enter Try.func29, Try.ntmps29
      go_wp2_with fail
      with_reducible refine CV.out.mono ?_
      rintro e w2 ⟨rfl, hb⟩
      have HB := Lib.hid hb
      clear hb
      go_wp2_with fail
      with_reducible refine (SH.out _ HB.out).mono ?_
      rintro e w3 ⟨rfl, rfl⟩
      go_wp2_with fail
      with_reducible refine (CI.out _).mono ?_
      rintro e w3 ⟨rfl, rfl⟩
      go_wp2_with fail
      with_reducible refine (VO.out _ HB.out).mono ?_
      rintro e w4 ⟨rfl, hb⟩
      have HB2 := Lib.hid (bstep HB.out hb)
      clear hb
      go_wp2_with fail
      go_ret2
      exact ⟨rfl, HB2.out⟩
  · rw [vlm_1 (by rw [zcode_v hv]; exact hv), zcode_v hv]
    clear hM ln wd
    generalize vcode M = e at *
    have t1 : (e != 0) = true := by simp [hv]
    have t2 : (e == 0) = false := by simp [hv]
    clear hv
    go_enter Try.func29, Try.ntmps29
    go_wp2_with fail
    with_reducible refine CV.out.mono ?_
    rintro e w2 ⟨rfl, hb⟩
    go_wp2_with fail
    go_ret2
    exact ⟨rfl, hb⟩

end Go.Proofs.Ytefmlcojbfiehaa
