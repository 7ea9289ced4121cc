/-
  The contracts of shorterSide, Sides, checkSize, Volume in the program and in the document's answer, and of Largest.
-/
import Derived.Test.YtllonfaogbdbnaaCrS7
namespace Go.Proofs.Ytllonfaogbdbnaa
open Go.ChangeShapes Go.WideShapes Go.RowKit
open Cr
/-- the smaller side -/
def sd (n m : Nat) : Nat := if m < n then m else n
theorem sd_le (n m : Nat) : sd n m ≤ n ∧ sd n m ≤ m := by unfold sd; split <;> omega
/-- the error of a matrix and a number of rows -/
def zcode (M : List (List Int)) (k : Int) : Int := if vcode M = 0 then (if inr k 0 (sd M.length (rw_ M 0).length : Int) then 0 else 1) else vcode M
theorem zcode_v {M : List (List Int)} {k : Int} (h : vcode M ≠ 0) : zcode M k = vcode M := if_neg h
theorem zcode_0 {M : List (List Int)} {k : Int} (h : vcode M = 0) (b : inr k 0 (sd M.length (rw_ M 0).length : Int) = true) : zcode M k = 0 := by unfold zcode; rw [if_pos h, b]; rfl
theorem zcode_1 {M : List (List Int)} {k : Int} (h : vcode M = 0) (b : inr k 0 (sd M.length (rw_ M 0).length : Int) = false) : zcode M k = 1 := by unfold zcode; rw [if_pos h, b]; rfl
theorem shorter_any (A : Option Addr) (c n m : Nat) (M : List (List Int)) (w : World) (hM : ML w A M) (sq : Sq n m M) (n1 : 1 ≤ n) (n6 : n ≤ 6) (m6 : m ≤ 6) : Calls Try.prog 55 #[.slice A n c] w fun e w' => e = .returned (.int .i64 (sd n m : Int)) ∧ w = w' := by
  obtain ⟨b0, o0, A0, c0, rfl, hb0, hc0, _, _⟩ := hM 0 (by rw [sq.len]; omega)
  rw [rw_len sq (by omega)] at hc0
  have hc0 : w.cell? ⟨b0, o0, none⟩ = some (.slice A0 m c0) := hc0
  have n01 : 1 ≤ (n : Int) := by omega
  have n02 : (0 : Int) < (n : Int) := by omega
  have n66 : (n : Int) ≤ 6 := by omega
  have m66 : (m : Int) ≤ 6 := by omega
  have m0 : 0 ≤ (m : Int) := by omega
  by_cases h : m < n
  · have e : (sd n m : Int) = m := by unfold sd; rw [if_pos h]
    have h1 : (m : Int) < (n : Int) := by omega
    have h2 : ¬ (n : Int) < (m : Int) := by omega
    have hm : min (n : Int) (m : Int) = m := by omega
    rw [e]
    clear e h hM sq n1 n6 m6
    go_enter Try.func55, Try.ntmps55
    go_wp2_with fail
    go_ret
    exact ⟨rfl, rfl⟩
  · have e : (sd n m : Int) = n := by unfold sd; rw [if_neg h]
    have h1 : ¬ (m : Int) < (n : Int) := by omega
    have hm : min (n : Int) (m : Int) = n := by omega
    rw [e]
    clear e h hM sq n1 n6 m6
    go_enter Try.func55, Try.ntmps55
    go_wp2_with fail
    go_ret
    exact ⟨rfl, rfl⟩
/-- the greatest minor of so many rows, or an error -/
def vlm (M : List (List Int)) (k : Int) : Int × Int := if zcode M k = 0 then (gv M M.length (rw_ M 0).length k.toNat (-1), 0) else (0, zcode M k)
theorem zcode_of {M : List (List Int)} {k : Int} (h : zcode M k = 0) : vcode M = 0 ∧ 0 ≤ k ∧ k ≤ (sd M.length (rw_ M 0).length : Int) := by
  unfold zcode at h
  split at h
  · rename_i hv
    refine ⟨hv, ?_⟩
    cases e : inr k 0 (sd M.length (rw_ M 0).length : Int)
    · rw [e] at h; cases h
    · exact inr_iff.1 e
  · rename_i hv; exact absurd h hv
/-- what Largest answers -/
def LG (w : World) (M : List (List Int)) (k : Int) (rv cv : Value) : Prop :=
  if zcode M k = 0 then PK w M (setsN M.length k.toNat) (setsN (rw_ M 0).length k.toNat) (vlm M k).1 rv cv else rv = .slice none 0 0 ∧ cv = .slice none 0 0
theorem lg_0 {w : World} {M : List (List Int)} {k : Int} {rv cv : Value} (h : zcode M k = 0) (p : PK w M (setsN M.length k.toNat) (setsN (rw_ M 0).length k.toNat) (vlm M k).1 rv cv) : LG w M k rv cv := by unfold LG; rw [if_pos h]; exact p
theorem lg_1 {w : World} {M : List (List Int)} {k : Int} (h : zcode M k ≠ 0) : LG w M k (.slice none 0 0) (.slice none 0 0) := by unfold LG; rw [if_neg h]; exact ⟨rfl, rfl⟩
theorem vlm_0 {M : List (List Int)} {k : Int} (h : zcode M k = 0) : vlm M k = (gv M M.length (rw_ M 0).length k.toNat (-1), 0) := if_pos h
theorem vlm_1 {M : List (List Int)} {k : Int} (h : zcode M k ≠ 0) : vlm M k = (0, zcode M k) := if_neg h
end Go.Proofs.Ytllonfaogbdbnaa
