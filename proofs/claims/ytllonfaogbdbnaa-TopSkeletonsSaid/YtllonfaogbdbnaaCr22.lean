/-
  The contracts of Minor (in the program and in the document's answer), Long, many, known.
-/
import Derived.Test.YtllonfaogbdbnaaCr21
namespace Go.Proofs.Ytllonfaogbdbnaa
open Go.ChangeShapes Go.WideShapes Go.RowKit
open Cr
/-- what Minor answers -/
def mnr (M : List (List Int)) (rows cols : List Int) : Int × Int := if kcode M rows cols = 0 then (detR M rows cols, 0) else (0, kcode M rows cols)
set_option maxHeartbeats 1000000 in
theorem minorP_any (A R C : Option Addr) (c cr cc : Nat) (M : List (List Int)) (rows cols : List Int) (w : World) (h : Arg w A M R C rows cols) :
    Calls Try.prog 21 #[.slice A M.length c, .slice R rows.length cr, .slice C cols.length cc] w fun e w' => e = .returned (.tuple #[.int .i64 (mnr M rows cols).1, .int .i64 (mnr M rows cols).2]) ∧ Below w.heap.size w w' := by
  have CH := Lib.hid (fun W (B : Below w.heap.size w W) => check_any A R C c cr cc M rows cols W (arg_in h B))
  unfold mnr
  by_cases k : kcode M rows cols = 0
  · obtain ⟨ho, hl⟩ := cho_of h k
    have DE := Lib.hid (fun W (B : Below w.heap.size w W) => minor_any A R C c cr cc M.length (rw_ M 0).length rows.length M rows cols W (ml_in ho.mat B) ho.sq (il_in ho.rowsI B) (il_in ho.colsI B) ho.ur ho.uc rfl hl (by have := ho.h6; omega))
    rw [if_pos k]
    rw [k] at CH
    rw [hl] at CH ⊢
    clear h ho hl k
    generalize detR M rows cols = d at *
    go_enter Try.func21, Try.ntmps21
    go_wp2_with fail
    with_reducible refine (CH.out _ (Below.refl _ _)).mono ?_
    rintro e w2 ⟨rfl, rfl⟩
    have HB := Lib.hid (Below.refl w.heap.size w)
    go_wp2_with fail
    with_reducible refine (DE.out _ HB.out).mono ?_
    rintro e w3 ⟨rfl, hb⟩
    have HB3 := Lib.hid (bstep HB.out hb)
    clear hb
    go_wp2_with fail
    go_ret2
    exact ⟨rfl, HB3.out⟩
  · rw [if_neg k]
    clear h
    generalize kcode M rows cols = e at *
    have t1 : (e != 0) = true := by simp [k]
    have t2 : (e == 0) = false := by simp [k]
    clear k
    go_enter Try.func21, Try.ntmps21
    go_wp2_with fail
    with_reducible refine (CH.out _ (Below.refl _ _)).mono ?_
    rintro e w2 ⟨rfl, rfl⟩
    have HB := Lib.hid (Below.refl w.heap.size w)
    go_wp2_with fail
    go_ret2
    exact ⟨rfl, HB.out⟩
/-- is the matrix long? -/
def longB (M : List (List Int)) : Bool := decide (20 < M.length) || (List.range M.length).any fun i => decide (20 < (rw_ M i).length)
theorem long_no {M : List (List Int)} (h : longB M = false) : M.length ≤ 20 ∧ ∀ i, i < M.length → (rw_ M i).length ≤ 20 := by
  unfold longB at h
  simp only [Bool.or_eq_false_iff, decide_eq_false_iff_not, List.any_eq_false, List.mem_range, decide_eq_true_eq] at h
  exact ⟨by omega, fun i hi => by have := h.2 i hi; omega⟩
theorem long_1 {M : List (List Int)} (h : 20 < M.length) : longB M = true := by unfold longB; simp [h]
theorem long_2 {M : List (List Int)} {i : Nat} (hi : i < M.length) (h : 20 < (rw_ M i).length) : longB M = true := by
  unfold longB
  rw [Bool.or_eq_true]
  right
  rw [List.any_eq_true]
  exact ⟨i, List.mem_range.2 hi, by simpa using h⟩
theorem long_3 {M : List (List Int)} (h : ¬ 20 < M.length) (g : ∀ i, i < M.length → ¬ 20 < (rw_ M i).length) : longB M = false := by
  unfold longB
  simp only [Bool.or_eq_false_iff, decide_eq_false_iff_not, List.any_eq_false, List.mem_range, decide_eq_true_eq]
  exact ⟨h, g⟩
set_option maxHeartbeats 1000000 in
theorem long_any6 (A : Option Addr) (c : Nat) (M : List (List Int)) (w : World) (h : ML w A M) (hn : M.length ≤ 9223372036854775807) : Calls Try.prog 12 #[.slice A M.length c] w fun e w' => e = .returned (.bool (longB M)) ∧ w = w' := by
  obtain ⟨res, hres⟩ : ∃ res, longB M = res := ⟨_, rfl⟩
  have RES := Lib.hid hres
  have H := Lib.hid h
  have L1 := Lib.hid (long_1 (M := M))
  have L2 := Lib.hid (fun i (hi : i < M.length) => long_2 hi)
  have L3 := Lib.hid (long_3 (M := M))
  rw [hres]
  clear hres h
  obtain ⟨n, hnn⟩ : ∃ n, M.length = n := ⟨_, rfl⟩
  rw [hnn] at L1 L2 L3 hn ⊢
  have NN := Lib.hid hnn
  clear hnn
  by_cases h20 : 20 < n
  · have hf : res = true := by rw [← RES.out]; exact L1.out h20
    subst hf
    have h20' : (20 : Int) < (n : Int) := by omega
    go_enter Try.func12, Try.ntmps12
    go_wp2
    go_ret
    exact ⟨rfl, rfl⟩
  · have h20' : ¬ (20 : Int) < (n : Int) := by omega
    have h21 : (n : Int) ≤ 20 := by omega
    go_enter Try.func12, Try.ntmps12
    go_wp2
    go_loop [3] (fun kv => ∃ k : Nat, k ≤ n ∧ kv = .int .i64 k ∧ (∀ i, i < k → ¬ 20 < (rw_ M i).length)) (fun kv => n - (intOf kv).toNat)
    case atStart => exact ⟨0, Nat.zero_le _, rfl, fun i hi => absurd hi (Nat.not_lt_zero i)⟩
    case round =>
      obtain ⟨k, hk, rfl, good⟩ := hrel
      have G := Lib.hid good
      clear good
      by_cases hlt : k < n
      · obtain ⟨b, o, A1, c1, rfl, hb, hc, hl1, _⟩ := H.out k (by rw [NN.out]; exact hlt)
        have hk1 : (k : Int) < (n : Int) := by omega
        have L2k := Lib.hid (L2.out k hlt)
        have GS := Lib.hid (fun (z : ¬ 20 < (rw_ M k).length) i (hi : i < k + 1) => if c : i < k then G.out i c else by rw [show i = k by omega]; exact z)
        clear hl1
        generalize (rw_ M k).length = p at *
        by_cases e : 20 < p
        · have hf : res = true := by rw [← RES.out]; exact L2k.out e
          subst hf
          have e' : (20 : Int) < (p : Int) := by omega
          clear e
          go_wp2
          go_ret
          exact ⟨rfl, rfl⟩
        · have e' : ¬ (20 : Int) < (p : Int) := by omega
          have GS := Lib.hid (GS.out e)
          clear e
          go_wp2
          go_round
          case rel => exact ⟨k + 1, by omega, by go_num, GS.out⟩
          case measure => simp [intOf]; omega
      · obtain rfl : k = n := by omega
        have hf : res = false := by rw [← RES.out]; exact L3.out h20 G.out
        subst hf
        go_wp2
        go_ret
        exact ⟨rfl, rfl⟩
/-- a choice of the statement's, as a value -/
abbrev cdv (R : Option Addr) (k cr : Nat) (C : Option Addr) (l cc : Nat) : Value := .agg #[.slice R k cr, .slice C l cc]
theorem many_any (R C : Option Addr) (k cr l cc : Nat) (w : World) : Calls Try.prog 13 #[cdv R k cr C l cc] w fun e w' => e = .returned (.bool (decide (40 < k) || decide (40 < l))) ∧ w.alloc (.cells #[.slice R k cr, .slice C l cc] 39) = w' := by
  by_cases h1 : 40 < k
  · have e1 : (40 : Int) < (k : Int) := by omega
    have e : (decide (40 < k) || decide (40 < l)) = true := by simp [h1]
    rw [e]
    clear h1 e
    go_enter Try.func13, Try.ntmps13
    go_wp2
    go_ret
    exact ⟨rfl, rfl⟩
  · by_cases h2 : 40 < l
    · have e1 : ¬ (40 : Int) < (k : Int) := by omega
      have e2 : (40 : Int) < (l : Int) := by omega
      have e : (decide (40 < k) || decide (40 < l)) = true := by simp [h2]
      rw [e]
      clear h1 h2 e
      go_enter Try.func13, Try.ntmps13
      go_wp2
      go_ret
      exact ⟨rfl, rfl⟩
    · have e1 : ¬ (40 : Int) < (k : Int) := by omega
      have e2 : ¬ (40 : Int) < (l : Int) := by omega
      have e : (decide (40 < k) || decide (40 < l)) = false := by simp [h1, h2]
      rw [e]
      clear h1 h2 e
      go_enter Try.func13, Try.ntmps13
      go_wp2
      go_ret
      exact ⟨rfl, rfl⟩
theorem kn_res : resd [[2, 1], [1, 1]] [0] [0] 1 1 = ((1, 2), 0) := by decide +kernel
/-- the example's arguments in the call's own memory -/
theorem kn_arg (w : World) : Arg (((((w.alloc (.cells #[.int .i64 2, .int .i64 1] 3)).alloc (.cells #[.int .i64 1, .int .i64 1] 3)).alloc (.cells #[.slice (some ⟨w.heap.size, 0, none⟩) 2 2, .slice (some ⟨w.heap.size + 1, 0, none⟩) 2 2] 37)).alloc (.cells #[.int .i64 0] 3)).alloc (.cells #[.int .i64 0] 3))
    (some ⟨w.heap.size + 2, 0, none⟩) [[2, 1], [1, 1]] (some ⟨w.heap.size + 3, 0, none⟩) (some ⟨w.heap.size + 4, 0, none⟩) [0] [0] := by
  refine ⟨fun i hi => ?_, by decide, by decide, fun k hk => ?_, fun k hk => ?_, by decide, by decide⟩
  · match i, hi with
    | 0, _ => exact ⟨w.heap.size + 2, 0, some ⟨w.heap.size, 0, none⟩, 2, rfl, by simp, by go_simp; rfl, by decide, fun k hk => match k, hk with
      | 0, _ => ⟨w.heap.size, 0, rfl, by simp <;> omega, by go_simp; rfl⟩
      | 1, _ => ⟨w.heap.size, 0, rfl, by simp <;> omega, by go_simp; rfl⟩⟩
    | 1, _ => exact ⟨w.heap.size + 2, 0, some ⟨w.heap.size + 1, 0, none⟩, 2, rfl, by simp, by go_simp; rfl, by decide, fun k hk => match k, hk with
      | 0, _ => ⟨w.heap.size + 1, 0, rfl, by simp, by go_simp; rfl⟩
      | 1, _ => ⟨w.heap.size + 1, 0, rfl, by simp, by go_simp; rfl⟩⟩
  · match k, hk with
    | 0, _ => exact ⟨w.heap.size + 3, 0, rfl, by simp, by go_simp; rfl⟩
  · match k, hk with
    | 0, _ => exact ⟨w.heap.size + 4, 0, rfl, by simp, by go_simp; rfl⟩

end Go.Proofs.Ytllonfaogbdbnaa
