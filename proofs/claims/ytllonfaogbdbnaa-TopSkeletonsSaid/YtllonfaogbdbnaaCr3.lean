/-
  The contracts of Validate, in the program and in the document's answer.
-/
import Derived.Test.YtllonfaogbdbnaaCr2
namespace Go.Proofs.Ytllonfaogbdbnaa
open Go.ChangeShapes Go.WideShapes Go.RowKit
open Cr
theorem quiet_pure {P : Program} {f : FuncId} {args : Array Value} {w : World} {n : Nat} {v : Value}
    (h : Calls P f args (w.drewN n) fun e w' => e = .returned v ∧ w.drewN n = w') : Calls P f args (w.drewN n) fun e w'' => e = .returned v ∧ ∃ m, w'' = w.drewN m :=
  h.mono fun _ _ ⟨he, hm⟩ => ⟨he, n, hm.symm⟩
/-- is the row as long as the first, not too long, and within the limit? -/
def rowB (M : List (List Int)) (i : Nat) : Bool := decide ((rw_ M i).length = (rw_ M 0).length) && inr (rw_ M i).length 1 6 && allB (rw_ M i) 100
def rowsB (M : List (List Int)) : Bool := (List.range M.length).all (rowB M)
/-- the error of a matrix -/
def vcode (M : List (List Int)) : Int := if inr M.length 1 6 then (if rowsB M then 0 else 1) else 4
theorem rowsB_bad {M : List (List Int)} {k : Nat} (h : k < M.length) (b : rowB M k = false) : rowsB M = false := all_bad h b
theorem rowsB_good {M : List (List Int)} (h : ∀ k, k < M.length → rowB M k = true) : rowsB M = true := all_good h
theorem vcode_large {M : List (List Int)} (h : inr M.length 1 6 = false) : vcode M = 4 := by unfold vcode; rw [h]; rfl
theorem vcode_bad {M : List (List Int)} (h : inr M.length 1 6 = true) (b : rowsB M = false) : vcode M = 1 := by unfold vcode; rw [h, b]; rfl
theorem vcode_good {M : List (List Int)} (h : inr M.length 1 6 = true) (b : rowsB M = true) : vcode M = 0 := by unfold vcode; rw [h, b]; rfl
theorem rowB_1 {M : List (List Int)} {i : Nat} (h : (rw_ M i).length ≠ (rw_ M 0).length) : rowB M i = false := by unfold rowB; simp [h]
theorem rowB_2 {M : List (List Int)} {i : Nat} (h : inr (rw_ M i).length 1 6 = false) : rowB M i = false := by unfold rowB; simp [h]
theorem rowB_3 {M : List (List Int)} {i : Nat} (h : allB (rw_ M i) 100 = false) : rowB M i = false := by unfold rowB; simp [h]
theorem rowB_4 {M : List (List Int)} {i : Nat} (h1 : (rw_ M i).length = (rw_ M 0).length) (h2 : inr (rw_ M i).length 1 6 = true) (h3 : allB (rw_ M i) 100 = true) : rowB M i = true := by unfold rowB; simp [h1, h3]; rw [← h1]; exact h2
theorem sq_of {M : List (List Int)} (h : vcode M = 0) : ∃ n m, Sq n m M ∧ 1 ≤ n ∧ n ≤ 6 ∧ 1 ≤ m ∧ m ≤ 6 := by
  unfold vcode at h
  split at h
  · rename_i h1
    split at h
    · rename_i h2
      have h1 := inr_iff.1 h1
      unfold rowsB at h2
      rw [List.all_eq_true] at h2
      have hrow : ∀ r, r ∈ M → r.length = (rw_ M 0).length ∧ allB r 100 = true ∧ 1 ≤ r.length ∧ r.length ≤ 6 := fun r hr => by
        obtain ⟨i, hi, rfl⟩ := List.getElem_of_mem hr
        have z := h2 i (List.mem_range.2 hi)
        unfold rowB at z
        have e : rw_ M i = M[i] := by unfold rw_; simp [List.getD, hi]
        rw [e] at z
        simp only [Bool.and_eq_true, decide_eq_true_eq] at z
        have := inr_iff.1 z.1.2
        exact ⟨z.1.1, z.2, by omega, by omega⟩
      have z0 := hrow (rw_ M 0) (rw_mem (by omega))
      refine ⟨M.length, (rw_ M 0).length, ⟨rfl, fun r hr => (hrow r hr).1, fun r hr x hx => ?_⟩, by omega, by omega, z0.2.2.1, z0.2.2.2⟩
      have a := (hrow r hr).2.1
      unfold allB at a
      rw [List.all_eq_true] at a
      obtain ⟨k, hk, rfl⟩ := List.getElem_of_mem hx
      have e : at_ r k = r[k] := by unfold at_; simp [List.getD, hk]
      have := inr_iff.1 (a k (List.mem_range.2 hk))
      rw [e] at this
      omega
    · cases h
  · cases h
set_option maxHeartbeats 1000000 in
theorem val6_any (A : Option Addr) (c : Nat) (M : List (List Int)) (w : World) (h : ML w A M) (hn : M.length ≤ 1000) (hr : ∀ i, i < M.length → (rw_ M i).length ≤ 1000) : Calls Try.prog 54 #[.slice A M.length c] w fun e w' => e = .returned (.int .i64 (vcode M)) ∧ w = w' := by
  obtain ⟨res, hres⟩ : ∃ res, vcode M = res := ⟨_, rfl⟩
  have RES := Lib.hid hres
  have H := Lib.hid h
  have HR := Lib.hid hr
  have BAD := Lib.hid (fun k (hk : k < M.length) => rowsB_bad hk)
  have GOOD := Lib.hid (rowsB_good (M := M))
  have V1 := Lib.hid (vcode_large (M := M))
  have V2 := Lib.hid (vcode_bad (M := M))
  have V3 := Lib.hid (vcode_good (M := M))
  rw [hres]
  clear hres h hr
  obtain ⟨n, hnn⟩ : ∃ n, M.length = n := ⟨_, rfl⟩
  rw [hnn] at BAD GOOD V1 V2 V3 HR hn ⊢
  have NN := Lib.hid hnn
  clear hnn
  have hn' : (n : Int) ≤ 1000 := by omega
  cases hin : inr n 1 6 with
  | false =>
    have CI := Lib.hid (fun W => (hin ▸ inrange_any (n : Int) 1 6 W : Calls Try.prog 65 #[.int .i64 (n : Int), .int .i64 (1), .int .i64 6] W fun e w' => e = .returned (.bool false) ∧ W = w'))
    have hf : res = 4 := by rw [← RES.out]; exact V1.out hin
    subst hf
    clear hin
    go_enter Try.func54, Try.ntmps54
    go_wp2_with fail
    with_reducible refine (CI.out _).mono ?_
    rintro e w' ⟨rfl, rfl⟩
    go_wp2
    go_ret
    exact ⟨rfl, rfl⟩
  | true =>
    have CI := Lib.hid (fun W => (hin ▸ inrange_any (n : Int) 1 6 W : Calls Try.prog 65 #[.int .i64 (n : Int), .int .i64 (1), .int .i64 6] W fun e w' => e = .returned (.bool true) ∧ W = w'))
    have hpos := (inr_iff.1 hin).1
    have V2' := Lib.hid (V2.out hin)
    have V3' := Lib.hid (V3.out hin)
    clear V2 V3
    clear hin
    go_enter Try.func54, Try.ntmps54
    go_wp2_with fail
    with_reducible refine (CI.out _).mono ?_
    rintro e w' ⟨rfl, rfl⟩
    go_wp2_with fail
    clear CI
    go_loop [11] (fun kv => ∃ k : Nat, k ≤ n ∧ kv = .int .i64 k ∧ (∀ i, i < k → rowB M i = true)) (fun kv => n - (intOf kv).toNat)
    case atStart => exact ⟨0, Nat.zero_le _, rfl, fun i hi => absurd hi (Nat.not_lt_zero i)⟩
    case round =>
      obtain ⟨k, hk, rfl, good⟩ := hrel
      have G := Lib.hid good
      clear good
      by_cases hlt : k < n
      · have hk1 : (k : Int) < (n : Int) := by omega
        obtain ⟨b, o, A0, c0, rfl, hb, hc0, hl0, hr0⟩ := H.out 0 (by rw [NN.out]; omega)
        obtain ⟨b', o', A1, c1, he, hb', hc1, hl1, hr1⟩ := H.out k (by rw [NN.out]; exact hlt)
        simp only [Option.some.injEq, Addr.mk.injEq, and_true] at he
        obtain ⟨rfl, rfl⟩ := he
        have hc0 : w.cell? ⟨b, o, none⟩ = some (.slice A0 (rw_ M 0).length c0) := hc0
        have BAD := Lib.hid (fun z => V2'.out (BAD.out k hlt z))
        have GS := Lib.hid (fun (z : rowB M k = true) i (hi : i < k + 1) => if c : i < k then G.out i c else by rw [show i = k by omega]; exact z)
        have R1 := Lib.hid (rowB_1 (M := M) (i := k))
        have R2 := Lib.hid (rowB_2 (M := M) (i := k))
        have R3 := Lib.hid (rowB_3 (M := M) (i := k))
        have R4 := Lib.hid (rowB_4 (M := M) (i := k))
        have CA := Lib.hid (fun W (e : W = w) => (allw_any A1 c1 (rw_ M k) 100 W (e ▸ hr1) (HR.out k hlt) (by decide)))
        have P1 := HR.out k hlt
        clear hl0 hr0 hl1 hr1
        generalize allB (rw_ M k) 100 = d at *
        generalize (rw_ M k).length = p at *
        generalize (rw_ M 0).length = q at *
        by_cases hpq : p = q
        · have t1 : ((p : Int) == (q : Int)) = true := by simp [hpq]
          have t2 : ((p : Int) != (q : Int)) = false := by simp [hpq]
          have HPQ := Lib.hid hpq
          clear hpq
          cases hin : inr p 1 6 with
          | false =>
            have CI := Lib.hid (fun W => (hin ▸ inrange_any (p : Int) 1 6 W : Calls Try.prog 65 #[.int .i64 (p : Int), .int .i64 (1), .int .i64 6] W fun e w' => e = .returned (.bool false) ∧ W = w'))
            have hf : res = 1 := by rw [← RES.out]; exact BAD.out (R2.out hin)
            subst hf
            clear hin
            go_wp2_with fail
            with_reducible refine (CI.out _).mono ?_
            rintro e w' ⟨rfl, rfl⟩
            go_wp2
            go_ret
            exact ⟨rfl, rfl⟩
          | true =>
            have CI := Lib.hid (fun W => (hin ▸ inrange_any (p : Int) 1 6 W : Calls Try.prog 65 #[.int .i64 (p : Int), .int .i64 (1), .int .i64 6] W fun e w' => e = .returned (.bool true) ∧ W = w'))
            have HIN := Lib.hid hin
            clear hin
            cases d with
            | false =>
              have hf : res = 1 := by rw [← RES.out]; exact BAD.out (R3.out rfl)
              subst hf
              go_wp2_with fail
              with_reducible refine (CI.out _).mono ?_
              rintro e w' ⟨rfl, rfl⟩
              go_wp2_with fail
              with_reducible refine (CA.out _ rfl).mono ?_
              rintro e w' ⟨rfl, rfl⟩
              go_wp2
              go_ret
              exact ⟨rfl, rfl⟩
            | true =>
              have GS := Lib.hid (GS.out (R4.out HPQ.out HIN.out rfl))
              go_wp2_with fail
              with_reducible refine (CI.out _).mono ?_
              rintro e w' ⟨rfl, rfl⟩
              go_wp2_with fail
              with_reducible refine (CA.out _ rfl).mono ?_
              rintro e w' ⟨rfl, rfl⟩
              go_wp2
              go_round
              case rel => exact ⟨k + 1, by omega, by go_num, GS.out⟩
              case measure => simp [intOf]; omega
        · have t1 : ((p : Int) == (q : Int)) = false := by simp; omega
          have t2 : ((p : Int) != (q : Int)) = true := by simp; omega
          have hf : res = 1 := by rw [← RES.out]; exact BAD.out (R1.out hpq)
          subst hf
          clear hpq
          go_wp2
          go_ret
          exact ⟨rfl, rfl⟩
      · obtain rfl : k = n := by omega
        have hf : res = 0 := by rw [← RES.out]; exact V3'.out (GOOD.out G.out)
        subst hf
        go_wp2
        go_ret
        exact ⟨rfl, rfl⟩

end Go.Proofs.Ytllonfaogbdbnaa
