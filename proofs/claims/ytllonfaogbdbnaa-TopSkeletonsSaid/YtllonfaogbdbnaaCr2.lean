/-
  The contracts of isSet, in the program and in the document's answer.
-/
import Derived.Test.YtllonfaogbdbnaaCr1
namespace Go.Proofs.Ytllonfaogbdbnaa
open Go.ChangeShapes Go.WideShapes Go.RowKit
open Cr
theorem setB_bad {l : List Int} {n : Int} {k : Nat} (h : k < l.length) (b : setB1 l n k = false) : setB l n = false := all_bad h b
theorem setB_good {l : List Int} {n : Int} (h : ∀ k, k < l.length → setB1 l n k = true) : setB l n = true := all_good h
theorem setB1_out {l : List Int} {n : Int} {k : Nat} (h : inr (at_ l k) 0 (n - 1) = false) : setB1 l n k = false := by unfold setB1; rw [h]; rfl
theorem setB1_zero {l : List Int} {n : Int} (h : inr (at_ l 0) 0 (n - 1) = true) : setB1 l n 0 = true := by unfold setB1; rw [h]; rfl
theorem setB1_low {l : List Int} {n : Int} {k : Nat} (h : at_ l (k + 1) ≤ at_ l k) : setB1 l n (k + 1) = false := by
  unfold setB1; simp [h]
theorem setB1_up {l : List Int} {n : Int} {k : Nat} (h : inr (at_ l (k + 1)) 0 (n - 1) = true) (u : at_ l k < at_ l (k + 1)) : setB1 l n (k + 1) = true := by
  unfold setB1; simp [h]; omega
set_option maxHeartbeats 1000000 in
theorem isset_any (A : Option Addr) (c : Nat) (l : List Int) (n : Int) (w : World) (h : IL w A l) (hn : l.length ≤ 1000) (hN : 0 ≤ n ∧ n ≤ 1000000) : Calls Try.prog 94 #[.slice A l.length c, .int .i64 n] w fun e w' => e = .returned (.bool (setB l n)) ∧ w = w' := by
  obtain ⟨res, hres⟩ : ∃ res, setB l n = res := ⟨_, rfl⟩
  have RES := Lib.hid hres
  have H := Lib.hid h
  have BAD := Lib.hid (fun k (hk : k < l.length) => setB_bad (n := n) hk)
  have GOOD := Lib.hid (setB_good (l := l) (n := n))
  rw [hres]
  clear hres h
  obtain ⟨m, hnn⟩ : ∃ m, l.length = m := ⟨_, rfl⟩
  rw [hnn] at BAD GOOD hn ⊢
  have NN := Lib.hid hnn
  clear hnn
  have hn' : (m : Int) ≤ 1000 := by omega
  obtain ⟨hN1, hN2⟩ := hN
  go_enter Try.func94, Try.ntmps94
  go_wp2
  go_loop [9] (fun kv => ∃ k : Nat, k ≤ m ∧ kv = .int .i64 k ∧ (∀ i, i < k → setB1 l n i = true)) (fun kv => m - (intOf kv).toNat)
  case atStart => exact ⟨0, Nat.zero_le _, rfl, fun i hi => absurd hi (Nat.not_lt_zero i)⟩
  case round =>
    obtain ⟨k, hk, rfl, good⟩ := hrel
    have G := Lib.hid good
    clear good
    by_cases hlt : k < m
    · have hk1 : (k : Int) < (m : Int) := by omega
      have BAD := Lib.hid (BAD.out k hlt)
      have GS := Lib.hid (fun (z : setB1 l n k = true) i (hi : i < k + 1) => if c : i < k then G.out i c else by rw [show i = k by omega]; exact z)
      obtain ⟨b, o, rfl, hb, hc⟩ := H.out k (by rw [NN.out]; exact hlt)
      cases k with
      | zero =>
        have B1 := Lib.hid (setB1_out (l := l) (n := n) (k := 0))
        have B2 := Lib.hid (setB1_zero (l := l) (n := n))
        have hc : w.cell? ⟨b, o, none⟩ = some (.int .i64 (at_ l 0)) := hc
        generalize at_ l 0 = x at *
        cases hin : inr x 0 (n - 1) with
        | false =>
          have C := Lib.hid (fun W => (hin ▸ inrange_any x 0 (n - 1) W : Calls Try.prog 65 #[.int .i64 x, .int .i64 0, .int .i64 (n - 1)] W fun e w' => e = .returned (.bool false) ∧ W = w'))
          have hf : res = false := by rw [← RES.out]; exact BAD.out (B1.out hin)
          subst hf
          clear hin
          go_wp2_with fail
          with_reducible refine (C.out _).mono ?_
          rintro e w' ⟨rfl, rfl⟩
          go_wp2
          go_ret
          exact ⟨rfl, rfl⟩
        | true =>
          have C := Lib.hid (fun W => (hin ▸ inrange_any x 0 (n - 1) W : Calls Try.prog 65 #[.int .i64 x, .int .i64 0, .int .i64 (n - 1)] W fun e w' => e = .returned (.bool true) ∧ W = w'))
          have GS := Lib.hid (GS.out (B2.out hin))
          clear hin
          go_wp2_with fail
          with_reducible refine (C.out _).mono ?_
          rintro e w' ⟨rfl, rfl⟩
          go_wp2
          go_round
          case rel => exact ⟨1, by omega, rfl, GS.out⟩
          case measure => simp [intOf]; omega
      | succ j =>
        obtain ⟨b', o', he, hb', hc'⟩ := H.out j (by rw [NN.out]; omega)
        simp only [Option.some.injEq, Addr.mk.injEq, and_true] at he
        obtain ⟨rfl, rfl⟩ := he
        have B1 := Lib.hid (setB1_out (l := l) (n := n) (k := j + 1))
        have B2 := Lib.hid (setB1_low (l := l) (n := n) (k := j))
        have B3 := Lib.hid (setB1_up (l := l) (n := n) (k := j))
        have hj1 : (j : Int) + 1 < (m : Int) := by omega
        have hj2 : (j : Int) < (m : Int) := by omega
        clear hk1
        generalize at_ l (j + 1) = x at *
        generalize at_ l j = y at *
        cases hin : inr x 0 (n - 1) with
        | false =>
          have C := Lib.hid (fun W => (hin ▸ inrange_any x 0 (n - 1) W : Calls Try.prog 65 #[.int .i64 x, .int .i64 0, .int .i64 (n - 1)] W fun e w' => e = .returned (.bool false) ∧ W = w'))
          have hf : res = false := by rw [← RES.out]; exact BAD.out (B1.out hin)
          subst hf
          clear hin
          go_wp2_with fail
          with_reducible refine (C.out _).mono ?_
          rintro e w' ⟨rfl, rfl⟩
          go_wp2
          go_ret
          exact ⟨rfl, rfl⟩
        | true =>
          have C := Lib.hid (fun W => (hin ▸ inrange_any x 0 (n - 1) W : Calls Try.prog 65 #[.int .i64 x, .int .i64 0, .int .i64 (n - 1)] W fun e w' => e = .returned (.bool true) ∧ W = w'))
          by_cases hle : x ≤ y
          · have hf : res = false := by rw [← RES.out]; exact BAD.out (B2.out hle)
            subst hf
            clear hin
            go_wp2_with fail
            with_reducible refine (C.out _).mono ?_
            rintro e w' ⟨rfl, rfl⟩
            go_wp2
            go_ret
            exact ⟨rfl, rfl⟩
          · have GS := Lib.hid (GS.out (B3.out hin (by omega)))
            clear hin
            go_wp2_with fail
            with_reducible refine (C.out _).mono ?_
            rintro e w' ⟨rfl, rfl⟩
            go_wp2
            go_round
            case rel => exact ⟨j + 1 + 1, by omega, by go_num, GS.out⟩
            case measure => simp [intOf]; omega
    · obtain rfl : k = m := by omega
      have hf : res = true := by rw [← RES.out]; exact GOOD.out G.out
      subst hf
      go_wp2
      go_ret
      exact ⟨rfl, rfl⟩
set_option maxHeartbeats 1000000 in
theorem risset_any (A : Option Addr) (c : Nat) (l : List Int) (n : Int) (w : World) (h : IL w A l) (hn : l.length ≤ 1000) (hN : 0 ≤ n ∧ n ≤ 1000000) : Calls Try.prog 109 #[.slice A l.length c, .int .i64 n] w fun e w' => e = .returned (.bool (setB l n)) ∧ Below w.heap.size w w' := by
  obtain ⟨res, hres⟩ : ∃ res, setB l n = res := ⟨_, rfl⟩
  have RES := Lib.hid hres
  have H := Lib.hid h
  have BAD := Lib.hid (fun k (hk : k < l.length) => setB_bad (n := n) hk)
  have GOOD := Lib.hid (setB_good (l := l) (n := n))
  rw [hres]
  clear hres h
  obtain ⟨m, hnn⟩ : ∃ m, l.length = m := ⟨_, rfl⟩
  rw [hnn] at BAD GOOD hn ⊢
  have NN := Lib.hid hnn
  clear hnn
  have hn' : (m : Int) ≤ 1000 := by omega
  obtain ⟨hN1, hN2⟩ := hN
  go_enter Try.func109, Try.ntmps109
  go_wp2
  go_loopw [5] (fun kv wr => ∃ k : Nat, k ≤ m ∧ kv = .int .i64 k ∧ (∀ i, i < k → setB1 l n i = true) ∧ Below w.heap.size w wr) (fun kv _ => m - (intOf kv).toNat)
  case atStart => exact ⟨0, Nat.zero_le _, rfl, fun i hi => absurd hi (Nat.not_lt_zero i), Below.refl _ _⟩
  case round =>
    obtain ⟨k, hk, rfl, good, B⟩ := hrel
    have G := Lib.hid good
    clear good
    by_cases hlt : k < m
    · have hk1 : (k : Int) < (m : Int) := by omega
      have BAD := Lib.hid (BAD.out k hlt)
      have GS := Lib.hid (fun (z : setB1 l n k = true) i (hi : i < k + 1) => if c : i < k then G.out i c else by rw [show i = k by omega]; exact z)
      obtain ⟨b, o, rfl, hb, hc⟩ := il_in H.out B k (by rw [NN.out]; exact hlt)
      have HB := Lib.hid B
      clear B
      have hlo : 0 ≤ (k : Int) := by omega
      cases k with
      | zero =>
        have B1 := Lib.hid (setB1_out (l := l) (n := n) (k := 0))
        have B2 := Lib.hid (setB1_zero (l := l) (n := n))
        have hc : wr.cell? ⟨b, o, none⟩ = some (.int .i64 (at_ l 0)) := hc
        generalize at_ l 0 = x at *
        by_cases h1 : x < 0
        · have hf : res = false := by rw [← RES.out]; exact BAD.out (B1.out (inr_not.2 (by omega)))
          subst hf
          go_wp2
          go_quiet (fail)
          go_wp2
          go_ret
          exact ⟨rfl, by have hB := HB.out; (repeat' (first | exact Below.refl _ _ | refine bstep ?_ hB | refine Below.setCell ?_ (by simp <;> omega) _ | refine balloc ?_ _ | refine Below.drew ?_ | refine bdrewN ?_ _))⟩
        · by_cases h2 : n ≤ x
          · have hf : res = false := by rw [← RES.out]; exact BAD.out (B1.out (inr_not.2 (by omega)))
            subst hf
            have d1 : decide (x < 0) = false := by simpa using h1
            go_wp2
            go_quiet (fail)
            go_wp2
            go_ret
            exact ⟨rfl, by have hB := HB.out; (repeat' (first | exact Below.refl _ _ | refine bstep ?_ hB | refine Below.setCell ?_ (by simp <;> omega) _ | refine balloc ?_ _ | refine Below.drew ?_ | refine bdrewN ?_ _))⟩
          · have GS := Lib.hid (GS.out (B2.out (inr_iff.2 (by omega))))
            have d1 : decide (x < 0) = false := by simpa using h1
            have d2 : decide (n ≤ x) = false := by simpa using h2
            go_wp2
            go_quiet (fail)
            go_wp2
            go_roundw
            case rel => exact ⟨1, by omega, rfl, GS.out, by have hB := HB.out; (repeat' (first | exact Below.refl _ _ | refine bstep ?_ hB | refine Below.setCell ?_ (by simp <;> omega) _ | refine balloc ?_ _ | refine Below.drew ?_ | refine bdrewN ?_ _))⟩
            case measure => simp [intOf]; omega
      | succ j =>
        obtain ⟨b', o', he, hb', hc'⟩ := il_in H.out HB.out j (by rw [NN.out]; omega)
        simp only [Option.some.injEq, Addr.mk.injEq, and_true] at he
        obtain ⟨rfl, rfl⟩ := he
        have B1 := Lib.hid (setB1_out (l := l) (n := n) (k := j + 1))
        have B2 := Lib.hid (setB1_low (l := l) (n := n) (k := j))
        have B3 := Lib.hid (setB1_up (l := l) (n := n) (k := j))
        have hj1 : (j : Int) + 1 < (m : Int) := by omega
        have hj2 : (j : Int) < (m : Int) := by omega
        clear hk1
        generalize at_ l (j + 1) = x at *
        generalize at_ l j = y at *
        by_cases h1 : x < 0
        · have hf : res = false := by rw [← RES.out]; exact BAD.out (B1.out (inr_not.2 (by omega)))
          subst hf
          go_wp2
          go_quiet (fail)
          go_wp2
          go_ret
          exact ⟨rfl, by have hB := HB.out; (repeat' (first | exact Below.refl _ _ | refine bstep ?_ hB | refine Below.setCell ?_ (by simp <;> omega) _ | refine balloc ?_ _ | refine Below.drew ?_ | refine bdrewN ?_ _))⟩
        · by_cases h2 : n ≤ x
          · have hf : res = false := by rw [← RES.out]; exact BAD.out (B1.out (inr_not.2 (by omega)))
            subst hf
            have d1 : decide (x < 0) = false := by simpa using h1
            go_wp2
            go_quiet (fail)
            go_wp2
            go_ret
            exact ⟨rfl, by have hB := HB.out; (repeat' (first | exact Below.refl _ _ | refine bstep ?_ hB | refine Below.setCell ?_ (by simp <;> omega) _ | refine balloc ?_ _ | refine Below.drew ?_ | refine bdrewN ?_ _))⟩
          · have d1 : decide (x < 0) = false := by simpa using h1
            have d2 : decide (n ≤ x) = false := by simpa using h2
            by_cases hle : x ≤ y
            · have hf : res = false := by rw [← RES.out]; exact BAD.out (B2.out hle)
              subst hf
              go_wp2
              go_quiet (fail)
              go_wp2
              go_ret
              exact ⟨rfl, by have hB := HB.out; (repeat' (first | exact Below.refl _ _ | refine bstep ?_ hB | refine Below.setCell ?_ (by simp <;> omega) _ | refine balloc ?_ _ | refine Below.drew ?_ | refine bdrewN ?_ _))⟩
            · have GS := Lib.hid (GS.out (B3.out (inr_iff.2 (by omega)) (by omega)))
              have d3 : decide (x ≤ y) = false := by simpa using hle
              go_wp2
              go_quiet (fail)
              go_wp2
              go_roundw
              case rel => exact ⟨j + 1 + 1, by omega, by go_num, GS.out, by have hB := HB.out; (repeat' (first | exact Below.refl _ _ | refine bstep ?_ hB | refine Below.setCell ?_ (by simp <;> omega) _ | refine balloc ?_ _ | refine Below.drew ?_ | refine bdrewN ?_ _))⟩
              case measure => simp [intOf]; omega
    · obtain rfl : k = m := by omega
      have hf : res = true := by rw [← RES.out]; exact GOOD.out G.out
      subst hf
      go_wp2
      go_ret
      exact ⟨rfl, B⟩

end Go.Proofs.Ytllonfaogbdbnaa
