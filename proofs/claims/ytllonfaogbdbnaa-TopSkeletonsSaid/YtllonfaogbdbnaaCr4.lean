/-
  The contract of the document's Validate.
-/
import Derived.Test.YtllonfaogbdbnaaCr3
namespace Go.Proofs.Ytllonfaogbdbnaa
open Go.ChangeShapes Go.WideShapes Go.RowKit
open Cr
set_option maxHeartbeats 2000000 in
theorem rval6_any (A : Option Addr) (c : Nat) (M : List (List Int)) (w : World) (h : ML w A M) (hn : M.length ≤ 1000) (hr : ∀ i, i < M.length → (rw_ M i).length ≤ 1000) : Calls Try.prog 108 #[.slice A M.length c] w fun e w' => e = .returned (.int .i64 (vcode M)) ∧ Below w.heap.size w w' := by
  obtain ⟨res, hres⟩ : ∃ res, vcode M = res := ⟨_, rfl⟩
  have RES := Lib.hid hres
  have H := Lib.hid h
  have HR := Lib.hid hr
  have BAD := Lib.hid (fun k (hk : k < M.length) => rowsB_bad hk)
  have GOOD := Lib.hid (rowsB_good (M := M))
  have V1 := Lib.hid (vcode_large (M := M))
  have V2 := Lib.hid (vcode_bad (M := M))
  have V3 := Lib.hid (vcode_good (M := M))
  rw [hres]
  clear hres h hr
  obtain ⟨n, hnn⟩ : ∃ n, M.length = n := ⟨_, rfl⟩
  rw [hnn] at BAD GOOD V1 V2 V3 HR hn ⊢
  have NN := Lib.hid hnn
  clear hnn
  have hn' : (n : Int) ≤ 1000 := by omega
  cases hin : inr n 1 6 with
  | false =>
    have CI := Lib.hid (fun W => (hin ▸ within6_any (n : Int) 1 6 W : Calls Try.prog 113 #[.int .i64 (n : Int), .int .i64 (1), .int .i64 6] W fun e w' => e = .returned (.bool false) ∧ W = w'))
    have hf : res = 4 := by rw [← RES.out]; exact V1.out hin
    subst hf
    clear hin
    go_enter Try.func108, Try.ntmps108
    go_wp2_with fail
    with_reducible refine (CI.out _).mono ?_
    rintro e w' ⟨rfl, rfl⟩
    go_wp2
    go_ret
    exact ⟨rfl, Below.refl _ _⟩
  | true =>
    have CI := Lib.hid (fun W => (hin ▸ within6_any (n : Int) 1 6 W : Calls Try.prog 113 #[.int .i64 (n : Int), .int .i64 (1), .int .i64 6] W fun e w' => e = .returned (.bool true) ∧ W = w'))
    have hpos := (inr_iff.1 hin).1
    have V2' := Lib.hid (V2.out hin)
    have V3' := Lib.hid (V3.out hin)
    clear V2 V3
    clear hin
    go_enter Try.func108, Try.ntmps108
    go_wp2_with fail
    with_reducible refine (CI.out _).mono ?_
    rintro e w' ⟨rfl, rfl⟩
    go_wp2_with fail
    clear CI
    go_loopw [3] (fun kv wr => ∃ k : Nat, k ≤ n ∧ kv = .int .i64 k ∧ (∀ i, i < k → rowB M i = true) ∧ Below w.heap.size w wr) (fun kv _ => n - (intOf kv).toNat)
    case atStart => exact ⟨0, Nat.zero_le _, rfl, fun i hi => absurd hi (Nat.not_lt_zero i), Below.refl _ _⟩
    case round =>
      obtain ⟨k, hk, rfl, good, B⟩ := hrel
      have G := Lib.hid good
      have HB := Lib.hid B
      clear good
      by_cases hlt : k < n
      · have hk1 : (k : Int) < (n : Int) := by omega
        have hk0 : 0 ≤ (k : Int) := by omega
        obtain ⟨b, o, A0, c0, rfl, hb, hc0, hl0, hr0⟩ := ml_in H.out B 0 (by rw [NN.out]; omega)
        obtain ⟨b', o', A1, c1, he, hb', hc1, hl1, hr1⟩ := ml_in H.out B k (by rw [NN.out]; exact hlt)
        simp only [Option.some.injEq, Addr.mk.injEq, and_true] at he
        obtain ⟨rfl, rfl⟩ := he
        have hc0 : wr.cell? ⟨b, o, none⟩ = some (.slice A0 (rw_ M 0).length c0) := hc0
        have BAD := Lib.hid (fun z => V2'.out (BAD.out k hlt z))
        have GS := Lib.hid (fun (z : rowB M k = true) i (hi : i < k + 1) => if c : i < k then G.out i c else by rw [show i = k by omega]; exact z)
        have R1 := Lib.hid (rowB_1 (M := M) (i := k))
        have R2 := Lib.hid (rowB_2 (M := M) (i := k))
        have R3 := Lib.hid (fun j (hj : j < (rw_ M k).length) z => rowB_3 (M := M) (i := k) (allB_bad hj z))
        have R4 := Lib.hid (fun h1 h2 h3 => rowB_4 (M := M) (i := k) h1 h2 (allB_good h3))
        have P1 := HR.out k hlt
        have HR1 := Lib.hid hr1
        clear hl0 hr0 hl1 hr1 B
        have hp0 : 0 < (n : Int) := by omega
        obtain ⟨p, hp⟩ : ∃ p, (rw_ M k).length = p := ⟨_, rfl⟩
        rw [hp] at hc1 R1 R2 R3 R4 P1
        have HP := Lib.hid hp
        clear hp
        generalize (rw_ M 0).length = q at *
        by_cases hpq : p = q
        · have t1 : ((p : Int) == (q : Int)) = true := by simp [hpq]
          have t2 : ((p : Int) != (q : Int)) = false := by simp [hpq]
          have HPQ := Lib.hid hpq
          clear hpq
          cases hin : inr p 1 6 with
          | false =>
            have CI := Lib.hid (fun W => (hin ▸ within6_any (p : Int) 1 6 W : Calls Try.prog 113 #[.int .i64 (p : Int), .int .i64 (1), .int .i64 6] W fun e w' => e = .returned (.bool false) ∧ W = w'))
            have hf : res = 1 := by rw [← RES.out]; exact BAD.out (R2.out hin)
            subst hf
            clear hin
            go_wp2_with fail
            go_quiet ((go_at_call 113; exact quiet_pure (CI.out _)))
            go_wp2
            go_ret
            exact ⟨rfl, by have hB := HB.out; (repeat' (first | exact Below.refl _ _ | refine bstep ?_ hB | refine Below.setCell ?_ (by simp <;> omega) _ | refine balloc ?_ _ | refine Below.drew ?_ | refine bdrewN ?_ _))⟩
          | true =>
            have CI := Lib.hid (fun W => (hin ▸ within6_any (p : Int) 1 6 W : Calls Try.prog 113 #[.int .i64 (p : Int), .int .i64 (1), .int .i64 6] W fun e w' => e = .returned (.bool true) ∧ W = w'))
            have HIN := Lib.hid hin
            clear hin
            go_wp2_with fail
            go_quiet ((go_at_call 113; exact quiet_pure (CI.out _)))
            go_wp2_with fail
            clear CI t1 t2
            obtain ⟨wo, hwo⟩ : ∃ wo : World, wr = wo := ⟨_, rfl⟩
            subst hwo
            go_loop [4] (fun jv => ∃ j : Nat, j ≤ p ∧ jv = .int .i64 j ∧ (∀ i, i < j → inr (at_ (rw_ M k) i) (-100) 100 = true)) (fun jv => p - (intOf jv).toNat)
            case atStart => exact ⟨0, Nat.zero_le _, rfl, fun i hi => absurd hi (Nat.not_lt_zero i)⟩
            case round =>
              obtain ⟨j, hj, rfl, good⟩ := hrel
              have GJ := Lib.hid good
              clear good
              by_cases hjl : j < p
              · have hj1 : (j : Int) < (p : Int) := by omega
                obtain ⟨b1, o1, rfl, hb1, hx⟩ := HR1.out j (by rw [HP.out]; exact hjl)
                have R3 := Lib.hid (R3.out j hjl)
                have GS' := Lib.hid (fun (z : inr (at_ (rw_ M k) j) (-100) 100 = true) i (hi : i < j + 1) => if c : i < j then GJ.out i c else by rw [show i = j by omega]; exact z)
                generalize at_ (rw_ M k) j = x at *
                cases hin : inr x (-100) 100 with
                | false =>
                  have CI := Lib.hid (fun W => (hin ▸ within6_any x (-100) 100 W : Calls Try.prog 113 #[.int .i64 x, .int .i64 ((-100)), .int .i64 100] W fun e w' => e = .returned (.bool false) ∧ W = w'))
                  have hf : res = 1 := by rw [← RES.out]; exact BAD.out (R3.out hin)
                  subst hf
                  clear hin
                  go_wp2_with fail
                  with_reducible refine (CI.out _).mono ?_
                  rintro e w' ⟨rfl, rfl⟩
                  go_wp2
                  go_ret
                  exact ⟨rfl, by have hB := HB.out; (repeat' (first | exact Below.refl _ _ | refine bstep ?_ hB | refine Below.setCell ?_ (by simp <;> omega) _ | refine balloc ?_ _ | refine Below.drew ?_ | refine bdrewN ?_ _))⟩
                | true =>
                  have CI := Lib.hid (fun W => (hin ▸ within6_any x (-100) 100 W : Calls Try.prog 113 #[.int .i64 x, .int .i64 ((-100)), .int .i64 100] W fun e w' => e = .returned (.bool true) ∧ W = w'))
                  have GS' := Lib.hid (GS'.out hin)
                  clear hin
                  go_wp2_with fail
                  with_reducible refine (CI.out _).mono ?_
                  rintro e w' ⟨rfl, rfl⟩
                  go_wp2
                  go_round
                  case rel => exact ⟨j + 1, by omega, by go_num, GS'.out⟩
                  case measure => simp [intOf]; omega
              · obtain rfl : j = p := by omega
                have GS := Lib.hid (GS.out (R4.out HPQ.out HIN.out GJ.out))
                go_wp2_with fail
                go_roundw
                case rel => exact ⟨k + 1, by omega, by go_num, GS.out, by have hB := HB.out; (repeat' (first | exact Below.refl _ _ | refine bstep ?_ hB | refine Below.setCell ?_ (by simp <;> omega) _ | refine balloc ?_ _ | refine Below.drew ?_ | refine bdrewN ?_ _))⟩
                case measure => simp [intOf]; omega
        · have t1 : ((p : Int) == (q : Int)) = false := by simp; omega
          have t2 : ((p : Int) != (q : Int)) = true := by simp; omega
          have hf : res = 1 := by rw [← RES.out]; exact BAD.out (R1.out hpq)
          subst hf
          clear hpq
          go_wp2_with fail
          go_quiet (fail)
          go_wp2
          go_ret
          exact ⟨rfl, by have hB := HB.out; (repeat' (first | exact Below.refl _ _ | refine bstep ?_ hB | refine Below.setCell ?_ (by simp <;> omega) _ | refine balloc ?_ _ | refine Below.drew ?_ | refine bdrewN ?_ _))⟩
      · obtain rfl : k = n := by omega
        have hf : res = 0 := by rw [← RES.out]; exact V3'.out (GOOD.out G.out)
        subst hf
        go_wp2
        go_ret
        exact ⟨rfl, by have hB := HB.out; (repeat' (first | exact Below.refl _ _ | refine bstep ?_ hB | refine Below.setCell ?_ (by simp <;> omega) _ | refine balloc ?_ _ | refine Below.drew ?_ | refine bdrewN ?_ _))⟩

end Go.Proofs.Ytllonfaogbdbnaa
