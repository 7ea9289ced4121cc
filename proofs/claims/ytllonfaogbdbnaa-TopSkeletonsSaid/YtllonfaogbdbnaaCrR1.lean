/-
  The rank, in the program and in the document's answer.
-/
import Derived.Test.YtllonfaogbdbnaaCrV1
namespace Go.Proofs.Ytllonfaogbdbnaa
open Go.ChangeShapes Go.WideShapes Go.RowKit
open Cr
/-- the greatest number of rows up to k with a minor that is not 0 -/
def rk (M : List (List Int)) (n m : Nat) : Nat → Nat
  | 0 => 0
  | k + 1 => if 0 < gv M n m (k + 1) (-1) then k + 1 else rk M n m k
theorem rk_hit {M : List (List Int)} {n m k : Nat} (h : 0 < gv M n m k (-1)) : rk M n m k = k := by
  cases k with
  | zero => rfl
  | succ k => unfold rk; rw [if_pos h]
theorem rk_miss {M : List (List Int)} {n m k : Nat} (h : ¬ 0 < gv M n m (k + 1) (-1)) : rk M n m (k + 1) = rk M n m k := by
  conv => lhs; unfold rk
  rw [if_neg h]
theorem sets_nil : ∀ n, n < 7 → [] ∈ setsN n 0 := by decide +kernel
theorem gv_zero {M : List (List Int)} {n m : Nat} (hn : n ≤ 6) (hm : m ≤ 6) : 0 < gv M n m 0 (-1) := by
  have h := gv_ge (M := M) (sets_nil n (by omega)) (sets_nil m (by omega))
  have e : absI (detR M [] []) = 1 := rfl
  rw [e] at h
  omega
theorem rk_le {M : List (List Int)} {n m : Nat} : ∀ k, rk M n m k ≤ k
  | 0 => Nat.le_refl _
  | k + 1 => by
    unfold rk
    split
    · omega
    · have := rk_le (M := M) (n := n) (m := m) k; omega
/-- what Rank answers -/
def rkc (M : List (List Int)) : Int × Int := if vcode M = 0 then (((rk M M.length (rw_ M 0).length (sd M.length (rw_ M 0).length) : Nat) : Int), 0) else (0, vcode M)
theorem rkc_0 {M : List (List Int)} (h : vcode M = 0) : rkc M = (((rk M M.length (rw_ M 0).length (sd M.length (rw_ M 0).length) : Nat) : Int), 0) := if_pos h
theorem rkc_1 {M : List (List Int)} (h : vcode M ≠ 0) : rkc M = (0, vcode M) := if_neg h
set_option maxHeartbeats 2000000 in
theorem rankP_any (A : Option Addr) (c : Nat) (M : List (List Int)) (w : World) (hM : ML w A M) (ln : M.length ≤ 1000) (wd : ∀ i, i < M.length → (rw_ M i).length ≤ 1000) : Calls Try.prog 20 #[.slice A M.length c] w fun e w' => e = .returned (.tuple #[.int .i64 (rkc M).1, .int .i64 (rkc M).2]) ∧ Below w.heap.size w w' := by
  have CV := Lib.hid (val6_any A c M w hM ln wd)
  by_cases hv : vcode M = 0
  · obtain ⟨n, m, q, n1, n6, m1, m6⟩ := sq_of hv
    obtain rfl : M.length = n := q.len
    obtain rfl : (rw_ M 0).length = m := rw_len q (by omega)
    have SH := Lib.hid (fun W (B : Below w.heap.size w W) => shorter_any A c M.length (rw_ M 0).length M W (ml_in hM B) q n1 n6 m6)
    have LA := Lib.hid (fun W (B : Below w.heap.size w W) k (hk : k ≤ M.length) => largest_any A c M.length (rw_ M 0).length k M W (ml_in hM B) q n1 n6 m6 hk)
    have Z := Lib.hid (gv_zero (M := M) n6 m6)
    obtain ⟨s1, s2⟩ := sd_le M.length (rw_ M 0).length
    rw [rkc_0 hv]
    rw [hv] at CV
    have H := Lib.hid (fun k => rk_hit (M := M) (n := M.length) (m := (rw_ M 0).length) (k := k))
    have MI := Lib.hid (fun k => rk_miss (M := M) (n := M.length) (m := (rw_ M 0).length) (k := k))
    generalize sd M.length (rw_ M 0).length = S at *
    have S6 : (S : Int) ≤ 6 := by omega
    have S0 : 0 ≤ (S : Int) := by omega
    clear hM ln wd hv q n1 n6 m1 m6
    generalize rk M M.length (rw_ M 0).length = RK at *
    generalize gv M M.length (rw_ M 0).length = G at *
    go_enter Try.func20, Try.ntmps20
    go_wp2_with fail
    with_reducible refine CV.out.mono ?_
    rintro e w2 ⟨rfl, rfl⟩
    have HB := Lib.hid (Below.refl w.heap.size w)
    go_wp2_with fail
    with_reducible refine (SH.out _ HB.out).mono ?_
    rintro e w3 ⟨rfl, rfl⟩
    go_wp2_with fail
    go_loopw [5] (fun kv wr => ∃ k : Nat, k ≤ S ∧ kv = .int .i64 (k : Int) ∧ RK S = RK k ∧ Below w.heap.size w wr) (fun kv _ => (intOf kv).toNat)
    case atStart => exact ⟨S, Nat.le_refl _, rfl, rfl, HB.out⟩
    case round =>
      clear HB
      obtain ⟨k, hk, rfl, hr, B⟩ := hrel
      have HB := Lib.hid B
      have HR := Lib.hid hr
      have k6 : (k : Int) ≤ 6 := by omega
      have k0 : 0 ≤ (k : Int) := by omega
      have LAk := Lib.hid (LA.out wr B k (by omega))
      by_cases hp : 0 < G k (-1)
      · have ES := Lib.hid (hr.trans (H.out k hp)).symm
        clear hr B
        generalize G k (-1) = v at *
        have hp' : v > 0 := hp
        go_wp2_with fail
        with_reducible refine LAk.out.mono ?_
        rintro e w5 ⟨rv, cv, rfl, _, hb⟩
        go_wp2_with fail
        go_ret2
        exact ⟨congrArg (fun x : Nat => Ending.returned (.tuple #[.int .i64 (x : Int), .int .i64 0])) ES.out, bstep HB.out hb⟩
      · obtain ⟨k', rfl⟩ : ∃ k', k = k' + 1 := by
          cases k with
          | zero => exact absurd Z.out hp
          | succ k' => exact ⟨k', rfl⟩
        have e := MI.out k' (by omega)
        have ER := Lib.hid (hr.trans e)
        clear e hr B HR
        have hk1 : ((k' + 1 : Nat) : Int) = (k' : Int) + 1 := by omega
        rw [hk1] at LAk
        clear k6 k0
        have k6 : (k' : Int) ≤ 5 := by omega
        have k0 : 0 ≤ (k' : Int) := by omega
        generalize G (k' + 1) (-1) = v at *
        have hp' : ¬ v > 0 := hp
        go_wp2_with fail
        with_reducible refine LAk.out.mono ?_
        rintro e w5 ⟨rv, cv, rfl, _, hb⟩
        have HB5 := Lib.hid (bstep HB.out hb)
        clear hb hk1
        go_wp2_with fail
        go_roundw
        case rel => exact ⟨k', by omega, by go_num, ER.out, HB5.out⟩
        case measure => simp [intOf] <;> omega
  · rw [rkc_1 hv]
    clear hM ln wd
    generalize vcode M = e at *
    have t1 : (e != 0) = true := by simp [hv]
    have t2 : (e == 0) = false := by simp [hv]
    clear hv
    go_enter Try.func20, Try.ntmps20
    go_wp2_with fail
    with_reducible refine CV.out.mono ?_
    rintro e w2 ⟨rfl, rfl⟩
    go_wp2_with fail
    go_ret2
    exact ⟨rfl, Below.refl _ _⟩
end Go.Proofs.Ytllonfaogbdbnaa
