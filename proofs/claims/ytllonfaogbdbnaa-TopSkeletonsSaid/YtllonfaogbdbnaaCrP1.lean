/-
  Products of a matrix with a list: the contracts of isFactor, fits, inner, times.
-/
import Derived.Test.YtllonfaogbdbnaaCr28
namespace Go.Proofs.Ytllonfaogbdbnaa
open Go.ChangeShapes Go.WideShapes Go.RowKit
open Cr
/-- may the matrix be multiplied by x? -/
def fitB (M : List (List Int)) (x : List Int) : Bool := decide (x.length = (rw_ M 0).length) && allB x 1000
theorem fitB_1 {M : List (List Int)} {x : List Int} (h : x.length ≠ (rw_ M 0).length) : fitB M x = false := by unfold fitB; simp [h]
theorem fitB_2 {M : List (List Int)} {x : List Int} (h : x.length = (rw_ M 0).length) : fitB M x = allB x 1000 := by unfold fitB; simp [h]
theorem fitB_of {M : List (List Int)} {x : List Int} (h : fitB M x = true) : x.length = (rw_ M 0).length ∧ ∀ k, k < x.length → -1000 ≤ at_ x k ∧ at_ x k ≤ 1000 := by
  unfold fitB at h
  simp only [Bool.and_eq_true, decide_eq_true_eq] at h
  refine ⟨h.1, fun k hk => ?_⟩
  have a := h.2
  unfold allB at a
  rw [List.all_eq_true] at a
  have := inr_iff.1 (a k (List.mem_range.2 hk))
  omega
/-- the product of a row with x -/
def ip (r x : List Int) (n : Nat) : Int := ps (fun j => at_ r j * at_ x j) n
theorem ip_bd {r x : List Int} {n : Nat} (hr : ∀ k, k < n → -100 ≤ at_ r k ∧ at_ r k ≤ 100) (hx : ∀ k, k < n → -1000 ≤ at_ x k ∧ at_ x k ≤ 1000) (h6 : n ≤ 6) {k : Nat} (hk : k ≤ n) : -600000 ≤ ip r x k ∧ ip r x k ≤ 600000 := by
  have b := ps_bd (f := fun j => at_ r j * at_ x j) (A := 100000) (n := k) (fun j hj => by
    have h1 := hr j (by omega)
    have h2 := hx j (by omega)
    exact Cr.mul_bd h1.1 h1.2 h2.1 h2.2)
  have : (k : Int) ≤ 6 := by omega
  unfold ip
  omega
theorem ip_succ (r x : List Int) (n : Nat) : ip r x (n + 1) = ip r x n + at_ r n * at_ x n := rfl
set_option maxHeartbeats 400000 in
theorem isf_any (A X : Option Addr) (c cx : Nat) (M : List (List Int)) (x : List Int) (w : World) (h : ML w A M) (h0 : 0 < M.length) (hM : M.length ≤ 1000) (hx : IL w X x) (nx : x.length ≤ 1000) : Calls Try.prog 62 #[.slice A M.length c, .slice X x.length cx] w fun e w' => e = .returned (.bool (fitB M x)) ∧ w = w' := by
  obtain ⟨b, o, A0, c0, rfl, hb0, hc0, hl0, hr0⟩ := h 0 h0
  have hc0 : w.cell? ⟨b, o, none⟩ = some (.slice A0 (rw_ M 0).length c0) := hc0
  have CA := Lib.hid (allw_any X cx x 1000 w hx nx (by decide))
  have F1 := Lib.hid (fitB_1 (M := M) (x := x))
  have F2 := Lib.hid (fitB_2 (M := M) (x := x))
  have x0 : (0 : Int) < (M.length : Int) := by omega
  clear h hx h0 hl0 hr0
  generalize fitB M x = res at *
  generalize allB x 1000 = d at *
  generalize (rw_ M 0).length = m at *
  generalize x.length = n at *
  by_cases hq : n = m
  · have e := F2.out hq
    subst e
    have t1 : ((n : Int) == (m : Int)) = true := by simp [hq]
    clear hq F1 F2
    go_enter Try.func62, Try.ntmps62
    go_wp2_with fail
    with_reducible refine CA.out.mono ?_
    rintro e w2 ⟨rfl, rfl⟩
    go_wp2_with fail
    go_ret
    exact ⟨rfl, rfl⟩
  · have e := F1.out hq
    subst e
    have t1 : ((n : Int) == (m : Int)) = false := by simp; omega
    clear hq F1 F2
    go_enter Try.func62, Try.ntmps62
    go_wp2_with fail
    go_ret
    exact ⟨rfl, rfl⟩
set_option maxHeartbeats 400000 in
theorem inner_any (R X : Option Addr) (c cx n : Nat) (r x : List Int) (w : World) (hr : IL w R r) (hx : IL w X x) (nr : r.length = n) (nx : x.length = n) (h6 : n ≤ 6) (br : ∀ k, k < n → -100 ≤ at_ r k ∧ at_ r k ≤ 100) (bx : ∀ k, k < n → -1000 ≤ at_ x k ∧ at_ x k ≤ 1000) : Calls Try.prog 63 #[.slice R n c, .slice X n cx] w fun e w' => e = .returned (.int .i64 (ip r x n)) ∧ w = w' := by
  have HR := Lib.hid hr
  have HX := Lib.hid hx
  have NR := Lib.hid nr
  have NX := Lib.hid nx
  have BR := Lib.hid br
  have BX := Lib.hid bx
  have IB := Lib.hid (fun k (hk : k ≤ n) => ip_bd br bx h6 hk)
  have h6' : (n : Int) ≤ 6 := by omega
  clear hr hx nr nx br bx
  go_enter Try.func63, Try.ntmps63
  go_wp2
  go_loop [5, 10] (fun sv kv => ∃ k : Nat, k ≤ n ∧ kv = .int .i64 k ∧ sv = .int .i64 (ip r x k)) (fun _ kv => n - (intOf kv).toNat)
  case atStart => exact ⟨0, Nat.zero_le _, rfl, rfl⟩
  case round =>
    obtain ⟨k, hk, rfl, rfl⟩ := hrel
    by_cases hlt : k < n
    · have hk1 : (k : Int) < (n : Int) := by omega
      have hk0 : 0 ≤ (k : Int) := by omega
      obtain ⟨b1, o1, rfl, hb1, hc1⟩ := HR.out k (by rw [NR.out]; exact hlt)
      obtain ⟨b2, o2, rfl, hb2, hc2⟩ := HX.out k (by rw [NX.out]; exact hlt)
      have i1 := IB.out k hk
      have i2 := IB.out (k + 1) hlt
      have m1 := BR.out k hlt
      have m2 := BX.out k hlt
      have pb := Cr.mul_bd m1.1 m1.2 m2.1 m2.2
      have IS := Lib.hid (ip_succ r x k)
      rw [ip_succ] at i2
      generalize ip r x k = p at *
      generalize at_ r k = y at *
      generalize at_ x k = z at *
      obtain ⟨i11, i12⟩ := i1
      obtain ⟨i21, i22⟩ := i2
      obtain ⟨pb1, pb2⟩ := pb
      have pb1 : -100000 ≤ y * z := pb1
      have pb2 : y * z ≤ 100000 := pb2
      clear m1 m2
      go_wp2
      go_round
      case rel => exact ⟨k + 1, by omega, by go_num, by rw [IS.out]⟩
      case measure => simp [intOf]; omega
    · obtain rfl : k = n := by omega
      go_wp2
      go_ret
      exact ⟨rfl, rfl⟩
end Go.Proofs.Ytllonfaogbdbnaa
