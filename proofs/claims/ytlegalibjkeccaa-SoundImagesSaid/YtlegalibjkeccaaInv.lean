/-
  The contracts of Inverse and Cube, in the program and in the document's answer.
-/
import Derived.Test.YtlegalibjkeccaaRootRef
namespace Go.Proofs.Ytlegalibjkeccaa
open Go.ChangeShapes Go.WideShapes Go.RowKit

/-- the quotient by n, k times, rounded down; and whether nothing is left -/
def QT (t n : Nat) : Nat → Nat
  | 0 => t
  | k + 1 => QT t n k / n
def QW (t n : Nat) : Nat → Bool
  | 0 => true
  | k + 1 => QW t n k && decide (QT t n k % n = 0)
theorem QT_le (t n k : Nat) : QT t n k ≤ t := by
  induction k with
  | zero => exact Nat.le_refl _
  | succ k ih => exact Nat.le_trans (Nat.div_le_self _ _) ih
def qUp (t n k : Nat) : Nat := if QW t n k then Rt.csq (QT t n k) else Rt.isq (QT t n k) + 1
theorem qUp_yes {t n k : Nat} (h : QW t n k = true) : Rt.csq (QT t n k) = qUp t n k := by unfold qUp; rw [if_pos h]
theorem qUp_no {t n k : Nat} (h : QW t n k = false) : Rt.isq (QT t n k) + 1 = qUp t n k := by unfold qUp; rw [if_neg (by simp [h])]
theorem QW_no {t n k : Nat} (h : QW t n k = false) : QW t n (k + 1) = false := by
  show (_ && _) = _; rw [h]; rfl
theorem QW_yes {t n k : Nat} (h : QW t n k = true) (j : QT t n k % n = 0) : QW t n (k + 1) = true := by
  show (_ && _) = _; rw [h]; simp [j]
theorem QW_no2 {t n k : Nat} (j : ¬ QT t n k % n = 0) : QW t n (k + 1) = false := by
  show (_ && _) = _; simp [j]
theorem val_b {a b : Bool} (h : a = b) : Value.bool a = .bool b := by rw [h]
set_option maxHeartbeats 800000 in
theorem qroot_any (t n p : Nat) (w : World) (h : t ≤ 1152921504606846976) (h1 : 1 ≤ n) (h2 : n ≤ 1099511627776) (hp : p ≤ 3) :
    Calls Try.prog 90 #[.int .i64 t, .int .i64 n, .int .i64 p] w fun e w' => e = .returned (.tuple #[.int .i64 ((Rt.isq (QT t n p) : Nat) : Int), .int .i64 ((qUp t n p : Nat) : Int)]) ∧ w = w' := by
  have hn1 : (1 : Int) ≤ (n : Int) := by omega
  go_enter Try.func90, Try.ntmps90
  go_wp2
  go_loop [0, 8, 10] (fun tv bv kv => ∃ k : Nat, k ≤ p ∧ kv = .int .i64 k ∧ tv = .int .i64 ((QT t n k : Nat) : Int) ∧ bv = .bool (QW t n k)) (fun _ _ kv => p - (intOf kv).toNat)
  case atStart => exact ⟨0, Nat.zero_le _, rfl, rfl, rfl⟩
  case round =>
    obtain ⟨k, hk, rfl, rfl, rfl⟩ := hrel
    have hq := QT_le t n k
    have hq2 : ((QT t n (k + 1) : Nat) : Int) ≤ 1152921504606846976 := by have := QT_le t n (k + 1); omega
    by_cases hlt : k < p
    · have N0 := Lib.hid (fun (e : QW t n k = false) => QW_no e)
      have N1 := Lib.hid (fun (e : QW t n k = true) j => QW_yes e j)
      have N2 := Lib.hid (fun j => QW_no2 (t := t) (n := n) (k := k) j)
      have D := Lib.hid (show QT t n (k + 1) = QT t n k / n from rfl)
      generalize QT t n k = q at *
      have eq : (q : Int) / (n : Int) = ((q / n : Nat) : Int) := (Int.natCast_ediv q n).symm
      have em : (q : Int) % (n : Int) = ((q % n : Nat) : Int) := (Int.natCast_emod q n).symm
      rw [← D.out] at eq
      clear D
      cases hb : QW t n k
      · have E := Lib.hid (N0.out hb)
        clear hb N0 N1 N2
        go_wp2
        go_round
        case rel => exact ⟨k + 1, by omega, by go_num, rfl, val_b E.out.symm⟩
        case measure => simp [intOf]; omega
      · by_cases c : q % n = 0
        · have E := Lib.hid (N1.out hb c)
          clear hb N0 N1 N2
          rw [c] at em
          clear c
          go_wp2
          go_round
          case rel => exact ⟨k + 1, by omega, by go_num, rfl, val_b E.out.symm⟩
          case measure => simp [intOf]; omega
        · have E := Lib.hid (N2.out c)
          clear hb N0 N1 N2
          obtain ⟨r, hr⟩ : ∃ r, q % n = r := ⟨_, rfl⟩
          rw [hr] at em c
          clear hr
          have cB : ((r : Int) == 0) = false := beq_eq_false_iff_ne.2 (by omega)
          clear c
          go_wp2
          go_round
          case rel => exact ⟨k + 1, by omega, by go_num, rfl, val_b E.out.symm⟩
          case measure => simp [intOf]; omega
    · obtain rfl : k = p := by omega
      have R := fun w => root_any (QT t n k) 0 w (by omega) (by decide)
      rw [Nat.pow_zero, Nat.mul_one] at R
      have Y := Lib.hid (fun (e : QW t n k = true) => qUp_yes e)
      have N := Lib.hid (fun (e : QW t n k = false) => qUp_no e)
      have hi : Rt.isq (QT t n k) ≤ 1152921504606846976 := Nat.le_trans (Rt.isq_le _) (by omega)
      generalize hU : qUp t n k = u at *
      generalize hI : Rt.isq (QT t n k) = i at *
      generalize hC : Rt.csq (QT t n k) = c at *
      have R := Lib.hid R
      have HU := Lib.hid hU
      have HI := Lib.hid hI
      clear hU hI hC
      cases hb : QW t n k
      · have E := Lib.hid (N.out hb)
        clear hb
        go_wp2_with fail
        refine (R.out _).mono ?_
        rintro e w1 ⟨rfl, rfl⟩
        go_wp2
        go_ret2
        exact ⟨ret_2i (by rw [HI.out]) (by rw [HU.out, ← E.out]; omega), rfl⟩
      · have E := Lib.hid (Y.out hb)
        clear hb
        go_wp2_with fail
        refine (R.out _).mono ?_
        rintro e w1 ⟨rfl, rfl⟩
        go_wp2
        go_ret2
        exact ⟨ret_2i (by rw [HI.out]) (by rw [HU.out, ← E.out]), rfl⟩

end Go.Proofs.Ytlegalibjkeccaa
