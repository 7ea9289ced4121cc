/-
  The contracts of Inverse and Cube, in the program and in the document's answer.
-/
import Derived.Test.YthmlhpjhoolflaaInv
namespace Go.Proofs.Ythmlhpjhoolflaa
open Go.ChangeShapes Go.WideShapes Go.RowKit

/-- the least span of the root of t / n^p -/
def belowR (t n p : Nat) : Sp.R := Sp.told ((Rt.isq (QT t n p) : Nat) : Int) ((qUp t n p : Nat) : Int)
theorem below_up (t n : Nat) : (t % n = 0 ∧ Rt.isq (t / n) * Rt.isq (t / n) = t / n → qUp t n 1 = Rt.isq (t / n)) ∧ (¬ (t % n = 0 ∧ Rt.isq (t / n) * Rt.isq (t / n) = t / n) → qUp t n 1 = Rt.isq (t / n) + 1) := by
  have e : QW t n 1 = decide (t % n = 0) := rfl
  have e2 : QT t n 1 = t / n := rfl
  unfold qUp
  rw [e, e2]
  by_cases c : t % n = 0
  · simp only [c, decide_true, if_true, true_and]
    unfold Rt.csq
    exact ⟨fun h => if_pos h, fun h => if_neg h⟩
  · simp [c]
set_option maxHeartbeats 800000 in
theorem below_any (t n : Nat) (w : World) (h : t ≤ 1152921504606846976) (h1 : 1 ≤ n) (h2 : n ≤ 1152921504606846976) :
    Calls Try.prog 78 #[.int .i64 t, .int .i64 n] w fun e w' => e = .returned (spr (belowR t n 1)) ∧ Below w.heap.size w w' := by
  have U := below_up t n
  have hl := Nat.div_le_self t n
  have F := fun w => floor_any (t / n) w (by omega)
  have hi : Rt.isq (t / n) ≤ 1152921504606846976 := Nat.le_trans (Rt.isq_le _) (by omega)
  have hs := (Rt.isq_spec (t / n)).1
  have eq : (t : Int) / (n : Int) = ((t / n : Nat) : Int) := (Int.natCast_ediv t n).symm
  have em : (t : Int) % (n : Int) = ((t % n : Nat) : Int) := (Int.natCast_emod t n).symm
  have hn1 : (1 : Int) ≤ (n : Int) := by omega
  have R : belowR t n 1 = Sp.told ((Rt.isq (t / n) : Nat) : Int) ((qUp t n 1 : Nat) : Int) := rfl
  rw [R]
  clear R
  generalize qUp t n 1 = u at *
  generalize Rt.isq (t / n) = i at *
  generalize t / n = q at *
  have s0 : (0 : Int) ≤ (i : Int) * (i : Int) := by rw [← Int.natCast_mul]; omega
  have s1 : (i : Int) * (i : Int) ≤ 1152921504606846976 := by rw [← Int.natCast_mul]; omega
  have F := Lib.hid F
  have hq : (q : Int) ≤ 1152921504606846976 := by omega
  clear hs
  obtain ⟨r, hr⟩ : ∃ r, t % n = r := ⟨_, rfl⟩
  rw [hr] at em U
  clear hr
  by_cases c : r = 0
  · by_cases d : i * i = q
    · have e : u = i := U.1 ⟨c, d⟩
      rw [e]
      clear e U
      rw [c] at em
      have dB : ((i : Int) * (i : Int) == (q : Int)) = true := by rw [beq_iff_eq, ← Int.natCast_mul, d]
      clear c d
      go_enter Try.func78, Try.ntmps78
      go_wp2_with fail
      refine (F.out _).mono ?_
      rintro e w1 ⟨rfl, rfl⟩
      go_wp2_with fail
      refine (told_any _ _ _).mono ?_
      rintro e w2 ⟨rfl, hb⟩
      obtain ⟨g1, g2, g3, g4, g5⟩ := pair_below (pair_new _ _ _ _) hb
      go_wp2
      refine bodyPost_ret (v := spr (Sp.told (i : Int) (i : Int))) (by rw [results_cell_tmp rfl]; go_simp) rfl ⟨rfl, ?_⟩
      (repeat' (first | exact Below.refl _ _ | refine bstep ?_ hb | refine Below.setCell ?_ (by simp <;> omega) _ | refine balloc ?_ _ | refine Below.drew ?_ | refine bdrewN ?_ _))
    · have e : u = i + 1 := U.2 (by omega)
      rw [e]
      clear e U
      rw [c] at em
      have dB : ((i : Int) * (i : Int) == (q : Int)) = false := by rw [beq_eq_false_iff_ne, ← Int.natCast_mul]; omega
      clear c d
      go_enter Try.func78, Try.ntmps78
      go_wp2_with fail
      refine (F.out _).mono ?_
      rintro e w1 ⟨rfl, rfl⟩
      go_wp2_with fail
      refine (told_any _ _ _).mono ?_
      rintro e w2 ⟨rfl, hb⟩
      obtain ⟨g1, g2, g3, g4, g5⟩ := pair_below (pair_new _ _ _ _) hb
      go_wp2
      refine bodyPost_ret (v := spr (Sp.told (i : Int) ((i : Int) + 1))) (by rw [results_cell_tmp rfl]; go_simp) rfl ⟨rfl, ?_⟩
      (repeat' (first | exact Below.refl _ _ | refine bstep ?_ hb | refine Below.setCell ?_ (by simp <;> omega) _ | refine balloc ?_ _ | refine Below.drew ?_ | refine bdrewN ?_ _))
  · have e : u = i + 1 := U.2 (by omega)
    rw [e]
    clear e U
    have cB : ((r : Int) == 0) = false := beq_eq_false_iff_ne.2 (by omega)
    clear c
    go_enter Try.func78, Try.ntmps78
    go_wp2_with fail
    refine (F.out _).mono ?_
    rintro e w1 ⟨rfl, rfl⟩
    go_wp2_with fail
    refine (told_any _ _ _).mono ?_
    rintro e w2 ⟨rfl, hb⟩
    obtain ⟨g1, g2, g3, g4, g5⟩ := pair_below (pair_new _ _ _ _) hb
    go_wp2
    refine bodyPost_ret (v := spr (Sp.told (i : Int) ((i : Int) + 1))) (by rw [results_cell_tmp rfl]; go_simp) rfl ⟨rfl, ?_⟩
    (repeat' (first | exact Below.refl _ _ | refine bstep ?_ hb | refine Below.setCell ?_ (by simp <;> omega) _ | refine balloc ?_ _ | refine Below.drew ?_ | refine bdrewN ?_ _))

end Go.Proofs.Ythmlhpjhoolflaa
