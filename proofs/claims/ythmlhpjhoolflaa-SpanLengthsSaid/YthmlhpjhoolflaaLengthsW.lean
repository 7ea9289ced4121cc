/-
  The law SpanLengths: for every input it answers true.
-/
import Derived.Test.YthmlhpjhoolflaaKnown
import Derived.Test.YthmlhpjhoolflaaArith
import Derived.Test.YthmlhpjhoolflaaInverse
import Derived.Test.YthmlhpjhoolflaaLen
import Derived.Test.YthmlhpjhoolflaaNumDiv
namespace Go.Proofs.Ythmlhpjhoolflaa
open Go.ChangeShapes Go.WideShapes Go.RowKit
theorem sq_le_of {a b : Nat} (h : a * a ≤ b * b) : a ≤ b := by
  rcases Nat.lt_or_ge b a with c | c
  · have := Nat.mul_le_mul (show b + 1 ≤ a by omega) (show b + 1 ≤ a by omega)
    simp only [Nat.add_mul, Nat.mul_add] at this; omega
  · exact c
theorem csq_sq (n : Nat) : n ≤ Rt.csq n * Rt.csq n := by
  have a := (Rt.isq_spec n)
  unfold Rt.csq
  split <;> omega
theorem csq_mono {m n : Nat} (h : m ≤ n) : Rt.csq m ≤ Rt.csq n := by
  have a := Rt.isq_spec m
  have c := csq_sq n
  rcases Nat.lt_or_ge (Rt.csq n) (Rt.csq m) with d | d
  · have e : Rt.csq n ≤ Rt.isq m := by
      have : Rt.csq m ≤ Rt.isq m + 1 := by unfold Rt.csq; split <;> omega
      omega
    have f := Nat.mul_le_mul e e
    have g : Rt.csq n * Rt.csq n = m := by omega
    have hh : Rt.csq n = Rt.isq m := Rt.isq_unique (by omega) (by rw [← g]; exact Nat.mul_lt_mul_of_lt_of_le (by omega) (by omega) (by omega))
    have : Rt.csq m = Rt.isq m := by unfold Rt.csq; rw [if_pos (by rw [← hh]; exact g)]
    omega
  · exact d
theorem low_one {n q : Nat} (hq : q * n ≤ 1099511627776) : Rt.isq (n * 1099511627776) * Rt.isq q ≤ 1099511627776 := by
  apply sq_le_of
  have a := (Rt.isq_spec (n * 1099511627776)).1
  have b := (Rt.isq_spec q).1
  generalize Rt.isq (n * 1099511627776) = u at *
  generalize Rt.isq q = v at *
  calc (u * v) * (u * v) = (u * u) * (v * v) := by rw [Nat.mul_mul_mul_comm]
    _ ≤ (n * 1099511627776) * q := Nat.mul_le_mul a b
    _ = (q * n) * 1099511627776 := by ac_rfl
    _ ≤ 1099511627776 * 1099511627776 := Nat.mul_le_mul hq (Nat.le_refl _)
theorem high_one {n v : Nat} (hv : 1099511627776 ≤ n * (v * v)) : 1099511627776 ≤ Rt.csq (n * 1099511627776) * v := by
  apply sq_le_of
  have a := csq_sq (n * 1099511627776)
  generalize Rt.csq (n * 1099511627776) = u at *
  calc 1099511627776 * 1099511627776 ≤ (n * (v * v)) * 1099511627776 := Nat.mul_le_mul hv (Nat.le_refl _)
    _ = (n * 1099511627776) * (v * v) := by ac_rfl
    _ ≤ (u * u) * (v * v) := Nat.mul_le_mul a (Nat.le_refl _)
    _ = (u * v) * (u * v) := by rw [Nat.mul_mul_mul_comm]
theorem up_one {n : Nat} (h : 1 ≤ n) : 1099511627776 ≤ n * (qUp 1099511627776 n 1 * qUp 1099511627776 n 1) := by
  have e : QW 1099511627776 n 1 = decide (1099511627776 % n = 0) := rfl
  have e2 : QT 1099511627776 n 1 = 1099511627776 / n := rfl
  unfold qUp
  rw [e, e2]
  have dm := Nat.div_add_mod 1099511627776 n
  have ml := Nat.mod_lt 1099511627776 (show 0 < n from h)
  split
  · rename_i c
    have c : 1099511627776 % n = 0 := by simpa using c
    have k := Nat.mul_le_mul (Nat.le_refl n) (csq_sq (1099511627776 / n))
    omega
  · have k := (Rt.isq_spec (1099511627776 / n)).2
    have k2 := Nat.mul_le_mul (Nat.le_refl n) (show 1099511627776 / n + 1 ≤ _ from k)
    rw [Nat.mul_add] at k2
    omega
theorem len_vld {x : Nat} (h : x ≤ 1099511627776) : Sp.vldB ((Rt.isq (x * 1099511627776) : Nat) : Int) ((Rt.csq (x * 1099511627776) : Nat) : Int) = true := by
  have e : Rt.csq (1099511627776 * 1099511627776) = 1099511627776 := by
    have i : 1099511627776 = Rt.isq (1099511627776 * 1099511627776) := Rt.isq_unique (Nat.le_refl _) (by decide)
    unfold Rt.csq; rw [← i, if_pos rfl]
  have m := csq_mono (Nat.mul_le_mul h (Nat.le_refl 1099511627776))
  rw [e] at m
  have l : Rt.isq (x * 1099511627776) ≤ Rt.csq (x * 1099511627776) := by unfold Rt.csq; split <;> omega
  rw [Sp.vld_iff]; omega
/-- greater numbers have no smaller roots -/
theorem len_mono {n : Int} (h : (lenR n).2 = 0) (k : (lenR (wrap64 (n + 1))).2 = 0) : (lenR n).1.1 ≤ (lenR (wrap64 (n + 1))).1.1 ∧ (lenR n).1.2 ≤ (lenR (wrap64 (n + 1))).1.2 := by
  revert h k
  unfold lenR
  split
  · rename_i v
    rw [w64 (by omega) (by omega)]
    split
    · rename_i v2
      intro _ _
      obtain ⟨x, rfl⟩ := Int.eq_ofNat_of_zero_le v.1
      rw [Int.toNat_natCast, show ((x : Int) + 1).toNat = x + 1 by omega]
      rw [Sp.told_yes (len_vld (x := x) (by omega)), Sp.told_yes (len_vld (x := x + 1) (by omega))]
      have a := Rt.isq_mono (Nat.mul_le_mul (show x ≤ x + 1 by omega) (Nat.le_refl 1099511627776))
      have b := csq_mono (Nat.mul_le_mul (show x ≤ x + 1 by omega) (Nat.le_refl 1099511627776))
      dsimp only
      omega
    · intro _ k; exact absurd k (by decide)
  · intro h; exact absurd h (by decide)
/-- the product of length and inverse encloses 1 -/
theorem one_in {n : Int} (h : (invR n 1).2 = 0) (k : (Sp.mulR (lenR n).1.1 (lenR n).1.2 (invR n 1).1.1 (invR n 1).1.2).2 = 0) : (Sp.mulR (lenR n).1.1 (lenR n).1.2 (invR n 1).1.1 (invR n 1).1.2).1.1 ≤ 1048576 ∧ 1048576 ≤ (Sp.mulR (lenR n).1.1 (lenR n).1.2 (invR n 1).1.1 (invR n 1).1.2).1.2 := by
  revert k
  unfold lenR
  revert h
  unfold invR
  split
  · rename_i v
    rw [if_pos (by omega)]
    obtain ⟨x, rfl⟩ := Int.eq_ofNat_of_zero_le (show 0 ≤ n by omega)
    rw [Int.toNat_natCast, show (1 : Int).toNat * 1048576 * ((1 : Int).toNat * 1048576) = 1099511627776 from rfl]
    have hx : 1 ≤ x := by omega
    have lo1 := low_one (n := x) (q := 1099511627776 / x) (Nat.div_mul_le_self _ _)
    have hi1 := high_one (up_one hx)
    have e2 : QT 1099511627776 x 1 = 1099511627776 / x := rfl
    have v1 := len_vld (x := x) (by omega)
    unfold belowR
    rw [e2]
    generalize Rt.isq (x * 1099511627776) = a at *
    generalize Rt.csq (x * 1099511627776) = c at *
    generalize Rt.isq (1099511627776 / x) = b at *
    generalize qUp 1099511627776 x 1 = d at *
    intro h1
    have t2 : Sp.told (b : Int) (d : Int) = (((b : Int), (d : Int)), 0) := by
      cases c2 : Sp.vldB (b : Int) (d : Int)
      · rw [Sp.told_no c2] at h1; exact absurd h1 (by decide)
      · exact Sp.told_yes c2
    have v2 : Sp.vldB (b : Int) (d : Int) = true := by
      cases c2 : Sp.vldB (b : Int) (d : Int)
      · rw [Sp.told_no c2] at h1; exact absurd h1 (by decide)
      · rfl
    rw [Sp.told_yes v1, t2]
    dsimp only
    unfold Sp.mulR
    rw [Sp.ite_yes v1 v2]
    unfold Sp.told
    split
    · intro _
      have l4 := Sp.mn4_le (Sp.mulD a b) (Sp.mulD a d) (Sp.mulD c b) (Sp.mulD c d)
      have g4 := Sp.mx4_ge (Sp.mulU a b) (Sp.mulU a d) (Sp.mulU c b) (Sp.mulU c d)
      have m1 := Sp.mulD_le a b
      have m2 := Sp.mulU_ge c d
      rw [← Int.natCast_mul] at m1 m2
      dsimp only
      omega
    · intro h; exact absurd h (by decide)
  · intro h; exact absurd h (by decide)
theorem encl_true (a b e c d : Int) (w : World) (h : e = 0 → a ≤ c ∧ d ≤ b) :
    Calls Try.prog 25 #[spv a b, .int .i64 e, spv c d] w fun e w' => e = .returned (.bool true) ∧ Below w.heap.size w w' := by
  by_cases k : e = 0
  · subst k; exact encl_yes _ _ _ _ _ (h rfl).1 (h rfl).2
  · exact encl_err _ _ _ _ _ _ k
theorem lengths_10 (n : Int) (w : World) (z : (invR n 1).2 = 0) (y : (lenR n).2 ≠ 0) :
    Calls Try.prog 11 #[.int .i64 n] w fun e w' => e = .returned (.bool true) ∧ Below w.heap.size w w' := by
  have z1 : ((invR n 1).2 != 0) = false := by rw [z]; rfl
  have C := Lib.hid (fun w => encl_true (Sp.mulR (lenR n).1.1 (lenR n).1.2 (invR n 1).1.1 (invR n 1).1.2).1.1 (Sp.mulR (lenR n).1.1 (lenR n).1.2 (invR n 1).1.1 (invR n 1).1.2).1.2 (Sp.mulR (lenR n).1.1 (lenR n).1.2 (invR n 1).1.1 (invR n 1).1.2).2 1048576 1048576 w (fun k => one_in z k))
  clear z
  have y1 : ((lenR n).2 != 0) = true := bne_iff_ne.2 y
  clear y
  go_enter Try.func11, Try.ntmps11
  go_wp2_with fail
  refine (len_any _ _).mono ?_
  rintro e w1 ⟨rfl, hb1⟩
  go_wp2_with fail
  refine (rlen_any _ _).mono ?_
  rintro e w2 ⟨rfl, hb2⟩
  have p2_0 := pair_below (pair_new _ (lenR n).1.1 (lenR n).1.2 _) hb2
  have c2_0 := p2_0.1
  have d2_0 := p2_0.2.1
  have s2_0 := p2_0.2.2.2.2
  go_wp2_with fail
  refine (inv_any _ _ _).mono ?_
  rintro e w3 ⟨rfl, hb3⟩
  have p3_0 := pair_below (pair_alloc p2_0 _) hb3
  have p3_1 := pair_below (pair_new _ (lenR n).1.1 (lenR n).1.2 _) hb3
  clear c2_0 d2_0 s2_0 p2_0
  have c3_0 := p3_0.1
  have d3_0 := p3_0.2.1
  have s3_0 := p3_0.2.2.2.2
  have c3_1 := p3_1.1
  have d3_1 := p3_1.2.1
  have s3_1 := p3_1.2.2.2.2
  go_wp2_with fail
  refine (mul_any _ _ _ _ _).mono ?_
  rintro e w4 ⟨rfl, hb4⟩
  have p4_0 := pair_below (pair_alloc p3_0 _) hb4
  have p4_1 := pair_below (pair_alloc p3_1 _) hb4
  have p4_2 := pair_below (pair_new _ (invR n 1).1.1 (invR n 1).1.2 _) hb4
  clear c3_0 d3_0 s3_0 c3_1 d3_1 s3_1 p3_0 p3_1
  have c4_0 := p4_0.1
  have d4_0 := p4_0.2.1
  have s4_0 := p4_0.2.2.2.2
  have c4_1 := p4_1.1
  have d4_1 := p4_1.2.1
  have s4_1 := p4_1.2.2.2.2
  have c4_2 := p4_2.1
  have d4_2 := p4_2.2.1
  have s4_2 := p4_2.2.2.2.2
  go_wp2_with fail
  refine (len_any _ _).mono ?_
  rintro e w5 ⟨rfl, hb5⟩
  have p5_0 := pair_below (pair_alloc (pair_alloc p4_0 _) _) hb5
  have p5_1 := pair_below (pair_alloc (pair_alloc p4_1 _) _) hb5
  have p5_2 := pair_below (pair_alloc (pair_alloc p4_2 _) _) hb5
  have p5_3 := pair_below (pair_alloc (pair_new _ (Sp.mulR (lenR n).1.1 (lenR n).1.2 (invR n 1).1.1 (invR n 1).1.2).1.1 (Sp.mulR (lenR n).1.1 (lenR n).1.2 (invR n 1).1.1 (invR n 1).1.2).1.2 _) _) hb5
  have p5_4 := pair_below (pair_new _ 1048576 1048576 _) hb5
  simp only [World.size_alloc] at p5_4
  clear c4_0 d4_0 s4_0 c4_1 d4_1 s4_1 c4_2 d4_2 s4_2 p4_0 p4_1 p4_2
  have c5_0 := p5_0.1
  have d5_0 := p5_0.2.1
  have s5_0 := p5_0.2.2.2.2
  have c5_1 := p5_1.1
  have d5_1 := p5_1.2.1
  have s5_1 := p5_1.2.2.2.2
  have c5_2 := p5_2.1
  have d5_2 := p5_2.2.1
  have s5_2 := p5_2.2.2.2.2
  have c5_3 := p5_3.1
  have d5_3 := p5_3.2.1
  have s5_3 := p5_3.2.2.2.2
  have c5_4 := p5_4.1
  have d5_4 := p5_4.2.1
  have s5_4 := p5_4.2.2.2.2
  go_wp2_with fail
  refine (C.out _).mono ?_
  rintro e w6 ⟨rfl, hb6⟩
  have p6_0 := pair_below (pair_alloc p5_0 _) hb6
  have p6_1 := pair_below (pair_alloc p5_1 _) hb6
  have p6_2 := pair_below (pair_alloc p5_2 _) hb6
  have p6_3 := pair_below (pair_alloc p5_3 _) hb6
  have p6_4 := pair_below (pair_alloc p5_4 _) hb6
  have p6_5 := pair_below (pair_new _ (lenR (wrap64 (n + 1))).1.1 (lenR (wrap64 (n + 1))).1.2 _) hb6
  clear c5_0 d5_0 s5_0 c5_1 d5_1 s5_1 c5_2 d5_2 s5_2 c5_3 d5_3 s5_3 c5_4 d5_4 s5_4 p5_0 p5_1 p5_2 p5_3 p5_4
  have c6_0 := p6_0.1
  have d6_0 := p6_0.2.1
  have s6_0 := p6_0.2.2.2.2
  have c6_1 := p6_1.1
  have d6_1 := p6_1.2.1
  have s6_1 := p6_1.2.2.2.2
  have c6_2 := p6_2.1
  have d6_2 := p6_2.2.1
  have s6_2 := p6_2.2.2.2.2
  have c6_3 := p6_3.1
  have d6_3 := p6_3.2.1
  have s6_3 := p6_3.2.2.2.2
  have c6_4 := p6_4.1
  have d6_4 := p6_4.2.1
  have s6_4 := p6_4.2.2.2.2
  have c6_5 := p6_5.1
  have d6_5 := p6_5.2.1
  have s6_5 := p6_5.2.2.2.2
  go_wp2_with fail
  refine (known_any _).mono ?_
  rintro e w7 ⟨rfl, hb7⟩
  have p7_0 := pair_below p6_0 hb7
  have p7_1 := pair_below p6_1 hb7
  have p7_2 := pair_below p6_2 hb7
  have p7_3 := pair_below p6_3 hb7
  have p7_4 := pair_below p6_4 hb7
  have p7_5 := pair_below p6_5 hb7
  clear c6_0 d6_0 s6_0 c6_1 d6_1 s6_1 c6_2 d6_2 s6_2 c6_3 d6_3 s6_3 c6_4 d6_4 s6_4 c6_5 d6_5 s6_5 p6_0 p6_1 p6_2 p6_3 p6_4 p6_5
  have c7_0 := p7_0.1
  have d7_0 := p7_0.2.1
  have s7_0 := p7_0.2.2.2.2
  have c7_1 := p7_1.1
  have d7_1 := p7_1.2.1
  have s7_1 := p7_1.2.2.2.2
  have c7_2 := p7_2.1
  have d7_2 := p7_2.2.1
  have s7_2 := p7_2.2.2.2.2
  have c7_3 := p7_3.1
  have d7_3 := p7_3.2.1
  have s7_3 := p7_3.2.2.2.2
  have c7_4 := p7_4.1
  have d7_4 := p7_4.2.1
  have s7_4 := p7_4.2.2.2.2
  have c7_5 := p7_5.1
  have d7_5 := p7_5.2.1
  have s7_5 := p7_5.2.2.2.2
  go_wp2
  go_ret
  exact ⟨rfl, by (repeat' (first | exact Below.refl _ _ | refine bstep ?_ hb1 | refine bstep ?_ hb2 | refine bstep ?_ hb3 | refine bstep ?_ hb4 | refine bstep ?_ hb5 | refine bstep ?_ hb6 | refine bstep ?_ hb7 | refine Below.setCell ?_ (by simp <;> omega) _ | refine balloc ?_ _ | refine Below.drew ?_ | refine bdrewN ?_ _))⟩
theorem lengths_11 (n : Int) (w : World) (z : (invR n 1).2 = 0) (y : (lenR n).2 = 0) (v : (lenR (wrap64 (n + 1))).2 ≠ 0) :
    Calls Try.prog 11 #[.int .i64 n] w fun e w' => e = .returned (.bool true) ∧ Below w.heap.size w w' := by
  have z1 : ((invR n 1).2 != 0) = false := by rw [z]; rfl
  have C := Lib.hid (fun w => encl_true (Sp.mulR (lenR n).1.1 (lenR n).1.2 (invR n 1).1.1 (invR n 1).1.2).1.1 (Sp.mulR (lenR n).1.1 (lenR n).1.2 (invR n 1).1.1 (invR n 1).1.2).1.2 (Sp.mulR (lenR n).1.1 (lenR n).1.2 (invR n 1).1.1 (invR n 1).1.2).2 1048576 1048576 w (fun k => one_in z k))
  clear z
  have y1 : ((lenR n).2 != 0) = false := by rw [y]; rfl
  have v1 : ((lenR (wrap64 (n + 1))).2 != 0) = true := bne_iff_ne.2 v
  clear y v
  go_enter Try.func11, Try.ntmps11
  go_wp2_with fail
  refine (len_any _ _).mono ?_
  rintro e w1 ⟨rfl, hb1⟩
  go_wp2_with fail
  refine (rlen_any _ _).mono ?_
  rintro e w2 ⟨rfl, hb2⟩
  have p2_0 := pair_below (pair_new _ (lenR n).1.1 (lenR n).1.2 _) hb2
  have c2_0 := p2_0.1
  have d2_0 := p2_0.2.1
  have s2_0 := p2_0.2.2.2.2
  go_wp2_with fail
  refine (inv_any _ _ _).mono ?_
  rintro e w3 ⟨rfl, hb3⟩
  have p3_0 := pair_below (pair_alloc p2_0 _) hb3
  have p3_1 := pair_below (pair_new _ (lenR n).1.1 (lenR n).1.2 _) hb3
  clear c2_0 d2_0 s2_0 p2_0
  have c3_0 := p3_0.1
  have d3_0 := p3_0.2.1
  have s3_0 := p3_0.2.2.2.2
  have c3_1 := p3_1.1
  have d3_1 := p3_1.2.1
  have s3_1 := p3_1.2.2.2.2
  go_wp2_with fail
  refine (mul_any _ _ _ _ _).mono ?_
  rintro e w4 ⟨rfl, hb4⟩
  have p4_0 := pair_below (pair_alloc p3_0 _) hb4
  have p4_1 := pair_below (pair_alloc p3_1 _) hb4
  have p4_2 := pair_below (pair_new _ (invR n 1).1.1 (invR n 1).1.2 _) hb4
  clear c3_0 d3_0 s3_0 c3_1 d3_1 s3_1 p3_0 p3_1
  have c4_0 := p4_0.1
  have d4_0 := p4_0.2.1
  have s4_0 := p4_0.2.2.2.2
  have c4_1 := p4_1.1
  have d4_1 := p4_1.2.1
  have s4_1 := p4_1.2.2.2.2
  have c4_2 := p4_2.1
  have d4_2 := p4_2.2.1
  have s4_2 := p4_2.2.2.2.2
  go_wp2_with fail
  refine (len_any _ _).mono ?_
  rintro e w5 ⟨rfl, hb5⟩
  have p5_0 := pair_below (pair_alloc (pair_alloc p4_0 _) _) hb5
  have p5_1 := pair_below (pair_alloc (pair_alloc p4_1 _) _) hb5
  have p5_2 := pair_below (pair_alloc (pair_alloc p4_2 _) _) hb5
  have p5_3 := pair_below (pair_alloc (pair_new _ (Sp.mulR (lenR n).1.1 (lenR n).1.2 (invR n 1).1.1 (invR n 1).1.2).1.1 (Sp.mulR (lenR n).1.1 (lenR n).1.2 (invR n 1).1.1 (invR n 1).1.2).1.2 _) _) hb5
  have p5_4 := pair_below (pair_new _ 1048576 1048576 _) hb5
  simp only [World.size_alloc] at p5_4
  clear c4_0 d4_0 s4_0 c4_1 d4_1 s4_1 c4_2 d4_2 s4_2 p4_0 p4_1 p4_2
  have c5_0 := p5_0.1
  have d5_0 := p5_0.2.1
  have s5_0 := p5_0.2.2.2.2
  have c5_1 := p5_1.1
  have d5_1 := p5_1.2.1
  have s5_1 := p5_1.2.2.2.2
  have c5_2 := p5_2.1
  have d5_2 := p5_2.2.1
  have s5_2 := p5_2.2.2.2.2
  have c5_3 := p5_3.1
  have d5_3 := p5_3.2.1
  have s5_3 := p5_3.2.2.2.2
  have c5_4 := p5_4.1
  have d5_4 := p5_4.2.1
  have s5_4 := p5_4.2.2.2.2
  go_wp2_with fail
  refine (C.out _).mono ?_
  rintro e w6 ⟨rfl, hb6⟩
  have p6_0 := pair_below (pair_alloc p5_0 _) hb6
  have p6_1 := pair_below (pair_alloc p5_1 _) hb6
  have p6_2 := pair_below (pair_alloc p5_2 _) hb6
  have p6_3 := pair_below (pair_alloc p5_3 _) hb6
  have p6_4 := pair_below (pair_alloc p5_4 _) hb6
  have p6_5 := pair_below (pair_new _ (lenR (wrap64 (n + 1))).1.1 (lenR (wrap64 (n + 1))).1.2 _) hb6
  clear c5_0 d5_0 s5_0 c5_1 d5_1 s5_1 c5_2 d5_2 s5_2 c5_3 d5_3 s5_3 c5_4 d5_4 s5_4 p5_0 p5_1 p5_2 p5_3 p5_4
  have c6_0 := p6_0.1
  have d6_0 := p6_0.2.1
  have s6_0 := p6_0.2.2.2.2
  have c6_1 := p6_1.1
  have d6_1 := p6_1.2.1
  have s6_1 := p6_1.2.2.2.2
  have c6_2 := p6_2.1
  have d6_2 := p6_2.2.1
  have s6_2 := p6_2.2.2.2.2
  have c6_3 := p6_3.1
  have d6_3 := p6_3.2.1
  have s6_3 := p6_3.2.2.2.2
  have c6_4 := p6_4.1
  have d6_4 := p6_4.2.1
  have s6_4 := p6_4.2.2.2.2
  have c6_5 := p6_5.1
  have d6_5 := p6_5.2.1
  have s6_5 := p6_5.2.2.2.2
  go_wp2_with fail
  refine (known_any _).mono ?_
  rintro e w7 ⟨rfl, hb7⟩
  have p7_0 := pair_below p6_0 hb7
  have p7_1 := pair_below p6_1 hb7
  have p7_2 := pair_below p6_2 hb7
  have p7_3 := pair_below p6_3 hb7
  have p7_4 := pair_below p6_4 hb7
  have p7_5 := pair_below p6_5 hb7
  clear c6_0 d6_0 s6_0 c6_1 d6_1 s6_1 c6_2 d6_2 s6_2 c6_3 d6_3 s6_3 c6_4 d6_4 s6_4 c6_5 d6_5 s6_5 p6_0 p6_1 p6_2 p6_3 p6_4 p6_5
  have c7_0 := p7_0.1
  have d7_0 := p7_0.2.1
  have s7_0 := p7_0.2.2.2.2
  have c7_1 := p7_1.1
  have d7_1 := p7_1.2.1
  have s7_1 := p7_1.2.2.2.2
  have c7_2 := p7_2.1
  have d7_2 := p7_2.2.1
  have s7_2 := p7_2.2.2.2.2
  have c7_3 := p7_3.1
  have d7_3 := p7_3.2.1
  have s7_3 := p7_3.2.2.2.2
  have c7_4 := p7_4.1
  have d7_4 := p7_4.2.1
  have s7_4 := p7_4.2.2.2.2
  have c7_5 := p7_5.1
  have d7_5 := p7_5.2.1
  have s7_5 := p7_5.2.2.2.2
  go_wp2
  go_ret
  exact ⟨rfl, by (repeat' (first | exact Below.refl _ _ | refine bstep ?_ hb1 | refine bstep ?_ hb2 | refine bstep ?_ hb3 | refine bstep ?_ hb4 | refine bstep ?_ hb5 | refine bstep ?_ hb6 | refine bstep ?_ hb7 | refine Below.setCell ?_ (by simp <;> omega) _ | refine balloc ?_ _ | refine Below.drew ?_ | refine bdrewN ?_ _))⟩
theorem lengths_12 (n : Int) (w : World) (z : (invR n 1).2 = 0) (y : (lenR n).2 = 0) (v : (lenR (wrap64 (n + 1))).2 = 0) :
    Calls Try.prog 11 #[.int .i64 n] w fun e w' => e = .returned (.bool true) ∧ Below w.heap.size w w' := by
  have z1 : ((invR n 1).2 != 0) = false := by rw [z]; rfl
  have C := Lib.hid (fun w => encl_true (Sp.mulR (lenR n).1.1 (lenR n).1.2 (invR n 1).1.1 (invR n 1).1.2).1.1 (Sp.mulR (lenR n).1.1 (lenR n).1.2 (invR n 1).1.1 (invR n 1).1.2).1.2 (Sp.mulR (lenR n).1.1 (lenR n).1.2 (invR n 1).1.1 (invR n 1).1.2).2 1048576 1048576 w (fun k => one_in z k))
  clear z
  have q := len_mono y v
  have q1 := q.1
  have q2 : decide ((lenR n).1.2 ≤ (lenR (wrap64 (n + 1))).1.2) = true := decide_eq_true q.2
  have y1 : ((lenR n).2 != 0) = false := by rw [y]; rfl
  have v1 : ((lenR (wrap64 (n + 1))).2 != 0) = false := by rw [v]; rfl
  clear y v q
  go_enter Try.func11, Try.ntmps11
  go_wp2_with fail
  refine (len_any _ _).mono ?_
  rintro e w1 ⟨rfl, hb1⟩
  go_wp2_with fail
  refine (rlen_any _ _).mono ?_
  rintro e w2 ⟨rfl, hb2⟩
  have p2_0 := pair_below (pair_new _ (lenR n).1.1 (lenR n).1.2 _) hb2
  have c2_0 := p2_0.1
  have d2_0 := p2_0.2.1
  have s2_0 := p2_0.2.2.2.2
  go_wp2_with fail
  refine (inv_any _ _ _).mono ?_
  rintro e w3 ⟨rfl, hb3⟩
  have p3_0 := pair_below (pair_alloc p2_0 _) hb3
  have p3_1 := pair_below (pair_new _ (lenR n).1.1 (lenR n).1.2 _) hb3
  clear c2_0 d2_0 s2_0 p2_0
  have c3_0 := p3_0.1
  have d3_0 := p3_0.2.1
  have s3_0 := p3_0.2.2.2.2
  have c3_1 := p3_1.1
  have d3_1 := p3_1.2.1
  have s3_1 := p3_1.2.2.2.2
  go_wp2_with fail
  refine (mul_any _ _ _ _ _).mono ?_
  rintro e w4 ⟨rfl, hb4⟩
  have p4_0 := pair_below (pair_alloc p3_0 _) hb4
  have p4_1 := pair_below (pair_alloc p3_1 _) hb4
  have p4_2 := pair_below (pair_new _ (invR n 1).1.1 (invR n 1).1.2 _) hb4
  clear c3_0 d3_0 s3_0 c3_1 d3_1 s3_1 p3_0 p3_1
  have c4_0 := p4_0.1
  have d4_0 := p4_0.2.1
  have s4_0 := p4_0.2.2.2.2
  have c4_1 := p4_1.1
  have d4_1 := p4_1.2.1
  have s4_1 := p4_1.2.2.2.2
  have c4_2 := p4_2.1
  have d4_2 := p4_2.2.1
  have s4_2 := p4_2.2.2.2.2
  go_wp2_with fail
  refine (len_any _ _).mono ?_
  rintro e w5 ⟨rfl, hb5⟩
  have p5_0 := pair_below (pair_alloc (pair_alloc p4_0 _) _) hb5
  have p5_1 := pair_below (pair_alloc (pair_alloc p4_1 _) _) hb5
  have p5_2 := pair_below (pair_alloc (pair_alloc p4_2 _) _) hb5
  have p5_3 := pair_below (pair_alloc (pair_new _ (Sp.mulR (lenR n).1.1 (lenR n).1.2 (invR n 1).1.1 (invR n 1).1.2).1.1 (Sp.mulR (lenR n).1.1 (lenR n).1.2 (invR n 1).1.1 (invR n 1).1.2).1.2 _) _) hb5
  have p5_4 := pair_below (pair_new _ 1048576 1048576 _) hb5
  simp only [World.size_alloc] at p5_4
  clear c4_0 d4_0 s4_0 c4_1 d4_1 s4_1 c4_2 d4_2 s4_2 p4_0 p4_1 p4_2
  have c5_0 := p5_0.1
  have d5_0 := p5_0.2.1
  have s5_0 := p5_0.2.2.2.2
  have c5_1 := p5_1.1
  have d5_1 := p5_1.2.1
  have s5_1 := p5_1.2.2.2.2
  have c5_2 := p5_2.1
  have d5_2 := p5_2.2.1
  have s5_2 := p5_2.2.2.2.2
  have c5_3 := p5_3.1
  have d5_3 := p5_3.2.1
  have s5_3 := p5_3.2.2.2.2
  have c5_4 := p5_4.1
  have d5_4 := p5_4.2.1
  have s5_4 := p5_4.2.2.2.2
  go_wp2_with fail
  refine (C.out _).mono ?_
  rintro e w6 ⟨rfl, hb6⟩
  have p6_0 := pair_below (pair_alloc p5_0 _) hb6
  have p6_1 := pair_below (pair_alloc p5_1 _) hb6
  have p6_2 := pair_below (pair_alloc p5_2 _) hb6
  have p6_3 := pair_below (pair_alloc p5_3 _) hb6
  have p6_4 := pair_below (pair_alloc p5_4 _) hb6
  have p6_5 := pair_below (pair_new _ (lenR (wrap64 (n + 1))).1.1 (lenR (wrap64 (n + 1))).1.2 _) hb6
  clear c5_0 d5_0 s5_0 c5_1 d5_1 s5_1 c5_2 d5_2 s5_2 c5_3 d5_3 s5_3 c5_4 d5_4 s5_4 p5_0 p5_1 p5_2 p5_3 p5_4
  have c6_0 := p6_0.1
  have d6_0 := p6_0.2.1
  have s6_0 := p6_0.2.2.2.2
  have c6_1 := p6_1.1
  have d6_1 := p6_1.2.1
  have s6_1 := p6_1.2.2.2.2
  have c6_2 := p6_2.1
  have d6_2 := p6_2.2.1
  have s6_2 := p6_2.2.2.2.2
  have c6_3 := p6_3.1
  have d6_3 := p6_3.2.1
  have s6_3 := p6_3.2.2.2.2
  have c6_4 := p6_4.1
  have d6_4 := p6_4.2.1
  have s6_4 := p6_4.2.2.2.2
  have c6_5 := p6_5.1
  have d6_5 := p6_5.2.1
  have s6_5 := p6_5.2.2.2.2
  go_wp2_with fail
  refine (known_any _).mono ?_
  rintro e w7 ⟨rfl, hb7⟩
  have p7_0 := pair_below p6_0 hb7
  have p7_1 := pair_below p6_1 hb7
  have p7_2 := pair_below p6_2 hb7
  have p7_3 := pair_below p6_3 hb7
  have p7_4 := pair_below p6_4 hb7
  have p7_5 := pair_below p6_5 hb7
  clear c6_0 d6_0 s6_0 c6_1 d6_1 s6_1 c6_2 d6_2 s6_2 c6_3 d6_3 s6_3 c6_4 d6_4 s6_4 c6_5 d6_5 s6_5 p6_0 p6_1 p6_2 p6_3 p6_4 p6_5
  have c7_0 := p7_0.1
  have d7_0 := p7_0.2.1
  have s7_0 := p7_0.2.2.2.2
  have c7_1 := p7_1.1
  have d7_1 := p7_1.2.1
  have s7_1 := p7_1.2.2.2.2
  have c7_2 := p7_2.1
  have d7_2 := p7_2.2.1
  have s7_2 := p7_2.2.2.2.2
  have c7_3 := p7_3.1
  have d7_3 := p7_3.2.1
  have s7_3 := p7_3.2.2.2.2
  have c7_4 := p7_4.1
  have d7_4 := p7_4.2.1
  have s7_4 := p7_4.2.2.2.2
  have c7_5 := p7_5.1
  have d7_5 := p7_5.2.1
  have s7_5 := p7_5.2.2.2.2
  go_wp2
  go_ret
  exact ⟨rfl, by (repeat' (first | exact Below.refl _ _ | refine bstep ?_ hb1 | refine bstep ?_ hb2 | refine bstep ?_ hb3 | refine bstep ?_ hb4 | refine bstep ?_ hb5 | refine bstep ?_ hb6 | refine bstep ?_ hb7 | refine Below.setCell ?_ (by simp <;> omega) _ | refine balloc ?_ _ | refine Below.drew ?_ | refine bdrewN ?_ _))⟩
theorem lengths_00 (n : Int) (w : World) (z : (invR n 1).2 ≠ 0) (y : (lenR n).2 ≠ 0) :
    Calls Try.prog 11 #[.int .i64 n] w fun e w' => e = .returned (.bool true) ∧ Below w.heap.size w w' := by
  have z1 : ((invR n 1).2 != 0) = true := bne_iff_ne.2 z
  clear z
  have y1 : ((lenR n).2 != 0) = true := bne_iff_ne.2 y
  clear y
  go_enter Try.func11, Try.ntmps11
  go_wp2_with fail
  refine (len_any _ _).mono ?_
  rintro e w1 ⟨rfl, hb1⟩
  go_wp2_with fail
  refine (rlen_any _ _).mono ?_
  rintro e w2 ⟨rfl, hb2⟩
  have p2_0 := pair_below (pair_new _ (lenR n).1.1 (lenR n).1.2 _) hb2
  have c2_0 := p2_0.1
  have d2_0 := p2_0.2.1
  have s2_0 := p2_0.2.2.2.2
  go_wp2_with fail
  refine (inv_any _ _ _).mono ?_
  rintro e w3 ⟨rfl, hb3⟩
  have p3_0 := pair_below (pair_alloc p2_0 _) hb3
  have p3_1 := pair_below (pair_new _ (lenR n).1.1 (lenR n).1.2 _) hb3
  clear c2_0 d2_0 s2_0 p2_0
  have c3_0 := p3_0.1
  have d3_0 := p3_0.2.1
  have s3_0 := p3_0.2.2.2.2
  have c3_1 := p3_1.1
  have d3_1 := p3_1.2.1
  have s3_1 := p3_1.2.2.2.2
  go_wp2_with fail
  refine (mul_any _ _ _ _ _).mono ?_
  rintro e w4 ⟨rfl, hb4⟩
  have p4_0 := pair_below (pair_alloc p3_0 _) hb4
  have p4_1 := pair_below (pair_alloc p3_1 _) hb4
  have p4_2 := pair_below (pair_new _ (invR n 1).1.1 (invR n 1).1.2 _) hb4
  clear c3_0 d3_0 s3_0 c3_1 d3_1 s3_1 p3_0 p3_1
  have c4_0 := p4_0.1
  have d4_0 := p4_0.2.1
  have s4_0 := p4_0.2.2.2.2
  have c4_1 := p4_1.1
  have d4_1 := p4_1.2.1
  have s4_1 := p4_1.2.2.2.2
  have c4_2 := p4_2.1
  have d4_2 := p4_2.2.1
  have s4_2 := p4_2.2.2.2.2
  go_wp2_with fail
  refine (len_any _ _).mono ?_
  rintro e w5 ⟨rfl, hb5⟩
  have p5_0 := pair_below (pair_alloc (pair_alloc p4_0 _) _) hb5
  have p5_1 := pair_below (pair_alloc (pair_alloc p4_1 _) _) hb5
  have p5_2 := pair_below (pair_alloc (pair_alloc p4_2 _) _) hb5
  have p5_3 := pair_below (pair_alloc (pair_new _ (Sp.mulR (lenR n).1.1 (lenR n).1.2 (invR n 1).1.1 (invR n 1).1.2).1.1 (Sp.mulR (lenR n).1.1 (lenR n).1.2 (invR n 1).1.1 (invR n 1).1.2).1.2 _) _) hb5
  have p5_4 := pair_below (pair_new _ 1048576 1048576 _) hb5
  simp only [World.size_alloc] at p5_4
  clear c4_0 d4_0 s4_0 c4_1 d4_1 s4_1 c4_2 d4_2 s4_2 p4_0 p4_1 p4_2
  have c5_0 := p5_0.1
  have d5_0 := p5_0.2.1
  have s5_0 := p5_0.2.2.2.2
  have c5_1 := p5_1.1
  have d5_1 := p5_1.2.1
  have s5_1 := p5_1.2.2.2.2
  have c5_2 := p5_2.1
  have d5_2 := p5_2.2.1
  have s5_2 := p5_2.2.2.2.2
  have c5_3 := p5_3.1
  have d5_3 := p5_3.2.1
  have s5_3 := p5_3.2.2.2.2
  have c5_4 := p5_4.1
  have d5_4 := p5_4.2.1
  have s5_4 := p5_4.2.2.2.2
  go_wp2_with fail
  refine (known_any _).mono ?_
  rintro e w6 ⟨rfl, hb6⟩
  have p6_0 := pair_below (pair_alloc p5_0 _) hb6
  have p6_1 := pair_below (pair_alloc p5_1 _) hb6
  have p6_2 := pair_below (pair_alloc p5_2 _) hb6
  have p6_3 := pair_below (pair_alloc p5_3 _) hb6
  have p6_4 := pair_below (pair_alloc p5_4 _) hb6
  have p6_5 := pair_below (pair_new _ (lenR (wrap64 (n + 1))).1.1 (lenR (wrap64 (n + 1))).1.2 _) hb6
  clear c5_0 d5_0 s5_0 c5_1 d5_1 s5_1 c5_2 d5_2 s5_2 c5_3 d5_3 s5_3 c5_4 d5_4 s5_4 p5_0 p5_1 p5_2 p5_3 p5_4
  have c6_0 := p6_0.1
  have d6_0 := p6_0.2.1
  have s6_0 := p6_0.2.2.2.2
  have c6_1 := p6_1.1
  have d6_1 := p6_1.2.1
  have s6_1 := p6_1.2.2.2.2
  have c6_2 := p6_2.1
  have d6_2 := p6_2.2.1
  have s6_2 := p6_2.2.2.2.2
  have c6_3 := p6_3.1
  have d6_3 := p6_3.2.1
  have s6_3 := p6_3.2.2.2.2
  have c6_4 := p6_4.1
  have d6_4 := p6_4.2.1
  have s6_4 := p6_4.2.2.2.2
  have c6_5 := p6_5.1
  have d6_5 := p6_5.2.1
  have s6_5 := p6_5.2.2.2.2
  go_wp2
  go_ret
  exact ⟨rfl, by (repeat' (first | exact Below.refl _ _ | refine bstep ?_ hb1 | refine bstep ?_ hb2 | refine bstep ?_ hb3 | refine bstep ?_ hb4 | refine bstep ?_ hb5 | refine bstep ?_ hb6 | refine Below.setCell ?_ (by simp <;> omega) _ | refine balloc ?_ _ | refine Below.drew ?_ | refine bdrewN ?_ _))⟩
theorem lengths_01 (n : Int) (w : World) (z : (invR n 1).2 ≠ 0) (y : (lenR n).2 = 0) (v : (lenR (wrap64 (n + 1))).2 ≠ 0) :
    Calls Try.prog 11 #[.int .i64 n] w fun e w' => e = .returned (.bool true) ∧ Below w.heap.size w w' := by
  have z1 : ((invR n 1).2 != 0) = true := bne_iff_ne.2 z
  clear z
  have y1 : ((lenR n).2 != 0) = false := by rw [y]; rfl
  have v1 : ((lenR (wrap64 (n + 1))).2 != 0) = true := bne_iff_ne.2 v
  clear y v
  go_enter Try.func11, Try.ntmps11
  go_wp2_with fail
  refine (len_any _ _).mono ?_
  rintro e w1 ⟨rfl, hb1⟩
  go_wp2_with fail
  refine (rlen_any _ _).mono ?_
  rintro e w2 ⟨rfl, hb2⟩
  have p2_0 := pair_below (pair_new _ (lenR n).1.1 (lenR n).1.2 _) hb2
  have c2_0 := p2_0.1
  have d2_0 := p2_0.2.1
  have s2_0 := p2_0.2.2.2.2
  go_wp2_with fail
  refine (inv_any _ _ _).mono ?_
  rintro e w3 ⟨rfl, hb3⟩
  have p3_0 := pair_below (pair_alloc p2_0 _) hb3
  have p3_1 := pair_below (pair_new _ (lenR n).1.1 (lenR n).1.2 _) hb3
  clear c2_0 d2_0 s2_0 p2_0
  have c3_0 := p3_0.1
  have d3_0 := p3_0.2.1
  have s3_0 := p3_0.2.2.2.2
  have c3_1 := p3_1.1
  have d3_1 := p3_1.2.1
  have s3_1 := p3_1.2.2.2.2
  go_wp2_with fail
  refine (mul_any _ _ _ _ _).mono ?_
  rintro e w4 ⟨rfl, hb4⟩
  have p4_0 := pair_below (pair_alloc p3_0 _) hb4
  have p4_1 := pair_below (pair_alloc p3_1 _) hb4
  have p4_2 := pair_below (pair_new _ (invR n 1).1.1 (invR n 1).1.2 _) hb4
  clear c3_0 d3_0 s3_0 c3_1 d3_1 s3_1 p3_0 p3_1
  have c4_0 := p4_0.1
  have d4_0 := p4_0.2.1
  have s4_0 := p4_0.2.2.2.2
  have c4_1 := p4_1.1
  have d4_1 := p4_1.2.1
  have s4_1 := p4_1.2.2.2.2
  have c4_2 := p4_2.1
  have d4_2 := p4_2.2.1
  have s4_2 := p4_2.2.2.2.2
  go_wp2_with fail
  refine (len_any _ _).mono ?_
  rintro e w5 ⟨rfl, hb5⟩
  have p5_0 := pair_below (pair_alloc (pair_alloc p4_0 _) _) hb5
  have p5_1 := pair_below (pair_alloc (pair_alloc p4_1 _) _) hb5
  have p5_2 := pair_below (pair_alloc (pair_alloc p4_2 _) _) hb5
  have p5_3 := pair_below (pair_alloc (pair_new _ (Sp.mulR (lenR n).1.1 (lenR n).1.2 (invR n 1).1.1 (invR n 1).1.2).1.1 (Sp.mulR (lenR n).1.1 (lenR n).1.2 (invR n 1).1.1 (invR n 1).1.2).1.2 _) _) hb5
  have p5_4 := pair_below (pair_new _ 1048576 1048576 _) hb5
  simp only [World.size_alloc] at p5_4
  clear c4_0 d4_0 s4_0 c4_1 d4_1 s4_1 c4_2 d4_2 s4_2 p4_0 p4_1 p4_2
  have c5_0 := p5_0.1
  have d5_0 := p5_0.2.1
  have s5_0 := p5_0.2.2.2.2
  have c5_1 := p5_1.1
  have d5_1 := p5_1.2.1
  have s5_1 := p5_1.2.2.2.2
  have c5_2 := p5_2.1
  have d5_2 := p5_2.2.1
  have s5_2 := p5_2.2.2.2.2
  have c5_3 := p5_3.1
  have d5_3 := p5_3.2.1
  have s5_3 := p5_3.2.2.2.2
  have c5_4 := p5_4.1
  have d5_4 := p5_4.2.1
  have s5_4 := p5_4.2.2.2.2
  go_wp2_with fail
  refine (known_any _).mono ?_
  rintro e w6 ⟨rfl, hb6⟩
  have p6_0 := pair_below (pair_alloc p5_0 _) hb6
  have p6_1 := pair_below (pair_alloc p5_1 _) hb6
  have p6_2 := pair_below (pair_alloc p5_2 _) hb6
  have p6_3 := pair_below (pair_alloc p5_3 _) hb6
  have p6_4 := pair_below (pair_alloc p5_4 _) hb6
  have p6_5 := pair_below (pair_new _ (lenR (wrap64 (n + 1))).1.1 (lenR (wrap64 (n + 1))).1.2 _) hb6
  clear c5_0 d5_0 s5_0 c5_1 d5_1 s5_1 c5_2 d5_2 s5_2 c5_3 d5_3 s5_3 c5_4 d5_4 s5_4 p5_0 p5_1 p5_2 p5_3 p5_4
  have c6_0 := p6_0.1
  have d6_0 := p6_0.2.1
  have s6_0 := p6_0.2.2.2.2
  have c6_1 := p6_1.1
  have d6_1 := p6_1.2.1
  have s6_1 := p6_1.2.2.2.2
  have c6_2 := p6_2.1
  have d6_2 := p6_2.2.1
  have s6_2 := p6_2.2.2.2.2
  have c6_3 := p6_3.1
  have d6_3 := p6_3.2.1
  have s6_3 := p6_3.2.2.2.2
  have c6_4 := p6_4.1
  have d6_4 := p6_4.2.1
  have s6_4 := p6_4.2.2.2.2
  have c6_5 := p6_5.1
  have d6_5 := p6_5.2.1
  have s6_5 := p6_5.2.2.2.2
  go_wp2
  go_ret
  exact ⟨rfl, by (repeat' (first | exact Below.refl _ _ | refine bstep ?_ hb1 | refine bstep ?_ hb2 | refine bstep ?_ hb3 | refine bstep ?_ hb4 | refine bstep ?_ hb5 | refine bstep ?_ hb6 | refine Below.setCell ?_ (by simp <;> omega) _ | refine balloc ?_ _ | refine Below.drew ?_ | refine bdrewN ?_ _))⟩
theorem lengths_02 (n : Int) (w : World) (z : (invR n 1).2 ≠ 0) (y : (lenR n).2 = 0) (v : (lenR (wrap64 (n + 1))).2 = 0) :
    Calls Try.prog 11 #[.int .i64 n] w fun e w' => e = .returned (.bool true) ∧ Below w.heap.size w w' := by
  have z1 : ((invR n 1).2 != 0) = true := bne_iff_ne.2 z
  clear z
  have q := len_mono y v
  have q1 := q.1
  have q2 : decide ((lenR n).1.2 ≤ (lenR (wrap64 (n + 1))).1.2) = true := decide_eq_true q.2
  have y1 : ((lenR n).2 != 0) = false := by rw [y]; rfl
  have v1 : ((lenR (wrap64 (n + 1))).2 != 0) = false := by rw [v]; rfl
  clear y v q
  go_enter Try.func11, Try.ntmps11
  go_wp2_with fail
  refine (len_any _ _).mono ?_
  rintro e w1 ⟨rfl, hb1⟩
  go_wp2_with fail
  refine (rlen_any _ _).mono ?_
  rintro e w2 ⟨rfl, hb2⟩
  have p2_0 := pair_below (pair_new _ (lenR n).1.1 (lenR n).1.2 _) hb2
  have c2_0 := p2_0.1
  have d2_0 := p2_0.2.1
  have s2_0 := p2_0.2.2.2.2
  go_wp2_with fail
  refine (inv_any _ _ _).mono ?_
  rintro e w3 ⟨rfl, hb3⟩
  have p3_0 := pair_below (pair_alloc p2_0 _) hb3
  have p3_1 := pair_below (pair_new _ (lenR n).1.1 (lenR n).1.2 _) hb3
  clear c2_0 d2_0 s2_0 p2_0
  have c3_0 := p3_0.1
  have d3_0 := p3_0.2.1
  have s3_0 := p3_0.2.2.2.2
  have c3_1 := p3_1.1
  have d3_1 := p3_1.2.1
  have s3_1 := p3_1.2.2.2.2
  go_wp2_with fail
  refine (mul_any _ _ _ _ _).mono ?_
  rintro e w4 ⟨rfl, hb4⟩
  have p4_0 := pair_below (pair_alloc p3_0 _) hb4
  have p4_1 := pair_below (pair_alloc p3_1 _) hb4
  have p4_2 := pair_below (pair_new _ (invR n 1).1.1 (invR n 1).1.2 _) hb4
  clear c3_0 d3_0 s3_0 c3_1 d3_1 s3_1 p3_0 p3_1
  have c4_0 := p4_0.1
  have d4_0 := p4_0.2.1
  have s4_0 := p4_0.2.2.2.2
  have c4_1 := p4_1.1
  have d4_1 := p4_1.2.1
  have s4_1 := p4_1.2.2.2.2
  have c4_2 := p4_2.1
  have d4_2 := p4_2.2.1
  have s4_2 := p4_2.2.2.2.2
  go_wp2_with fail
  refine (len_any _ _).mono ?_
  rintro e w5 ⟨rfl, hb5⟩
  have p5_0 := pair_below (pair_alloc (pair_alloc p4_0 _) _) hb5
  have p5_1 := pair_below (pair_alloc (pair_alloc p4_1 _) _) hb5
  have p5_2 := pair_below (pair_alloc (pair_alloc p4_2 _) _) hb5
  have p5_3 := pair_below (pair_alloc (pair_new _ (Sp.mulR (lenR n).1.1 (lenR n).1.2 (invR n 1).1.1 (invR n 1).1.2).1.1 (Sp.mulR (lenR n).1.1 (lenR n).1.2 (invR n 1).1.1 (invR n 1).1.2).1.2 _) _) hb5
  have p5_4 := pair_below (pair_new _ 1048576 1048576 _) hb5
  simp only [World.size_alloc] at p5_4
  clear c4_0 d4_0 s4_0 c4_1 d4_1 s4_1 c4_2 d4_2 s4_2 p4_0 p4_1 p4_2
  have c5_0 := p5_0.1
  have d5_0 := p5_0.2.1
  have s5_0 := p5_0.2.2.2.2
  have c5_1 := p5_1.1
  have d5_1 := p5_1.2.1
  have s5_1 := p5_1.2.2.2.2
  have c5_2 := p5_2.1
  have d5_2 := p5_2.2.1
  have s5_2 := p5_2.2.2.2.2
  have c5_3 := p5_3.1
  have d5_3 := p5_3.2.1
  have s5_3 := p5_3.2.2.2.2
  have c5_4 := p5_4.1
  have d5_4 := p5_4.2.1
  have s5_4 := p5_4.2.2.2.2
  go_wp2_with fail
  refine (known_any _).mono ?_
  rintro e w6 ⟨rfl, hb6⟩
  have p6_0 := pair_below (pair_alloc p5_0 _) hb6
  have p6_1 := pair_below (pair_alloc p5_1 _) hb6
  have p6_2 := pair_below (pair_alloc p5_2 _) hb6
  have p6_3 := pair_below (pair_alloc p5_3 _) hb6
  have p6_4 := pair_below (pair_alloc p5_4 _) hb6
  have p6_5 := pair_below (pair_new _ (lenR (wrap64 (n + 1))).1.1 (lenR (wrap64 (n + 1))).1.2 _) hb6
  clear c5_0 d5_0 s5_0 c5_1 d5_1 s5_1 c5_2 d5_2 s5_2 c5_3 d5_3 s5_3 c5_4 d5_4 s5_4 p5_0 p5_1 p5_2 p5_3 p5_4
  have c6_0 := p6_0.1
  have d6_0 := p6_0.2.1
  have s6_0 := p6_0.2.2.2.2
  have c6_1 := p6_1.1
  have d6_1 := p6_1.2.1
  have s6_1 := p6_1.2.2.2.2
  have c6_2 := p6_2.1
  have d6_2 := p6_2.2.1
  have s6_2 := p6_2.2.2.2.2
  have c6_3 := p6_3.1
  have d6_3 := p6_3.2.1
  have s6_3 := p6_3.2.2.2.2
  have c6_4 := p6_4.1
  have d6_4 := p6_4.2.1
  have s6_4 := p6_4.2.2.2.2
  have c6_5 := p6_5.1
  have d6_5 := p6_5.2.1
  have s6_5 := p6_5.2.2.2.2
  go_wp2
  go_ret
  exact ⟨rfl, by (repeat' (first | exact Below.refl _ _ | refine bstep ?_ hb1 | refine bstep ?_ hb2 | refine bstep ?_ hb3 | refine bstep ?_ hb4 | refine bstep ?_ hb5 | refine bstep ?_ hb6 | refine Below.setCell ?_ (by simp <;> omega) _ | refine balloc ?_ _ | refine Below.drew ?_ | refine bdrewN ?_ _))⟩
theorem lengths_walk (n : Int) (w : World) :
    Calls Try.prog 11 #[.int .i64 n] w fun e w' => e = .returned (.bool true) ∧ Below w.heap.size w w' := by
  by_cases z : (invR n 1).2 = 0 <;> by_cases y : (lenR n).2 = 0
  · by_cases v : (lenR (wrap64 (n + 1))).2 = 0
    · exact lengths_12 _ _ z y v
    · exact lengths_11 _ _ z y v
  · exact lengths_10 _ _ z y
  · by_cases v : (lenR (wrap64 (n + 1))).2 = 0
    · exact lengths_02 _ _ z y v
    · exact lengths_01 _ _ z y v
  · exact lengths_00 _ _ z y

end Go.Proofs.Ythmlhpjhoolflaa
