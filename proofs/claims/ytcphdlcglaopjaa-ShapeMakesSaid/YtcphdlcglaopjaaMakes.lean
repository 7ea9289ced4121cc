/-
  The law ShapeMakes: for all numbers it answers true.
-/
import Derived.Test.YtcphdlcglaopjaaRBlock
namespace Go.Proofs.Ytcphdlcglaopjaa
open Go.ChangeShapes Go.WideShapes Go.RowKit
open Sh
theorem ite_le {p : Prop} [Decidable p] {a b m : Nat} (ha : a ≤ m) (hb : b ≤ m) : (if p then a else b) ≤ m := by split <;> assumption
set_option maxRecDepth 100000 in
set_option maxHeartbeats 2000000 in
theorem makes_walk0 (a b c : Int) (N M N2 M2 : Nat) (P F Q G : Nat → P3) (x y : Int) (w : World) (h1 : Hid (∀ W, Calls Try.prog 53 #[.int .i64 a, .int .i64 b, .int .i64 c] W (MeshN N M P F x W))) (h2 : Hid (∀ W, Calls Try.prog 54 #[.int .i64 a, .int .i64 b, .int .i64 c] W (MeshN N M P F x W))) (h3 : Hid (∀ W, Calls Try.prog 55 #[.int .i64 a] W (MeshN N2 M2 Q G y W))) (h4 : Hid (∀ W, Calls Try.prog 56 #[.int .i64 a] W (MeshN N2 M2 Q G y W))) (hK : Hid (∀ W, Calls Try.prog 15 #[] W fun e' w' => e' = .returned (.bool true) ∧ Below W.heap.size W w')) (n1 : N ≤ 1000000) (n2 : M ≤ 1000000) (n3 : N2 ≤ 1000000) (n4 : M2 ≤ 1000000) :
    Calls Try.prog 11 #[.int .i64 a, .int .i64 b, .int .i64 c] w fun e w' => e = .returned (.bool true) ∧ Below w.heap.size w w' := by
  have L1 := Lib.hid n1
  have L2 := Lib.hid n2
  have L3 := Lib.hid n3
  have L4 := Lib.hid n4
  clear n1 n2 n3 n4
  go_enter Try.func11, Try.ntmps11
  go_wp2_with fail
  refine (h1.out _).mono ?_
  rintro e' w1 ⟨a1, c1, a1', c1', rfl, l, l', hb⟩
  have Lp1_1 := Lib.hid (lst_below l ((Below.refl _ _).alloc (Nat.le_refl _) (msc a1 N c1 a1' M c1' 25)))
  have Lf1_1 := Lib.hid (lst_below l' ((Below.refl _ _).alloc (Nat.le_refl _) (msc a1 N c1 a1' M c1' 25)))
  have X1_1 := Lib.hid (mes_new w1 a1 N c1 a1' M c1' 25)
  have B1 := Lib.hid (balloc (bstep (Below.refl _ w) hb) (msc a1 N c1 a1' M c1' 25))
  clear l l' hb
  go_wp2_with fail
  refine (h2.out _).mono ?_
  rintro e' w2 ⟨a2, c2, a2', c2', rfl, l, l', hb⟩
  have Lp2_2 := Lib.hid (lst_below l ((Below.refl _ _).alloc (Nat.le_refl _) (msc a2 N c2 a2' M c2' 25)))
  have Lf2_2 := Lib.hid (lst_below l' ((Below.refl _ _).alloc (Nat.le_refl _) (msc a2 N c2 a2' M c2' 25)))
  have X2_2 := Lib.hid (mes_new w2 a2 N c2 a2' M c2' 25)
  have B2 := Lib.hid (balloc (bstep B1.out hb) (msc a2 N c2 a2' M c2' 25))
  have Lp1_2 := Lib.hid (lst_below (lst_below Lp1_1.out hb) ((Below.refl _ _).alloc (Nat.le_refl _) (msc a2 N c2 a2' M c2' 25)))
  have Lf1_2 := Lib.hid (lst_below (lst_below Lf1_1.out hb) ((Below.refl _ _).alloc (Nat.le_refl _) (msc a2 N c2 a2' M c2' 25)))
  have X1_2 := Lib.hid (mes_alloc (mes_below X1_1.out hb) (msc a2 N c2 a2' M c2' 25))
  clear l l' hb
  clear Lp1_1 Lf1_1 X1_1
  go_wp2_with fail
  refine (h3.out _).mono ?_
  rintro e' w3 ⟨a3, c3, a3', c3', rfl, l, l', hb⟩
  have Lp3_3 := Lib.hid (lst_below l ((Below.refl _ _).alloc (Nat.le_refl _) (msc a3 N2 c3 a3' M2 c3' 25)))
  have Lf3_3 := Lib.hid (lst_below l' ((Below.refl _ _).alloc (Nat.le_refl _) (msc a3 N2 c3 a3' M2 c3' 25)))
  have X3_3 := Lib.hid (mes_new w3 a3 N2 c3 a3' M2 c3' 25)
  have B3 := Lib.hid (balloc (bstep B2.out hb) (msc a3 N2 c3 a3' M2 c3' 25))
  have Lp1_3 := Lib.hid (lst_below (lst_below Lp1_2.out hb) ((Below.refl _ _).alloc (Nat.le_refl _) (msc a3 N2 c3 a3' M2 c3' 25)))
  have Lf1_3 := Lib.hid (lst_below (lst_below Lf1_2.out hb) ((Below.refl _ _).alloc (Nat.le_refl _) (msc a3 N2 c3 a3' M2 c3' 25)))
  have X1_3 := Lib.hid (mes_alloc (mes_below X1_2.out hb) (msc a3 N2 c3 a3' M2 c3' 25))
  have Lp2_3 := Lib.hid (lst_below (lst_below Lp2_2.out hb) ((Below.refl _ _).alloc (Nat.le_refl _) (msc a3 N2 c3 a3' M2 c3' 25)))
  have Lf2_3 := Lib.hid (lst_below (lst_below Lf2_2.out hb) ((Below.refl _ _).alloc (Nat.le_refl _) (msc a3 N2 c3 a3' M2 c3' 25)))
  have X2_3 := Lib.hid (mes_alloc (mes_below X2_2.out hb) (msc a3 N2 c3 a3' M2 c3' 25))
  clear l l' hb
  clear Lp1_2 Lf1_2 X1_2
  clear Lp2_2 Lf2_2 X2_2
  go_wp2_with fail
  refine (h4.out _).mono ?_
  rintro e' w4 ⟨a4, c4, a4', c4', rfl, l, l', hb⟩
  have Lp4_4 := Lib.hid (lst_below l ((Below.refl _ _).alloc (Nat.le_refl _) (msc a4 N2 c4 a4' M2 c4' 25)))
  have Lf4_4 := Lib.hid (lst_below l' ((Below.refl _ _).alloc (Nat.le_refl _) (msc a4 N2 c4 a4' M2 c4' 25)))
  have X4_4 := Lib.hid (mes_new w4 a4 N2 c4 a4' M2 c4' 25)
  have B4 := Lib.hid (balloc (bstep B3.out hb) (msc a4 N2 c4 a4' M2 c4' 25))
  have Lp1_4 := Lib.hid (lst_below (lst_below Lp1_3.out hb) ((Below.refl _ _).alloc (Nat.le_refl _) (msc a4 N2 c4 a4' M2 c4' 25)))
  have Lf1_4 := Lib.hid (lst_below (lst_below Lf1_3.out hb) ((Below.refl _ _).alloc (Nat.le_refl _) (msc a4 N2 c4 a4' M2 c4' 25)))
  have X1_4 := Lib.hid (mes_alloc (mes_below X1_3.out hb) (msc a4 N2 c4 a4' M2 c4' 25))
  have Lp2_4 := Lib.hid (lst_below (lst_below Lp2_3.out hb) ((Below.refl _ _).alloc (Nat.le_refl _) (msc a4 N2 c4 a4' M2 c4' 25)))
  have Lf2_4 := Lib.hid (lst_below (lst_below Lf2_3.out hb) ((Below.refl _ _).alloc (Nat.le_refl _) (msc a4 N2 c4 a4' M2 c4' 25)))
  have X2_4 := Lib.hid (mes_alloc (mes_below X2_3.out hb) (msc a4 N2 c4 a4' M2 c4' 25))
  have Lp3_4 := Lib.hid (lst_below (lst_below Lp3_3.out hb) ((Below.refl _ _).alloc (Nat.le_refl _) (msc a4 N2 c4 a4' M2 c4' 25)))
  have Lf3_4 := Lib.hid (lst_below (lst_below Lf3_3.out hb) ((Below.refl _ _).alloc (Nat.le_refl _) (msc a4 N2 c4 a4' M2 c4' 25)))
  have X3_4 := Lib.hid (mes_alloc (mes_below X3_3.out hb) (msc a4 N2 c4 a4' M2 c4' 25))
  clear l l' hb
  clear Lp1_3 Lf1_3 X1_3
  clear Lp2_3 Lf2_3 X2_3
  clear Lp3_3 Lf3_3 X3_3
  obtain ⟨p1, q1, r1⟩ := X1_4.out
  obtain ⟨p2, q2, r2⟩ := X2_4.out
  obtain ⟨p3, q3, r3⟩ := X3_4.out
  obtain ⟨p4, q4, r4⟩ := X4_4.out
  go_wp2_with fail
  refine (same_any a1 N c1 a1' M c1' a2 c2 a2' c2' P F _ Lp1_4.out Lp2_4.out Lf1_4.out Lf2_4.out L1.out L2.out).mono ?_
  rintro e' w5 ⟨rfl, hb⟩
  have Y3 := Lib.hid (mes_below X3_4.out hb)
  have Y4 := Lib.hid (mes_below X4_4.out hb)
  have P3' := Lib.hid (lst_below Lp3_4.out hb)
  have P4' := Lib.hid (lst_below Lp4_4.out hb)
  have F3' := Lib.hid (lst_below Lf3_4.out hb)
  have F4' := Lib.hid (lst_below Lf4_4.out hb)
  have B5 := Lib.hid (bstep B4.out hb)
  clear hb p1 q1 r1 p2 q2 r2 p3 q3 r3 p4 q4 r4
  obtain ⟨p3, q3, r3⟩ := Y3.out
  obtain ⟨p4, q4, r4⟩ := Y4.out
  go_wp2_with fail
  refine (same_any a3 N2 c3 a3' M2 c3' a4 c4 a4' c4' Q G _ P3'.out P4'.out F3'.out F4'.out L3.out L4.out).mono ?_
  rintro e' w6 ⟨rfl, hb⟩
  have B6 := Lib.hid (bstep B5.out hb)
  clear hb p3 q3 r3 p4 q4 r4
  go_wp2_with fail
  refine (hK.out _).mono ?_
  rintro e' w7 ⟨rfl, hb⟩
  have B7 := Lib.hid (bstep B6.out hb)
  clear hb
  go_wp2
  go_ret
  exact ⟨rfl, B7.out⟩
theorem block_any (a b c : Int) (w : World) :
    Calls Try.prog 53 #[.int .i64 a, .int .i64 b, .int .i64 c] w (MeshN (if (if szB a && szB b && szB c then vcode ⟨8, 12, (boxP a b c), boxF⟩ else 1) = 0 then 8 else 0) (if (if szB a && szB b && szB c then vcode ⟨8, 12, (boxP a b c), boxF⟩ else 1) = 0 then 12 else 0) (boxP a b c) boxF (if szB a && szB b && szB c then vcode ⟨8, 12, (boxP a b c), boxF⟩ else 1) w) := by
  cases ha : szB a with
  | false =>
    rw [if_neg (show ¬ (false && szB b && szB c) = true by simp)]
    rw [if_neg (by decide), if_neg (by decide)]
    exact (block_bad0 a b c w ha).mono fun e w' ⟨q1, q2⟩ => ⟨none, 0, none, 0, q1, lst_zero _ _ _, lst_zero _ _ _, q2⟩
  | true =>
    cases hb : szB b with
    | false =>
      rw [if_neg (show ¬ (true && false && szB c) = true by simp)]
      rw [if_neg (by decide), if_neg (by decide)]
      exact (block_bad1 a b c w ha hb).mono fun e w' ⟨q1, q2⟩ => ⟨none, 0, none, 0, q1, lst_zero _ _ _, lst_zero _ _ _, q2⟩
    | true =>
      cases hc : szB c with
      | false =>
        rw [if_neg (show ¬ (true && true && false) = true by simp)]
        rw [if_neg (by decide), if_neg (by decide)]
        exact (block_bad2 a b c w ha hb hc).mono fun e w' ⟨q1, q2⟩ => ⟨none, 0, none, 0, q1, lst_zero _ _ _, lst_zero _ _ _, q2⟩
      | true =>
        rw [if_pos (show (true && true && true) = true from rfl)]
        exact (block_row a b c w ha hb hc).mono fun _ _ h => meshN_of h
theorem rblock_any (a b c : Int) (w : World) :
    Calls Try.prog 54 #[.int .i64 a, .int .i64 b, .int .i64 c] w (MeshN (if (if szB a && szB b && szB c then vcode ⟨8, 12, (boxP a b c), boxF⟩ else 1) = 0 then 8 else 0) (if (if szB a && szB b && szB c then vcode ⟨8, 12, (boxP a b c), boxF⟩ else 1) = 0 then 12 else 0) (boxP a b c) boxF (if szB a && szB b && szB c then vcode ⟨8, 12, (boxP a b c), boxF⟩ else 1) w) := by
  cases ha : szB a with
  | false =>
    rw [if_neg (show ¬ (false && szB b && szB c) = true by simp)]
    rw [if_neg (by decide), if_neg (by decide)]
    exact (rblock_bad0 a b c w ha).mono fun e w' ⟨q1, q2⟩ => ⟨none, 0, none, 0, q1, lst_zero _ _ _, lst_zero _ _ _, q2⟩
  | true =>
    cases hb : szB b with
    | false =>
      rw [if_neg (show ¬ (true && false && szB c) = true by simp)]
      rw [if_neg (by decide), if_neg (by decide)]
      exact (rblock_bad1 a b c w ha hb).mono fun e w' ⟨q1, q2⟩ => ⟨none, 0, none, 0, q1, lst_zero _ _ _, lst_zero _ _ _, q2⟩
    | true =>
      cases hc : szB c with
      | false =>
        rw [if_neg (show ¬ (true && true && false) = true by simp)]
        rw [if_neg (by decide), if_neg (by decide)]
        exact (rblock_bad2 a b c w ha hb hc).mono fun e w' ⟨q1, q2⟩ => ⟨none, 0, none, 0, q1, lst_zero _ _ _, lst_zero _ _ _, q2⟩
      | true =>
        rw [if_pos (show (true && true && true) = true from rfl)]
        exact (rblock_row a b c w ha hb hc).mono fun _ _ h => meshN_of h
theorem octa_any (r : Int) (w : World) :
    Calls Try.prog 55 #[.int .i64 r] w (MeshN (if (if szB r then vcode ⟨6, 8, (octP r), octF⟩ else 1) = 0 then 6 else 0) (if (if szB r then vcode ⟨6, 8, (octP r), octF⟩ else 1) = 0 then 8 else 0) (octP r) octF (if szB r then vcode ⟨6, 8, (octP r), octF⟩ else 1) w) := by
  cases hr : szB r with
  | false =>
    rw [if_neg (show ¬ (false) = true by simp)]
    rw [if_neg (by decide), if_neg (by decide)]
    exact (octa_bad0 r w hr).mono fun e w' ⟨q1, q2⟩ => ⟨none, 0, none, 0, q1, lst_zero _ _ _, lst_zero _ _ _, q2⟩
  | true =>
    rw [if_pos (show (true) = true from rfl)]
    exact (octa_row r w hr).mono fun _ _ h => meshN_of h
theorem rocta_any (r : Int) (w : World) :
    Calls Try.prog 56 #[.int .i64 r] w (MeshN (if (if szB r then vcode ⟨6, 8, (octP r), octF⟩ else 1) = 0 then 6 else 0) (if (if szB r then vcode ⟨6, 8, (octP r), octF⟩ else 1) = 0 then 8 else 0) (octP r) octF (if szB r then vcode ⟨6, 8, (octP r), octF⟩ else 1) w) := by
  cases hr : szB r with
  | false =>
    rw [if_neg (show ¬ (false) = true by simp)]
    rw [if_neg (by decide), if_neg (by decide)]
    exact (rocta_bad0 r w hr).mono fun e w' ⟨q1, q2⟩ => ⟨none, 0, none, 0, q1, lst_zero _ _ _, lst_zero _ _ _, q2⟩
  | true =>
    rw [if_pos (show (true) = true from rfl)]
    exact (rocta_row r w hr).mono fun _ _ h => meshN_of h
theorem makes_walk (a b c : Int) (w : World) :
    Calls Try.prog 11 #[.int .i64 a, .int .i64 b, .int .i64 c] w fun e w' => e = .returned (.bool true) ∧ Below w.heap.size w w' :=
  makes_walk0 a b c _ _ _ _ _ _ _ _ _ _ w (Lib.hid fun W => block_any a b c W) (Lib.hid fun W => rblock_any a b c W) (Lib.hid fun W => octa_any a W) (Lib.hid fun W => rocta_any a W) (Lib.hid fun W => known_any2 W) (ite_le (by decide) (by decide)) (ite_le (by decide) (by decide)) (ite_le (by decide) (by decide)) (ite_le (by decide) (by decide))

end Go.Proofs.Ytcphdlcglaopjaa
