/-
  The law ShapeTurns: for every mesh it answers true.
-/
import Derived.Test.YtfpenkgkcjpknaaTurnsA
import Derived.Test.YtfpenkgkcjpknaaValsW
namespace Go.Proofs.Ytfpenkgkcjpknaa
open Go.ChangeShapes Go.WideShapes Go.RowKit
open Sh
theorem ite_le4 {p : Prop} [Decidable p] {a b m : Nat} (ha : a ≤ m) (hb : b ≤ m) : (if p then a else b) ≤ m := by split <;> assumption
theorem turns_long (a : Option Addr) (np c : Nat) (a' : Option Addr) (nf c' : Nat) (w : World) (hL : Hid (∀ W, Calls Try.prog 6 #[msv a np c a' nf c'] W fun e' w' => e' = .returned (.bool true) ∧ Below W.heap.size W w')) (hK : Hid (∀ W, Calls Try.prog 7 #[] W fun e' w' => e' = .returned (.bool true) ∧ Below W.heap.size W w')) : Calls Try.prog 3 #[msv a np c a' nf c'] w fun e w' => e = .returned (.bool true) ∧ Below w.heap.size w w' := by
  go_enter Try.func3, Try.ntmps3
  go_wp2_with fail
  refine (hL.out _).mono ?_
  rintro e w1 ⟨rfl, hb1⟩
  go_wp2_with fail
  refine (hK.out _).mono ?_
  rintro e w2 ⟨rfl, hb2⟩
  go_wp2
  go_ret
  exact ⟨rfl, by (repeat' (first | exact Below.refl _ _ | refine bstep ?_ hb2 | refine bstep ?_ hb1 | refine Below.setCell ?_ (by simp <;> omega) _ | refine balloc ?_ _ | refine Below.drew ?_ | refine bdrewN ?_ _))⟩
set_option maxRecDepth 100000 in
set_option maxHeartbeats 4000000 in
theorem turns_no (a : Option Addr) (np c : Nat) (a' : Option Addr) (nf c' : Nat) (P F h g G : Nat → P3) (N NF : Nat) (v : Int) (w : World) (hL : Hid (∀ W, Calls Try.prog 6 #[msv a np c a' nf c'] W fun e' w' => e' = .returned (.bool false) ∧ Below W.heap.size W w')) (h1 : Hid (∀ W, Below w.heap.size w W → Calls Try.prog 8 #[msv a np c a' nf c'] W (MeshN N NF h F v W))) (h2 : Hid (∀ W, Below w.heap.size w W → Calls Try.prog 9 #[msv a np c a' nf c'] W (MeshN N NF h F v W))) (h3 : Hid (∀ W, Below w.heap.size w W → Calls Try.prog 10 #[msv a np c a' nf c'] W (MeshN N NF g G v W))) (h4 : Hid (∀ W, Below w.heap.size w W → Calls Try.prog 11 #[msv a np c a' nf c'] W (MeshN N NF g G v W))) (hK : Hid (∀ W, Calls Try.prog 7 #[] W fun e' w' => e' = .returned (.bool true) ∧ Below W.heap.size W w')) (rp : Lst w a np P) (rf : Lst w a' nf F) (n1 : N ≤ 1000000) (n2 : NF ≤ 1000000) (z : v ≠ 0) : Calls Try.prog 3 #[msv a np c a' nf c'] w fun e w' => e = .returned (.bool true) ∧ Below w.heap.size w w' := by
  have L1 := Lib.hid n1
  have L2 := Lib.hid n2
  have RP := Lib.hid rp
  have RF := Lib.hid rf
  have z1 := int_ne0 z
  clear n1 n2 rp rf z
  go_enter Try.func3, Try.ntmps3
  go_wp2_with fail
  refine (hL.out _).mono ?_
  rintro e w0 ⟨rfl, hb0⟩
  have M0 := Lib.hid (mes_below (mes_new w a np c a' nf c' 25) hb0)
  have B0 := Lib.hid (bstep (balloc (Below.refl _ w) _) hb0)
  clear hb0
  obtain ⟨p0, q0, r0⟩ := M0.out
  go_wp2_with fail
  refine (h1.out _ B0.out).mono ?_
  rintro e w1 ⟨a1, c1, a1', c1', rfl, l, l', hb⟩
  clear p0 q0 r0
  have Lp1 := Lib.hid (lst_below l ((Below.refl _ _).alloc (Nat.le_refl _) (msc a1 N c1 a1' NF c1' 25)))
  have Lf1 := Lib.hid (lst_below l' ((Below.refl _ _).alloc (Nat.le_refl _) (msc a1 N c1 a1' NF c1' 25)))
  have X1 := Lib.hid (mes_new w1 a1 N c1 a1' NF c1' 25)
  have M0 := Lib.hid (mes_alloc (mes_below M0.out hb) (msc a1 N c1 a1' NF c1' 25))
  have B1 := Lib.hid (balloc (bstep B0.out hb) (msc a1 N c1 a1' NF c1' 25))
  clear l l' hb
  obtain ⟨p0, q0, r0⟩ := M0.out
  go_wp2_with fail
  refine (h2.out _ B1.out).mono ?_
  rintro e w2 ⟨a2, c2, a2', c2', rfl, l, l', hb⟩
  clear p0 q0 r0
  have Lp2 := Lib.hid (lst_below l ((Below.refl _ _).alloc (Nat.le_refl _) (msc a2 N c2 a2' NF c2' 25)))
  have Lf2 := Lib.hid (lst_below l' ((Below.refl _ _).alloc (Nat.le_refl _) (msc a2 N c2 a2' NF c2' 25)))
  have X2 := Lib.hid (mes_new w2 a2 N c2 a2' NF c2' 25)
  have M0 := Lib.hid (mes_alloc (mes_below M0.out hb) (msc a2 N c2 a2' NF c2' 25))
  have B2 := Lib.hid (balloc (bstep B1.out hb) (msc a2 N c2 a2' NF c2' 25))
  have Lp1 := Lib.hid (lst_below (lst_below Lp1.out hb) ((Below.refl _ _).alloc (Nat.le_refl _) (msc a2 N c2 a2' NF c2' 25)))
  have Lf1 := Lib.hid (lst_below (lst_below Lf1.out hb) ((Below.refl _ _).alloc (Nat.le_refl _) (msc a2 N c2 a2' NF c2' 25)))
  have X1 := Lib.hid (mes_alloc (mes_below X1.out hb) (msc a2 N c2 a2' NF c2' 25))
  clear l l' hb
  obtain ⟨p0, q0, r0⟩ := M0.out
  go_wp2_with fail
  refine (h3.out _ B2.out).mono ?_
  rintro e w3 ⟨a3, c3, a3', c3', rfl, l, l', hb⟩
  clear p0 q0 r0
  have Lp3 := Lib.hid (lst_below l ((Below.refl _ _).alloc (Nat.le_refl _) (msc a3 N c3 a3' NF c3' 25)))
  have Lf3 := Lib.hid (lst_below l' ((Below.refl _ _).alloc (Nat.le_refl _) (msc a3 N c3 a3' NF c3' 25)))
  have X3 := Lib.hid (mes_new w3 a3 N c3 a3' NF c3' 25)
  have M0 := Lib.hid (mes_alloc (mes_below M0.out hb) (msc a3 N c3 a3' NF c3' 25))
  have B3 := Lib.hid (balloc (bstep B2.out hb) (msc a3 N c3 a3' NF c3' 25))
  have Lp1 := Lib.hid (lst_below (lst_below Lp1.out hb) ((Below.refl _ _).alloc (Nat.le_refl _) (msc a3 N c3 a3' NF c3' 25)))
  have Lf1 := Lib.hid (lst_below (lst_below Lf1.out hb) ((Below.refl _ _).alloc (Nat.le_refl _) (msc a3 N c3 a3' NF c3' 25)))
  have X1 := Lib.hid (mes_alloc (mes_below X1.out hb) (msc a3 N c3 a3' NF c3' 25))
  have Lp2 := Lib.hid (lst_below (lst_below Lp2.out hb) ((Below.refl _ _).alloc (Nat.le_refl _) (msc a3 N c3 a3' NF c3' 25)))
  have Lf2 := Lib.hid (lst_below (lst_below Lf2.out hb) ((Below.refl _ _).alloc (Nat.le_refl _) (msc a3 N c3 a3' NF c3' 25)))
  have X2 := Lib.hid (mes_alloc (mes_below X2.out hb) (msc a3 N c3 a3' NF c3' 25))
  clear l l' hb
  obtain ⟨p0, q0, r0⟩ := M0.out
  go_wp2_with fail
  refine (h4.out _ B3.out).mono ?_
  rintro e w4 ⟨a4, c4, a4', c4', rfl, l, l', hb⟩
  clear p0 q0 r0
  have Lp4 := Lib.hid (lst_below l ((Below.refl _ _).alloc (Nat.le_refl _) (msc a4 N c4 a4' NF c4' 25)))
  have Lf4 := Lib.hid (lst_below l' ((Below.refl _ _).alloc (Nat.le_refl _) (msc a4 N c4 a4' NF c4' 25)))
  have X4 := Lib.hid (mes_new w4 a4 N c4 a4' NF c4' 25)
  have M0 := Lib.hid (mes_alloc (mes_below M0.out hb) (msc a4 N c4 a4' NF c4' 25))
  have B4 := Lib.hid (balloc (bstep B3.out hb) (msc a4 N c4 a4' NF c4' 25))
  have Lp1 := Lib.hid (lst_below (lst_below Lp1.out hb) ((Below.refl _ _).alloc (Nat.le_refl _) (msc a4 N c4 a4' NF c4' 25)))
  have Lf1 := Lib.hid (lst_below (lst_below Lf1.out hb) ((Below.refl _ _).alloc (Nat.le_refl _) (msc a4 N c4 a4' NF c4' 25)))
  have X1 := Lib.hid (mes_alloc (mes_below X1.out hb) (msc a4 N c4 a4' NF c4' 25))
  have Lp2 := Lib.hid (lst_below (lst_below Lp2.out hb) ((Below.refl _ _).alloc (Nat.le_refl _) (msc a4 N c4 a4' NF c4' 25)))
  have Lf2 := Lib.hid (lst_below (lst_below Lf2.out hb) ((Below.refl _ _).alloc (Nat.le_refl _) (msc a4 N c4 a4' NF c4' 25)))
  have X2 := Lib.hid (mes_alloc (mes_below X2.out hb) (msc a4 N c4 a4' NF c4' 25))
  have Lp3 := Lib.hid (lst_below (lst_below Lp3.out hb) ((Below.refl _ _).alloc (Nat.le_refl _) (msc a4 N c4 a4' NF c4' 25)))
  have Lf3 := Lib.hid (lst_below (lst_below Lf3.out hb) ((Below.refl _ _).alloc (Nat.le_refl _) (msc a4 N c4 a4' NF c4' 25)))
  have X3 := Lib.hid (mes_alloc (mes_below X3.out hb) (msc a4 N c4 a4' NF c4' 25))
  clear l l' hb
  obtain ⟨p1, q1, r1⟩ := X1.out
  obtain ⟨p2, q2, r2⟩ := X2.out
  go_wp2_with fail
  refine (same_any a1 N c1 a1' NF c1' a2 c2 a2' c2' h F _ Lp1.out Lp2.out Lf1.out Lf2.out L1.out L2.out).mono ?_
  rintro e w5 ⟨rfl, hb⟩
  clear p1 q1 r1 p2 q2 r2
  have Lp1 := Lib.hid (lst_below Lp1.out hb)
  have Lf1 := Lib.hid (lst_below Lf1.out hb)
  have X1 := Lib.hid (mes_below X1.out hb)
  have Lp3 := Lib.hid (lst_below Lp3.out hb)
  have Lf3 := Lib.hid (lst_below Lf3.out hb)
  have X3 := Lib.hid (mes_below X3.out hb)
  have Lp4 := Lib.hid (lst_below Lp4.out hb)
  have Lf4 := Lib.hid (lst_below Lf4.out hb)
  have X4 := Lib.hid (mes_below X4.out hb)
  have M0 := Lib.hid (mes_below M0.out hb)
  have B5 := Lib.hid (bstep B4.out hb)
  clear hb
  obtain ⟨p3, q3, r3⟩ := X3.out
  obtain ⟨p4, q4, r4⟩ := X4.out
  go_wp2_with fail
  refine (same_any a3 N c3 a3' NF c3' a4 c4 a4' c4' g G _ Lp3.out Lp4.out Lf3.out Lf4.out L1.out L2.out).mono ?_
  rintro e w6 ⟨rfl, hb⟩
  clear p3 q3 r3 p4 q4 r4
  have Lp1 := Lib.hid (lst_below Lp1.out hb)
  have Lf1 := Lib.hid (lst_below Lf1.out hb)
  have X1 := Lib.hid (mes_below X1.out hb)
  have Lp3 := Lib.hid (lst_below Lp3.out hb)
  have Lf3 := Lib.hid (lst_below Lf3.out hb)
  have X3 := Lib.hid (mes_below X3.out hb)
  have M0 := Lib.hid (mes_below M0.out hb)
  have B6 := Lib.hid (bstep B5.out hb)
  clear hb
  go_wp2_with fail
  refine (hK.out _).mono ?_
  rintro e w7 ⟨rfl, hb⟩
  have B7 := Lib.hid (bstep B6.out hb)
  clear hb
  go_wp2
  go_ret
  exact ⟨rfl, B7.out⟩
set_option maxRecDepth 100000 in
set_option maxHeartbeats 4000000 in
theorem turns_ok (a : Option Addr) (np c : Nat) (a' : Option Addr) (nf c' : Nat) (P F h hb hc g G : Nat → P3) (w : World) (hL : Hid (∀ W, Calls Try.prog 6 #[msv a np c a' nf c'] W fun e' w' => e' = .returned (.bool false) ∧ Below W.heap.size W w')) (h1 : Hid (∀ W, Below w.heap.size w W → Calls Try.prog 8 #[msv a np c a' nf c'] W (MeshN np nf h F 0 W))) (h2 : Hid (∀ W, Below w.heap.size w W → Calls Try.prog 9 #[msv a np c a' nf c'] W (MeshN np nf h F 0 W))) (h3 : Hid (∀ W, Below w.heap.size w W → Calls Try.prog 10 #[msv a np c a' nf c'] W (MeshN np nf g G 0 W))) (h4 : Hid (∀ W, Below w.heap.size w W → Calls Try.prog 11 #[msv a np c a' nf c'] W (MeshN np nf g G 0 W))) (k0 : Hid (∀ a c a' c' W, Lst W a np h → Lst W a' nf F → Calls Try.prog 8 #[msv a np c a' nf c'] W (MeshN np nf hb F 0 W))) (k1 : Hid (∀ a c a' c' W, Lst W a np hb → Lst W a' nf F → Calls Try.prog 8 #[msv a np c a' nf c'] W (MeshN np nf hc F 0 W))) (k2 : Hid (∀ a c a' c' W, Lst W a np hc → Lst W a' nf F → Calls Try.prog 8 #[msv a np c a' nf c'] W (MeshN np nf P F 0 W))) (k3 : Hid (∀ a c a' c' W, Lst W a np g → Lst W a' nf G → Calls Try.prog 10 #[msv a np c a' nf c'] W (MeshN np nf P F 0 W))) (hK : Hid (∀ W, Calls Try.prog 7 #[] W fun e' w' => e' = .returned (.bool true) ∧ Below W.heap.size W w')) (rp : Lst w a np P) (rf : Lst w a' nf F) (n1 : np ≤ 1000000) (n2 : nf ≤ 1000000) : Calls Try.prog 3 #[msv a np c a' nf c'] w fun e w' => e = .returned (.bool true) ∧ Below w.heap.size w w' := by
  have L1 := Lib.hid n1
  have L2 := Lib.hid n2
  have RP := Lib.hid rp
  have RF := Lib.hid rf
  clear n1 n2 rp rf
  go_enter Try.func3, Try.ntmps3
  go_wp2_with fail
  refine (hL.out _).mono ?_
  rintro e w0 ⟨rfl, hb0⟩
  have M0 := Lib.hid (mes_below (mes_new w a np c a' nf c' 25) hb0)
  have B0 := Lib.hid (bstep (balloc (Below.refl _ w) _) hb0)
  clear hb0
  obtain ⟨p0, q0, r0⟩ := M0.out
  go_wp2_with fail
  refine (h1.out _ B0.out).mono ?_
  rintro e w1 ⟨a1, c1, a1', c1', rfl, l, l', hb⟩
  clear p0 q0 r0
  have Lp1 := Lib.hid (lst_below l ((Below.refl _ _).alloc (Nat.le_refl _) (msc a1 np c1 a1' nf c1' 25)))
  have Lf1 := Lib.hid (lst_below l' ((Below.refl _ _).alloc (Nat.le_refl _) (msc a1 np c1 a1' nf c1' 25)))
  have X1 := Lib.hid (mes_new w1 a1 np c1 a1' nf c1' 25)
  have M0 := Lib.hid (mes_alloc (mes_below M0.out hb) (msc a1 np c1 a1' nf c1' 25))
  have B1 := Lib.hid (balloc (bstep B0.out hb) (msc a1 np c1 a1' nf c1' 25))
  clear l l' hb
  obtain ⟨p0, q0, r0⟩ := M0.out
  go_wp2_with fail
  refine (h2.out _ B1.out).mono ?_
  rintro e w2 ⟨a2, c2, a2', c2', rfl, l, l', hb⟩
  clear p0 q0 r0
  have Lp2 := Lib.hid (lst_below l ((Below.refl _ _).alloc (Nat.le_refl _) (msc a2 np c2 a2' nf c2' 25)))
  have Lf2 := Lib.hid (lst_below l' ((Below.refl _ _).alloc (Nat.le_refl _) (msc a2 np c2 a2' nf c2' 25)))
  have X2 := Lib.hid (mes_new w2 a2 np c2 a2' nf c2' 25)
  have M0 := Lib.hid (mes_alloc (mes_below M0.out hb) (msc a2 np c2 a2' nf c2' 25))
  have B2 := Lib.hid (balloc (bstep B1.out hb) (msc a2 np c2 a2' nf c2' 25))
  have Lp1 := Lib.hid (lst_below (lst_below Lp1.out hb) ((Below.refl _ _).alloc (Nat.le_refl _) (msc a2 np c2 a2' nf c2' 25)))
  have Lf1 := Lib.hid (lst_below (lst_below Lf1.out hb) ((Below.refl _ _).alloc (Nat.le_refl _) (msc a2 np c2 a2' nf c2' 25)))
  have X1 := Lib.hid (mes_alloc (mes_below X1.out hb) (msc a2 np c2 a2' nf c2' 25))
  clear l l' hb
  obtain ⟨p0, q0, r0⟩ := M0.out
  go_wp2_with fail
  refine (h3.out _ B2.out).mono ?_
  rintro e w3 ⟨a3, c3, a3', c3', rfl, l, l', hb⟩
  clear p0 q0 r0
  have Lp3 := Lib.hid (lst_below l ((Below.refl _ _).alloc (Nat.le_refl _) (msc a3 np c3 a3' nf c3' 25)))
  have Lf3 := Lib.hid (lst_below l' ((Below.refl _ _).alloc (Nat.le_refl _) (msc a3 np c3 a3' nf c3' 25)))
  have X3 := Lib.hid (mes_new w3 a3 np c3 a3' nf c3' 25)
  have M0 := Lib.hid (mes_alloc (mes_below M0.out hb) (msc a3 np c3 a3' nf c3' 25))
  have B3 := Lib.hid (balloc (bstep B2.out hb) (msc a3 np c3 a3' nf c3' 25))
  have Lp1 := Lib.hid (lst_below (lst_below Lp1.out hb) ((Below.refl _ _).alloc (Nat.le_refl _) (msc a3 np c3 a3' nf c3' 25)))
  have Lf1 := Lib.hid (lst_below (lst_below Lf1.out hb) ((Below.refl _ _).alloc (Nat.le_refl _) (msc a3 np c3 a3' nf c3' 25)))
  have X1 := Lib.hid (mes_alloc (mes_below X1.out hb) (msc a3 np c3 a3' nf c3' 25))
  have Lp2 := Lib.hid (lst_below (lst_below Lp2.out hb) ((Below.refl _ _).alloc (Nat.le_refl _) (msc a3 np c3 a3' nf c3' 25)))
  have Lf2 := Lib.hid (lst_below (lst_below Lf2.out hb) ((Below.refl _ _).alloc (Nat.le_refl _) (msc a3 np c3 a3' nf c3' 25)))
  have X2 := Lib.hid (mes_alloc (mes_below X2.out hb) (msc a3 np c3 a3' nf c3' 25))
  clear l l' hb
  obtain ⟨p0, q0, r0⟩ := M0.out
  go_wp2_with fail
  refine (h4.out _ B3.out).mono ?_
  rintro e w4 ⟨a4, c4, a4', c4', rfl, l, l', hb⟩
  clear p0 q0 r0
  have Lp4 := Lib.hid (lst_below l ((Below.refl _ _).alloc (Nat.le_refl _) (msc a4 np c4 a4' nf c4' 25)))
  have Lf4 := Lib.hid (lst_below l' ((Below.refl _ _).alloc (Nat.le_refl _) (msc a4 np c4 a4' nf c4' 25)))
  have X4 := Lib.hid (mes_new w4 a4 np c4 a4' nf c4' 25)
  have M0 := Lib.hid (mes_alloc (mes_below M0.out hb) (msc a4 np c4 a4' nf c4' 25))
  have B4 := Lib.hid (balloc (bstep B3.out hb) (msc a4 np c4 a4' nf c4' 25))
  have Lp1 := Lib.hid (lst_below (lst_below Lp1.out hb) ((Below.refl _ _).alloc (Nat.le_refl _) (msc a4 np c4 a4' nf c4' 25)))
  have Lf1 := Lib.hid (lst_below (lst_below Lf1.out hb) ((Below.refl _ _).alloc (Nat.le_refl _) (msc a4 np c4 a4' nf c4' 25)))
  have X1 := Lib.hid (mes_alloc (mes_below X1.out hb) (msc a4 np c4 a4' nf c4' 25))
  have Lp2 := Lib.hid (lst_below (lst_below Lp2.out hb) ((Below.refl _ _).alloc (Nat.le_refl _) (msc a4 np c4 a4' nf c4' 25)))
  have Lf2 := Lib.hid (lst_below (lst_below Lf2.out hb) ((Below.refl _ _).alloc (Nat.le_refl _) (msc a4 np c4 a4' nf c4' 25)))
  have X2 := Lib.hid (mes_alloc (mes_below X2.out hb) (msc a4 np c4 a4' nf c4' 25))
  have Lp3 := Lib.hid (lst_below (lst_below Lp3.out hb) ((Below.refl _ _).alloc (Nat.le_refl _) (msc a4 np c4 a4' nf c4' 25)))
  have Lf3 := Lib.hid (lst_below (lst_below Lf3.out hb) ((Below.refl _ _).alloc (Nat.le_refl _) (msc a4 np c4 a4' nf c4' 25)))
  have X3 := Lib.hid (mes_alloc (mes_below X3.out hb) (msc a4 np c4 a4' nf c4' 25))
  clear l l' hb
  obtain ⟨p1, q1, r1⟩ := X1.out
  obtain ⟨p2, q2, r2⟩ := X2.out
  go_wp2_with fail
  refine (same_any a1 np c1 a1' nf c1' a2 c2 a2' c2' h F _ Lp1.out Lp2.out Lf1.out Lf2.out L1.out L2.out).mono ?_
  rintro e w5 ⟨rfl, hb⟩
  clear p1 q1 r1 p2 q2 r2
  have Lp1 := Lib.hid (lst_below Lp1.out hb)
  have Lf1 := Lib.hid (lst_below Lf1.out hb)
  have X1 := Lib.hid (mes_below X1.out hb)
  have Lp3 := Lib.hid (lst_below Lp3.out hb)
  have Lf3 := Lib.hid (lst_below Lf3.out hb)
  have X3 := Lib.hid (mes_below X3.out hb)
  have Lp4 := Lib.hid (lst_below Lp4.out hb)
  have Lf4 := Lib.hid (lst_below Lf4.out hb)
  have X4 := Lib.hid (mes_below X4.out hb)
  have M0 := Lib.hid (mes_below M0.out hb)
  have B5 := Lib.hid (bstep B4.out hb)
  clear hb
  obtain ⟨p3, q3, r3⟩ := X3.out
  obtain ⟨p4, q4, r4⟩ := X4.out
  go_wp2_with fail
  refine (same_any a3 np c3 a3' nf c3' a4 c4 a4' c4' g G _ Lp3.out Lp4.out Lf3.out Lf4.out L1.out L2.out).mono ?_
  rintro e w6 ⟨rfl, hb⟩
  clear p3 q3 r3 p4 q4 r4
  have Lp1 := Lib.hid (lst_below Lp1.out hb)
  have Lf1 := Lib.hid (lst_below Lf1.out hb)
  have X1 := Lib.hid (mes_below X1.out hb)
  have Lp3 := Lib.hid (lst_below Lp3.out hb)
  have Lf3 := Lib.hid (lst_below Lf3.out hb)
  have X3 := Lib.hid (mes_below X3.out hb)
  have M0 := Lib.hid (mes_below M0.out hb)
  have B6 := Lib.hid (bstep B5.out hb)
  clear hb
  obtain ⟨p0, q0, r0⟩ := X1.out
  go_wp2_with fail
  refine (k0.out a1 c1 a1' c1' _ Lp1.out Lf1.out).mono ?_
  rintro e w7 ⟨a7, c7, a7', c7', rfl, l, l', hb⟩
  clear p0 q0 r0
  have Lp7 := Lib.hid (lst_below l ((Below.refl _ _).alloc (Nat.le_refl _) (msc a7 np c7 a7' nf c7' 25)))
  have Lf7 := Lib.hid (lst_below l' ((Below.refl _ _).alloc (Nat.le_refl _) (msc a7 np c7 a7' nf c7' 25)))
  have X7 := Lib.hid (mes_new w7 a7 np c7 a7' nf c7' 25)
  have M0 := Lib.hid (mes_alloc (mes_below M0.out hb) (msc a7 np c7 a7' nf c7' 25))
  have B7 := Lib.hid (balloc (bstep B6.out hb) (msc a7 np c7 a7' nf c7' 25))
  have Lp3 := Lib.hid (lst_below (lst_below Lp3.out hb) ((Below.refl _ _).alloc (Nat.le_refl _) (msc a7 np c7 a7' nf c7' 25)))
  have Lf3 := Lib.hid (lst_below (lst_below Lf3.out hb) ((Below.refl _ _).alloc (Nat.le_refl _) (msc a7 np c7 a7' nf c7' 25)))
  have X3 := Lib.hid (mes_alloc (mes_below X3.out hb) (msc a7 np c7 a7' nf c7' 25))
  clear l l' hb
  obtain ⟨p0, q0, r0⟩ := X7.out
  go_wp2_with fail
  refine (k1.out a7 c7 a7' c7' _ Lp7.out Lf7.out).mono ?_
  rintro e w8 ⟨a8, c8, a8', c8', rfl, l, l', hb⟩
  clear p0 q0 r0
  have Lp8 := Lib.hid (lst_below l ((Below.refl _ _).alloc (Nat.le_refl _) (msc a8 np c8 a8' nf c8' 25)))
  have Lf8 := Lib.hid (lst_below l' ((Below.refl _ _).alloc (Nat.le_refl _) (msc a8 np c8 a8' nf c8' 25)))
  have X8 := Lib.hid (mes_new w8 a8 np c8 a8' nf c8' 25)
  have M0 := Lib.hid (mes_alloc (mes_below M0.out hb) (msc a8 np c8 a8' nf c8' 25))
  have B8 := Lib.hid (balloc (bstep B7.out hb) (msc a8 np c8 a8' nf c8' 25))
  have Lp3 := Lib.hid (lst_below (lst_below Lp3.out hb) ((Below.refl _ _).alloc (Nat.le_refl _) (msc a8 np c8 a8' nf c8' 25)))
  have Lf3 := Lib.hid (lst_below (lst_below Lf3.out hb) ((Below.refl _ _).alloc (Nat.le_refl _) (msc a8 np c8 a8' nf c8' 25)))
  have X3 := Lib.hid (mes_alloc (mes_below X3.out hb) (msc a8 np c8 a8' nf c8' 25))
  clear l l' hb
  obtain ⟨p0, q0, r0⟩ := X8.out
  go_wp2_with fail
  refine (k2.out a8 c8 a8' c8' _ Lp8.out Lf8.out).mono ?_
  rintro e w9 ⟨a9, c9, a9', c9', rfl, l, l', hb⟩
  clear p0 q0 r0
  have Lp9 := Lib.hid (lst_below l ((Below.refl _ _).alloc (Nat.le_refl _) (msc a9 np c9 a9' nf c9' 25)))
  have Lf9 := Lib.hid (lst_below l' ((Below.refl _ _).alloc (Nat.le_refl _) (msc a9 np c9 a9' nf c9' 25)))
  have X9 := Lib.hid (mes_new w9 a9 np c9 a9' nf c9' 25)
  have M0 := Lib.hid (mes_alloc (mes_below M0.out hb) (msc a9 np c9 a9' nf c9' 25))
  have B9 := Lib.hid (balloc (bstep B8.out hb) (msc a9 np c9 a9' nf c9' 25))
  have Lp3 := Lib.hid (lst_below (lst_below Lp3.out hb) ((Below.refl _ _).alloc (Nat.le_refl _) (msc a9 np c9 a9' nf c9' 25)))
  have Lf3 := Lib.hid (lst_below (lst_below Lf3.out hb) ((Below.refl _ _).alloc (Nat.le_refl _) (msc a9 np c9 a9' nf c9' 25)))
  have X3 := Lib.hid (mes_alloc (mes_below X3.out hb) (msc a9 np c9 a9' nf c9' 25))
  clear l l' hb
  obtain ⟨p0, q0, r0⟩ := X3.out
  go_wp2_with fail
  refine (k3.out a3 c3 a3' c3' _ Lp3.out Lf3.out).mono ?_
  rintro e w10 ⟨a10, c10, a10', c10', rfl, l, l', hb⟩
  clear p0 q0 r0
  have Lp10 := Lib.hid (lst_below l ((Below.refl _ _).alloc (Nat.le_refl _) (msc a10 np c10 a10' nf c10' 25)))
  have Lf10 := Lib.hid (lst_below l' ((Below.refl _ _).alloc (Nat.le_refl _) (msc a10 np c10 a10' nf c10' 25)))
  have X10 := Lib.hid (mes_new w10 a10 np c10 a10' nf c10' 25)
  have M0 := Lib.hid (mes_alloc (mes_below M0.out hb) (msc a10 np c10 a10' nf c10' 25))
  have B10 := Lib.hid (balloc (bstep B9.out hb) (msc a10 np c10 a10' nf c10' 25))
  have Lp9 := Lib.hid (lst_below (lst_below Lp9.out hb) ((Below.refl _ _).alloc (Nat.le_refl _) (msc a10 np c10 a10' nf c10' 25)))
  have Lf9 := Lib.hid (lst_below (lst_below Lf9.out hb) ((Below.refl _ _).alloc (Nat.le_refl _) (msc a10 np c10 a10' nf c10' 25)))
  have X9 := Lib.hid (mes_alloc (mes_below X9.out hb) (msc a10 np c10 a10' nf c10' 25))
  clear l l' hb
  obtain ⟨p1, q1, r1⟩ := X9.out
  obtain ⟨p0, q0, r0⟩ := M0.out
  go_wp2_with fail
  refine (same_any a9 np c9 a9' nf c9' a c a' c' P F _ Lp9.out (lst_below RP.out B10.out) Lf9.out (lst_below RF.out B10.out) L1.out L2.out).mono ?_
  rintro e w11 ⟨rfl, hb⟩
  clear p1 q1 r1 p0 q0 r0
  have Lp10 := Lib.hid (lst_below Lp10.out hb)
  have Lf10 := Lib.hid (lst_below Lf10.out hb)
  have X10 := Lib.hid (mes_below X10.out hb)
  have M0 := Lib.hid (mes_below M0.out hb)
  have B11 := Lib.hid (bstep B10.out hb)
  clear hb
  obtain ⟨p1, q1, r1⟩ := X10.out
  obtain ⟨p0, q0, r0⟩ := M0.out
  go_wp2_with fail
  refine (same_any a10 np c10 a10' nf c10' a c a' c' P F _ Lp10.out (lst_below RP.out B11.out) Lf10.out (lst_below RF.out B11.out) L1.out L2.out).mono ?_
  rintro e w12 ⟨rfl, hb⟩
  clear p1 q1 r1 p0 q0 r0
  have B12 := Lib.hid (bstep B11.out hb)
  clear hb
  go_wp2_with fail
  refine (hK.out _).mono ?_
  rintro e w13 ⟨rfl, hb⟩
  have B13 := Lib.hid (bstep B12.out hb)
  clear hb
  go_wp2
  go_ret
  exact ⟨rfl, B13.out⟩
theorem turns_walk (a : Option Addr) (np c : Nat) (P : Nat → P3) (a' : Option Addr) (nf c' : Nat) (F : Nat → P3) (w : World) (l : np ≤ maxLen) (k : nf ≤ maxLen) (rp : Lst w a np P) (rf : Lst w a' nf F) :
    Calls Try.prog 3 #[msv a np c a' nf c'] w fun e w' => e = .returned (.bool true) ∧ Below w.heap.size w w' := by
  unfold maxLen at l k
  have L := fun W => long_any a np c a' nf c' W (by omega) (by omega)
  by_cases g : 200 < np ∨ 300 < nf
  · rw [decide_eq_true g] at L
    exact turns_long a np c a' nf c' w (Lib.hid L) (Lib.hid fun W => known_any2 W)
  · rw [decide_eq_false g] at L
    have hn : np ≤ 1000000 := by omega
    have hm : nf ≤ 1000000 := by omega
    have t1 := fun W (B : Below w.heap.size w W) => sturn_any a np c a' nf c' P F W (lst_below rp B) (lst_below rf B) hn hm
    have t2 := fun W (B : Below w.heap.size w W) => rturn_any a np c a' nf c' P F W (lst_below rp B) (lst_below rf B) hn hm
    have t3 := fun W (B : Below w.heap.size w W) => smirror_any a np c a' nf c' P F W (lst_below rp B) (lst_below rf B) hn hm
    have t4 := fun W (B : Below w.heap.size w W) => rmirror_any a np c a' nf c' P F W (lst_below rp B) (lst_below rf B) hn hm
    by_cases z : vcode ⟨np, nf, P, F⟩ = 0
    · rw [z] at t1 t2 t3 t4
      have v1 : vcode ⟨np, nf, fun k => tuP (P k), F⟩ = 0 := (vcode_tu np nf P F).trans z
      have v2 : vcode ⟨np, nf, fun k => tuP (tuP (P k)), F⟩ = 0 := (vcode_tu np nf (fun k => tuP (P k)) F).trans v1
      have v3 : vcode ⟨np, nf, fun k => tuP (tuP (tuP (P k))), F⟩ = 0 := (vcode_tu np nf (fun k => tuP (tuP (P k))) F).trans v2
      have v4 : vcode ⟨np, nf, fun k => miP (P k), fun k => swF (F k)⟩ = 0 := (vcode_mi np nf P F).trans z
      refine turns_ok a np c a' nf c' P F (fun k => tuP (P k)) (fun k => tuP (tuP (P k))) (fun k => tuP (tuP (tuP (P k)))) (fun k => miP (P k)) (fun k => swF (F k)) w (Lib.hid L) (Lib.hid t1) (Lib.hid t2) (Lib.hid t3) (Lib.hid t4)
        (Lib.hid fun a c a' c' W rp rf => ?_) (Lib.hid fun a c a' c' W rp rf => ?_) (Lib.hid fun a c a' c' W rp rf => ?_) (Lib.hid fun a c a' c' W rp rf => ?_) (Lib.hid fun W => known_any2 W) rp rf hn hm
      · have q := sturn_any a np c a' nf c' _ F W rp rf hn hm
        rw [v1] at q
        exact q
      · have q := sturn_any a np c a' nf c' _ F W rp rf hn hm
        rw [v2] at q
        exact q
      · have q := sturn_any a np c a' nf c' _ F W rp rf hn hm
        rw [v3, show (fun k => tuP (tuP (tuP (tuP (P k))))) = P from funext fun k => tuP_four (P k)] at q
        exact q
      · have q := smirror_any a np c a' nf c' _ _ W rp rf hn hm
        rw [v4, show (fun k => miP (miP (P k))) = P from funext fun k => miP_two (P k), show (fun k => swF (swF (F k))) = F from funext fun k => swF_two (F k)] at q
        exact q
    · exact turns_no a np c a' nf c' P F _ _ _ _ _ _ w (Lib.hid L) (Lib.hid t1) (Lib.hid t2) (Lib.hid t3) (Lib.hid t4) (Lib.hid fun W => known_any2 W) rp rf (ite_le4 hn (by omega)) (ite_le4 hm (by omega)) z

end Go.Proofs.Ytfpenkgkcjpknaa
