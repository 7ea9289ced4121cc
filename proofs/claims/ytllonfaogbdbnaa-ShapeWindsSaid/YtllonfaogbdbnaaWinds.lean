/-
  The contract of the document's Winding whole, and the law ShapeWinds: for every mesh and point it answers true.
-/
import Derived.Test.YtllonfaogbdbnaaWi8
namespace Go.Proofs.Ytllonfaogbdbnaa
open Go.ChangeShapes Go.WideShapes Go.RowKit
open Sh
theorem rwn_any (a : Option Addr) (np c : Nat) (a' : Option Addr) (nf c' : Nat) (p : P3) (P F : Nat → P3) (w : World) (rp : Lst w a np P) (rf : Lst w a' nf F) (hn : np ≤ 1000000) (hm : nf ≤ 1000000) : Calls Try.prog 11 #[msv a np c a' nf c', ptv p] w fun e w' => e = .returned (.tuple #[.int .i64 (wnR (vcode ⟨np, nf, P, F⟩) (Tr P F) p nf).1, .int .i64 (wnR (vcode ⟨np, nf, P, F⟩) (Tr P F) p nf).2]) ∧ Below w.heap.size w w' := by
  have AC := fun W (B : Below w.heap.size w W) => as_any a np c a' nf c' p P F W (lst_below rp B) (lst_below rf B) hn hm
  unfold wnR
  by_cases z : acode (vcode ⟨np, nf, P, F⟩) p = 0
  · obtain ⟨zc, k⟩ := acode_rows z
    obtain ⟨h1, h2, h3, h4, h5, h6⟩ := vcode_rows zc
    obtain ⟨b', off', rfl, rF⟩ := rf h3
    obtain ⟨b, off, rfl, rP⟩ := rp h1
    have OC := fun W (B : Below w.heap.size w W) => ron_row b off np c b' off' nf c' p P F W (row3_below rP B) (row3_below rF B) (by omega) h4 h5 h6 (inP_iff.1 k)
    rw [z] at AC
    rw [if_pos z]
    cases o : onB (Tr P F) p nf with
    | true =>
      rw [o] at OC
      rw [if_pos rfl]
      exact rwn_9 _ np c _ nf c' p w (Lib.hid AC) (Lib.hid OC)
    | false =>
      rw [o] at OC
      rw [if_neg Bool.false_ne_true]
      exact rwn_row b off np c b' off' nf c' p P F w (Lib.hid AC) (Lib.hid OC) rP rF hn h4 h5 h6 (inP_iff.1 k)
  · rw [if_neg z]
    exact rwn_c a np c a' nf c' p _ w (Lib.hid AC) (bne_iff_ne.2 z)
theorem winds_long (a : Option Addr) (np c : Nat) (a' : Option Addr) (nf c' : Nat) (p : P3) (w : World) (hL : Hid (∀ W, Calls Try.prog 6 #[msv a np c a' nf c'] W fun e' w' => e' = .returned (.bool true) ∧ Below W.heap.size W w')) (hK : Hid (∀ W, Calls Try.prog 7 #[] W fun e' w' => e' = .returned (.bool true) ∧ Below W.heap.size W w')) : Calls Try.prog 3 #[msv a np c a' nf c', ptv p] w fun e w' => e = .returned (.bool true) ∧ Below w.heap.size w w' := by
  go_enter Try.func3, Try.ntmps3
  go_wp2_with fail
  refine (hL.out _).mono ?_
  rintro e w1 ⟨rfl, hb1⟩
  go_wp2_with fail
  refine (hK.out _).mono ?_
  rintro e w2 ⟨rfl, hb2⟩
  go_wp2
  go_ret
  exact ⟨rfl, by (repeat' (first | exact Below.refl _ _ | refine bstep ?_ hb1 | refine bstep ?_ hb2 | refine Below.setCell ?_ (by simp <;> omega) _ | refine balloc ?_ _ | refine Below.drew ?_ | refine bdrewN ?_ _))⟩
set_option maxRecDepth 100000 in
set_option maxHeartbeats 4000000 in
theorem winds_walk0 (a : Option Addr) (np c : Nat) (a' : Option Addr) (nf c' : Nat) (p : P3) (o : Bool) (e1 n e2 : Int) (w : World) (hL : Hid (∀ W, Calls Try.prog 6 #[msv a np c a' nf c'] W fun e' w' => e' = .returned (.bool false) ∧ Below W.heap.size W w')) (C1 : Hid (∀ W, Below w.heap.size w W → Calls Try.prog 8 #[msv a np c a' nf c', ptv p] W fun e' w' => e' = .returned (.tuple #[.bool o, .int .i64 e1]) ∧ Below W.heap.size W w')) (C2 : Hid (∀ W, Below w.heap.size w W → Calls Try.prog 9 #[msv a np c a' nf c', ptv p] W fun e' w' => e' = .returned (.tuple #[.bool o, .int .i64 e1]) ∧ Below W.heap.size W w')) (C3 : Hid (∀ W, Below w.heap.size w W → Calls Try.prog 10 #[msv a np c a' nf c', ptv p] W fun e' w' => e' = .returned (.tuple #[.int .i64 n, .int .i64 e2]) ∧ Below W.heap.size W w')) (C4 : Hid (∀ W, Below w.heap.size w W → Calls Try.prog 11 #[msv a np c a' nf c', ptv p] W fun e' w' => e' = .returned (.tuple #[.int .i64 n, .int .i64 e2]) ∧ Below W.heap.size W w')) (hK : Hid (∀ W, Calls Try.prog 7 #[] W fun e' w' => e' = .returned (.bool true) ∧ Below W.heap.size W w')) : Calls Try.prog 3 #[msv a np c a' nf c', ptv p] w fun e w' => e = .returned (.bool true) ∧ Below w.heap.size w w' := by
  have XM0 := Lib.hid (mes_alloc (mes_new w a np c a' nf c' 25) (ptc p 27))
  have XP0 := Lib.hid (by have z := own_new (w.alloc (msc a np c a' nf c' 25)) p 27; simp only [World.size_alloc] at z; exact z : Own ((w.alloc (msc a np c a' nf c' 25)).alloc (ptc p 27)) (w.heap.size + 1) p)
  go_enter Try.func3, Try.ntmps3
  go_wp2_with fail
  refine (hL.out _).mono ?_
  rintro e w1 ⟨rfl, hb1⟩
  have XM := Lib.hid (mes_below XM0.out hb1)
  have XP := Lib.hid (own_below XP0.out hb1)
  have B1 := Lib.hid (bstep (balloc (balloc (Below.refl _ w) _) _) hb1)
  clear hb1 XM0 XP0
  obtain ⟨m1, m2, m3⟩ := XM.out
  have XP' := XP.out
  obtain ⟨q1, q2, q3, q4, q5, q6, q7⟩ := XP'
  go_wp2_with fail
  refine (C1.out _ B1.out).mono ?_
  rintro e w2 ⟨rfl, hb2⟩
  clear m1 m2 m3
  clear q1 q2 q3 q4 q5 q6 q7
  have XM := Lib.hid (mes_below XM.out hb2)
  have XP := Lib.hid (own_below XP.out hb2)
  have B2 := Lib.hid (bstep B1.out hb2)
  clear hb2
  obtain ⟨m1, m2, m3⟩ := XM.out
  have XP' := XP.out
  obtain ⟨q1, q2, q3, q4, q5, q6, q7⟩ := XP'
  go_wp2_with fail
  refine (C2.out _ B2.out).mono ?_
  rintro e w3 ⟨rfl, hb3⟩
  clear m1 m2 m3
  clear q1 q2 q3 q4 q5 q6 q7
  have XM := Lib.hid (mes_below XM.out hb3)
  have XP := Lib.hid (own_below XP.out hb3)
  have B3 := Lib.hid (bstep B2.out hb3)
  clear hb3
  obtain ⟨m1, m2, m3⟩ := XM.out
  have XP' := XP.out
  obtain ⟨q1, q2, q3, q4, q5, q6, q7⟩ := XP'
  go_wp2_with fail
  refine (C3.out _ B3.out).mono ?_
  rintro e w4 ⟨rfl, hb4⟩
  clear m1 m2 m3
  clear q1 q2 q3 q4 q5 q6 q7
  have XM := Lib.hid (mes_below XM.out hb4)
  have XP := Lib.hid (own_below XP.out hb4)
  have B4 := Lib.hid (bstep B3.out hb4)
  clear hb4
  obtain ⟨m1, m2, m3⟩ := XM.out
  have XP' := XP.out
  obtain ⟨q1, q2, q3, q4, q5, q6, q7⟩ := XP'
  go_wp2_with fail
  refine (C4.out _ B4.out).mono ?_
  rintro e w5 ⟨rfl, hb5⟩
  clear m1 m2 m3
  clear q1 q2 q3 q4 q5 q6 q7
  have XM := Lib.hid (mes_below XM.out hb5)
  have XP := Lib.hid (own_below XP.out hb5)
  have B5 := Lib.hid (bstep B4.out hb5)
  clear hb5
  go_wp2_with fail
  refine (hK.out _).mono ?_
  rintro e w6 ⟨rfl, hb6⟩
  have B6 := Lib.hid (bstep B5.out hb6)
  clear hb6
  go_wp2
  go_ret
  exact ⟨rfl, B6.out⟩
theorem winds_walk (a : Option Addr) (np c : Nat) (P : Nat → P3) (a' : Option Addr) (nf c' : Nat) (F : Nat → P3) (p : P3) (w : World) (l : np ≤ maxLen) (k : nf ≤ maxLen) (rp : Lst w a np P) (rf : Lst w a' nf F) :
    Calls Try.prog 3 #[msv a np c a' nf c', ptv p] w fun e w' => e = .returned (.bool true) ∧ Below w.heap.size w w' := by
  unfold maxLen at l k
  have L := fun W => long_any a np c a' nf c' W (by omega) (by omega)
  by_cases g : 200 < np ∨ 300 < nf
  · rw [decide_eq_true g] at L
    exact winds_long a np c a' nf c' p w (Lib.hid L) (Lib.hid fun W => known_any2 W)
  · rw [decide_eq_false g] at L
    exact winds_walk0 a np c a' nf c' p _ _ _ _ w (Lib.hid L)
      (Lib.hid fun W B => on_any a np c a' nf c' p P F W (lst_below rp B) (lst_below rf B) (by omega) (by omega))
      (Lib.hid fun W B => ron_any a np c a' nf c' p P F W (lst_below rp B) (lst_below rf B) (by omega) (by omega))
      (Lib.hid fun W B => wn_any a np c a' nf c' p P F W (lst_below rp B) (lst_below rf B) (by omega) (by omega))
      (Lib.hid fun W B => rwn_any a np c a' nf c' p P F W (lst_below rp B) (lst_below rf B) (by omega) (by omega))
      (Lib.hid fun W => known_any2 W)

end Go.Proofs.Ytllonfaogbdbnaa
