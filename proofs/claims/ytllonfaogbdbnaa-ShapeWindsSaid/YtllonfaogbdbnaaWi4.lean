/-
  The contracts of On and Winding in the program.
-/
import Derived.Test.YtllonfaogbdbnaaWi3
namespace Go.Proofs.Ytllonfaogbdbnaa
open Go.ChangeShapes Go.WideShapes Go.RowKit
open Sh
/-- a triangle seen from p: has it the origin, how is it crossed -/
def hasP (p : P3) (t : P3 × P3 × P3) : Bool := hasT (sub t.1 p) (sub t.2.1 p) (sub t.2.2 p)
def croP (p : P3) (t : P3 × P3 × P3) : Int := croT (sub t.1 p) (sub t.2.1 p) (sub t.2.2 p)
def onB (T : Nat → P3 × P3 × P3) (p : P3) : Nat → Bool
  | 0 => false
  | k + 1 => onB T p k || hasP p (T k)
theorem onB_hit {T : Nat → P3 × P3 × P3} {p : P3} {k n : Nat} (h : k < n) (q : hasP p (T k) = true) : onB T p n = true := by
  induction n with
  | zero => omega
  | succ n ih =>
    show (onB T p n || hasP p (T n)) = true
    by_cases e : k = n
    · subst e; rw [q, Bool.or_true]
    · rw [ih (by omega), Bool.true_or]
def wnB (T : Nat → P3 × P3 × P3) (p : P3) : Nat → Int
  | 0 => 0
  | k + 1 => wnB T p k + croP p (T k)
theorem sg_bd (x : Int) : -1 ≤ sg x ∧ sg x ≤ 1 := by
  unfold sg Lib.compareInt
  split
  · omega
  · split <;> omega
theorem croP_bd (p : P3) (t : P3 × P3 × P3) : -1 ≤ croP p t ∧ croP p t ≤ 1 := by
  unfold croP croT crB
  split
  · exact sg_bd _
  · omega
theorem wnB_bd (T : Nat → P3 × P3 × P3) (p : P3) (n : Nat) : -(n : Int) ≤ wnB T p n ∧ wnB T p n ≤ n := by
  induction n with
  | zero => simp [wnB]
  | succ n ih =>
    have := croP_bd p (T n)
    show _ ≤ wnB T p n + croP p (T n) ∧ wnB T p n + croP p (T n) ≤ _
    omega
/-- the error of a mesh and a point -/
def acode (c : Int) (p : P3) : Int := if c = 0 then (if inP 256 p then 0 else 1) else c
theorem acode_0 {c : Int} {p : P3} (h : c = 0) (k : inP 256 p = true) : acode c p = 0 := by unfold acode; rw [if_pos h, if_pos k]
theorem acode_1 {c : Int} {p : P3} (h : c = 0) (k : inP 256 p = false) : acode c p = 1 := by unfold acode; rw [if_pos h, if_neg (by rw [k]; exact Bool.false_ne_true)]
theorem acode_c {c : Int} {p : P3} (h : c ≠ 0) : acode c p = c := by unfold acode; rw [if_neg h]
theorem on_c (a : Option Addr) (np c : Nat) (a' : Option Addr) (nf c' : Nat) (p : P3) (code : Int) (w : World) (V : Hid (∀ W, Below w.heap.size w W → Calls Try.prog 31 #[msv a np c a' nf c'] W fun e w' => e = .returned (.int .i64 code) ∧ Below W.heap.size W w')) (z : (code != 0) = true) : Calls Try.prog 8 #[msv a np c a' nf c', ptv p] w fun e w' => e = .returned (.tuple #[.bool false, .int .i64 code]) ∧ Below w.heap.size w w' := by
  go_enter Try.func8, Try.ntmps8
  go_wp2_with fail
  refine (V.out _ (by (repeat' (first | exact Below.refl _ _ | refine Below.setCell ?_ (by simp <;> omega) _ | refine balloc ?_ _ | refine Below.drew ?_ | refine bdrewN ?_ _)))).mono ?_
  rintro e w1 ⟨rfl, hb1⟩
  have XM := Lib.hid (mes_below (mes_alloc (mes_new w a np c a' nf c' 25) (ptc p 27)) hb1)
  have XP := Lib.hid (by have z := own_below (own_new (w.alloc (msc a np c a' nf c' 25)) p 27) hb1; simp only [World.size_alloc] at z; exact z : Own w1 (w.heap.size + 1) p)
  have B1 := Lib.hid (bstep (balloc (balloc (Below.refl _ w) _) _) hb1)
  clear hb1
  go_wp2
  go_ret2
  exact ⟨rfl, B1.out⟩
theorem on_1 (a : Option Addr) (np c : Nat) (a' : Option Addr) (nf c' : Nat) (p : P3) (w : World) (V : Hid (∀ W, Below w.heap.size w W → Calls Try.prog 31 #[msv a np c a' nf c'] W fun e w' => e = .returned (.int .i64 0) ∧ Below W.heap.size W w')) (WC : Hid (∀ W, Calls Try.prog 32 #[ptv p, .int .i64 256] W fun e w' => e = .returned (.bool false) ∧ Below W.heap.size W w')) : Calls Try.prog 8 #[msv a np c a' nf c', ptv p] w fun e w' => e = .returned (.tuple #[.bool false, .int .i64 1]) ∧ Below w.heap.size w w' := by
  go_enter Try.func8, Try.ntmps8
  go_wp2_with fail
  refine (V.out _ (by (repeat' (first | exact Below.refl _ _ | refine Below.setCell ?_ (by simp <;> omega) _ | refine balloc ?_ _ | refine Below.drew ?_ | refine bdrewN ?_ _)))).mono ?_
  rintro e w1 ⟨rfl, hb1⟩
  have XM := Lib.hid (mes_below (mes_alloc (mes_new w a np c a' nf c' 25) (ptc p 27)) hb1)
  have XP := Lib.hid (by have z := own_below (own_new (w.alloc (msc a np c a' nf c' 25)) p 27) hb1; simp only [World.size_alloc] at z; exact z : Own w1 (w.heap.size + 1) p)
  have B1 := Lib.hid (bstep (balloc (balloc (Below.refl _ w) _) _) hb1)
  clear hb1
  have XP' := XP.out
  obtain ⟨q1, q2, q3, q4, q5, q6, q7⟩ := XP'
  go_wp2_with fail
  refine (WC.out _).mono ?_
  rintro e w2 ⟨rfl, hb2⟩
  clear q1 q2 q3 q4 q5 q6 q7
  have B2 := bstep B1.out hb2
  go_wp2
  go_ret2
  exact ⟨rfl, B2⟩
set_option maxRecDepth 100000 in
set_option maxHeartbeats 2000000 in
theorem on_ok (a : Option Addr) (np c : Nat) (a' : Option Addr) (nf c' : Nat) (p : P3) (T : Nat → P3 × P3 × P3) (w : World) (V : Hid (∀ W, Below w.heap.size w W → Calls Try.prog 31 #[msv a np c a' nf c'] W fun e w' => e = .returned (.int .i64 0) ∧ Below W.heap.size W w')) (WC : Hid (∀ W, Calls Try.prog 32 #[ptv p, .int .i64 256] W fun e w' => e = .returned (.bool true) ∧ Below W.heap.size W w')) (PC : Hid (∀ W, Below w.heap.size w W → Calls Try.prog 33 #[msv a np c a' nf c'] W (Paneled T nf W))) (hm : nf ≤ 96) (tb : ∀ k, k < nf → BdP 64 (T k).1 ∧ BdP 64 (T k).2.1 ∧ BdP 64 (T k).2.2) (hp : BdP 256 p) :
    Calls Try.prog 8 #[msv a np c a' nf c', ptv p] w fun e w' => e = .returned (.tuple #[.bool (onB T p nf), .int .i64 0]) ∧ Below w.heap.size w w' := by
  have TB := Lib.hid tb
  have HP := Lib.hid hp
  have hm' : (nf : Int) ≤ 96 := by omega
  clear tb hp
  go_enter Try.func8, Try.ntmps8
  go_wp2_with fail
  refine (V.out _ (by (repeat' (first | exact Below.refl _ _ | refine Below.setCell ?_ (by simp <;> omega) _ | refine balloc ?_ _ | refine Below.drew ?_ | refine bdrewN ?_ _)))).mono ?_
  rintro e w1 ⟨rfl, hb1⟩
  have XM := Lib.hid (mes_below (mes_alloc (mes_new w a np c a' nf c' 25) (ptc p 27)) hb1)
  have XP := Lib.hid (by have z := own_below (own_new (w.alloc (msc a np c a' nf c' 25)) p 27) hb1; simp only [World.size_alloc] at z; exact z : Own w1 (w.heap.size + 1) p)
  have B1 := Lib.hid (bstep (balloc (balloc (Below.refl _ w) _) _) hb1)
  clear hb1
  have XP' := XP.out
  obtain ⟨q1, q2, q3, q4, q5, q6, q7⟩ := XP'
  go_wp2_with fail
  refine (WC.out _).mono ?_
  rintro e w2 ⟨rfl, hb2⟩
  clear q1 q2 q3 q4 q5 q6 q7
  have XM := Lib.hid (mes_below XM.out hb2)
  have XP := Lib.hid (own_below XP.out hb2)
  have B2 := Lib.hid (bstep B1.out hb2)
  clear hb2
  obtain ⟨m1, m2, m3⟩ := XM.out
  go_wp2_with fail
  refine (PC.out _ B2.out).mono ?_
  rintro e w3 ⟨g, cap, rfl, hg, r9, hb3⟩
  clear m1 m2 m3
  have ST := Lib.hid (show onB T p 0 = false ∧ Own w3 (w.heap.size + 1) p ∧ Row9 w3 g nf T ∧ Below w.heap.size w w3 from ⟨rfl, own_below XP.out hb3, r9, bstep B2.out hb3⟩)
  clear hb3 hg r9 XM XP B1 B2
  go_wp2
  go_loopw [20] (fun kv wr => ∃ k : Nat, k ≤ nf ∧ kv = .int .i64 k ∧ onB T p k = false ∧ Own wr (w.heap.size + 1) p ∧ Row9 wr g nf T ∧ Below w.heap.size w wr) (fun kv _ => nf - (intOf kv).toNat)
  case atStart => exact ⟨0, Nat.zero_le _, rfl, ST.out⟩
  case round =>
    clear ST
    obtain ⟨k, hk, rfl, of, xp, rr, bb⟩ := hrel
    have OF := Lib.hid of
    have XP := Lib.hid xp
    have RR := Lib.hid rr
    have BB := Lib.hid bb
    clear of xp rr bb
    by_cases hlt : k < nf
    · obtain ⟨c1, c2, c3, c4, c5, c6, c7, c8, c9⟩ := RR.out.2 k hlt
      have r5 := RR.out.1
      have hk1 : (k : Int) < (nf : Int) := by omega
      have t := TB.out k hlt
      have HIT := Lib.hid (fun q => onB_hit (T := T) (p := p) hlt q)
      have NX := Lib.hid (show onB T p (k + 1) = (onB T p k || hasP p (T k)) from rfl)
      have SE := Lib.hid fun W => seen_any (T k).1 (T k).2.1 (T k).2.2 p W (t.1.mono (by decide)) (t.2.1.mono (by decide)) (t.2.2.mono (by decide)) (HP.out.mono (by decide))
      have HE := Lib.hid fun W => has_any (sub (T k).1 p) (sub (T k).2.1 p) (sub (T k).2.2 p) W (sub_bd t.1 HP.out) (sub_bd t.2.1 HP.out) (sub_bd t.2.2 HP.out)
      have e0 : hasT (sub (T k).1 p) (sub (T k).2.1 p) (sub (T k).2.2 p) = hasP p (T k) := rfl
      rw [e0] at HE
      clear e0 t
      generalize hasP p (T k) = hb at *
      generalize (T k).1 = x at *
      generalize (T k).2.1 = y at *
      generalize (T k).2.2 = z at *
      have XP' := XP.out
      obtain ⟨q1, q2, q3, q4, q5, q6, q7⟩ := XP'
      go_wp2_with fail
      refine (SE.out _).mono ?_
      rintro e w4 ⟨rfl, hb4⟩
      clear c1 c2 c3 c4 c5 c6 c7 c8 c9 r5 q1 q2 q3 q4 q5 q6 q7
      have B4 := Lib.hid (bstep (balloc BB.out (pnc x y z 77)) hb4)
      have XP4 := Lib.hid (own_below (own_alloc XP.out (pnc x y z 77)) hb4)
      have RR4 := Lib.hid (row9_below (row9_below RR.out ((Below.refl _ _).alloc (Nat.le_refl _) (pnc x y z 77))) hb4)
      clear hb4
      go_wp2_with fail
      refine (HE.out _).mono ?_
      rintro e w5 ⟨rfl, hb5⟩
      have B5 := Lib.hid (bstep B4.out hb5)
      have XP5 := Lib.hid (own_below XP4.out hb5)
      have RR5 := Lib.hid (row9_below RR4.out hb5)
      clear hb5
      cases hb with
      | true =>
        have E := Lib.hid (HIT.out rfl)
        go_wp2
        go_ret2
        exact ⟨by rw [E.out]; rfl, B5.out⟩
      | false =>
        go_wp2
        go_roundw
        case rel => exact ⟨k + 1, by omega, by go_num, by rw [NX.out, OF.out]; rfl, XP5.out, RR5.out, B5.out⟩
        case measure => simp [intOf]; omega
    · obtain rfl : k = nf := by omega
      go_wp2
      go_ret2
      exact ⟨by rw [OF.out]; rfl, BB.out⟩
theorem on_any (a : Option Addr) (np c : Nat) (a' : Option Addr) (nf c' : Nat) (p : P3) (P F : Nat → P3) (w : World) (rp : Lst w a np P) (rf : Lst w a' nf F) (hn : np ≤ 1000000) (hm : nf ≤ 1000000) : Calls Try.prog 8 #[msv a np c a' nf c', ptv p] w fun e w' => e = .returned (.tuple #[.bool (if acode (vcode ⟨np, nf, P, F⟩) p = 0 then onB (Tr P F) p nf else false), .int .i64 (acode (vcode ⟨np, nf, P, F⟩) p)]) ∧ Below w.heap.size w w' := by
  have V := fun W (B : Below w.heap.size w W) => val_any a np c a' nf c' P F W (lst_below rp B) (lst_below rf B) hn hm
  have WC := fun W => within_any p 256 W (by decide) (by decide)
  by_cases z : vcode ⟨np, nf, P, F⟩ = 0
  · obtain ⟨h1, h2, h3, h4, h5, h6⟩ := vcode_rows z
    obtain ⟨b', off', rfl, rF⟩ := rf h3
    obtain ⟨b, off, rfl, rP⟩ := rp h1
    rw [z] at V
    cases k : inP 256 p with
    | false =>
      rw [k] at WC
      rw [acode_1 z k, if_neg (by decide)]
      exact on_1 _ np c _ nf c' p w (Lib.hid V) (Lib.hid WC)
    | true =>
      rw [k] at WC
      rw [acode_0 z k, if_pos rfl]
      exact on_ok _ np c _ nf c' p (Tr P F) w (Lib.hid V) (Lib.hid WC) (Lib.hid fun W B => panels_row b off np c b' off' nf c' P F W (row3_below rP B) (row3_below rF B) (by omega) (by omega) h3 h5) h4 h6 (inP_iff.1 k)
  · rw [acode_c z, if_neg z]
    exact on_c a np c a' nf c' p _ w (Lib.hid V) (bne_iff_ne.2 z)
theorem wn_c (a : Option Addr) (np c : Nat) (a' : Option Addr) (nf c' : Nat) (p : P3) (b : Bool) (code : Int) (w : World) (OC : Hid (∀ W, Below w.heap.size w W → Calls Try.prog 8 #[msv a np c a' nf c', ptv p] W fun e w' => e = .returned (.tuple #[.bool b, .int .i64 code]) ∧ Below W.heap.size W w')) (z : (code != 0) = true) : Calls Try.prog 10 #[msv a np c a' nf c', ptv p] w fun e w' => e = .returned (.tuple #[.int .i64 0, .int .i64 code]) ∧ Below w.heap.size w w' := by
  have XM0 := Lib.hid (mes_alloc (mes_new w a np c a' nf c' 25) (ptc p 27))
  have XP0 := Lib.hid (by have z := own_new (w.alloc (msc a np c a' nf c' 25)) p 27; simp only [World.size_alloc] at z; exact z : Own ((w.alloc (msc a np c a' nf c' 25)).alloc (ptc p 27)) (w.heap.size + 1) p)
  go_enter Try.func10, Try.ntmps10
  go_wp2_with fail
  refine (OC.out _ (by (repeat' (first | exact Below.refl _ _ | refine Below.setCell ?_ (by simp <;> omega) _ | refine balloc ?_ _ | refine Below.drew ?_ | refine bdrewN ?_ _)))).mono ?_
  rintro e w1 ⟨rfl, hb1⟩
  have XM := Lib.hid (mes_below XM0.out hb1)
  have XP := Lib.hid (own_below XP0.out hb1)
  have B1 := Lib.hid (bstep (balloc (balloc (Below.refl _ w) _) _) hb1)
  clear hb1 XM0 XP0
  go_wp2
  go_ret2
  exact ⟨rfl, B1.out⟩
theorem wn_9 (a : Option Addr) (np c : Nat) (a' : Option Addr) (nf c' : Nat) (p : P3) (w : World) (OC : Hid (∀ W, Below w.heap.size w W → Calls Try.prog 8 #[msv a np c a' nf c', ptv p] W fun e w' => e = .returned (.tuple #[.bool true, .int .i64 0]) ∧ Below W.heap.size W w')) : Calls Try.prog 10 #[msv a np c a' nf c', ptv p] w fun e w' => e = .returned (.tuple #[.int .i64 0, .int .i64 9]) ∧ Below w.heap.size w w' := by
  have XM0 := Lib.hid (mes_alloc (mes_new w a np c a' nf c' 25) (ptc p 27))
  have XP0 := Lib.hid (by have z := own_new (w.alloc (msc a np c a' nf c' 25)) p 27; simp only [World.size_alloc] at z; exact z : Own ((w.alloc (msc a np c a' nf c' 25)).alloc (ptc p 27)) (w.heap.size + 1) p)
  go_enter Try.func10, Try.ntmps10
  go_wp2_with fail
  refine (OC.out _ (by (repeat' (first | exact Below.refl _ _ | refine Below.setCell ?_ (by simp <;> omega) _ | refine balloc ?_ _ | refine Below.drew ?_ | refine bdrewN ?_ _)))).mono ?_
  rintro e w1 ⟨rfl, hb1⟩
  have XM := Lib.hid (mes_below XM0.out hb1)
  have XP := Lib.hid (own_below XP0.out hb1)
  have B1 := Lib.hid (bstep (balloc (balloc (Below.refl _ w) _) _) hb1)
  clear hb1 XM0 XP0
  go_wp2
  go_ret2
  exact ⟨rfl, B1.out⟩
set_option maxRecDepth 100000 in
set_option maxHeartbeats 2000000 in
theorem wn_ok (a : Option Addr) (np c : Nat) (a' : Option Addr) (nf c' : Nat) (p : P3) (T : Nat → P3 × P3 × P3) (w : World) (OC : Hid (∀ W, Below w.heap.size w W → Calls Try.prog 8 #[msv a np c a' nf c', ptv p] W fun e w' => e = .returned (.tuple #[.bool false, .int .i64 0]) ∧ Below W.heap.size W w')) (PC : Hid (∀ W, Below w.heap.size w W → Calls Try.prog 33 #[msv a np c a' nf c'] W (Paneled T nf W))) (hm : nf ≤ 96) (tb : ∀ k, k < nf → BdP 64 (T k).1 ∧ BdP 64 (T k).2.1 ∧ BdP 64 (T k).2.2) (hp : BdP 256 p) :
    Calls Try.prog 10 #[msv a np c a' nf c', ptv p] w fun e w' => e = .returned (.tuple #[.int .i64 (wnB T p nf), .int .i64 0]) ∧ Below w.heap.size w w' := by
  have TB := Lib.hid tb
  have HP := Lib.hid hp
  have hm' : (nf : Int) ≤ 96 := by omega
  clear tb hp
  have XM0 := Lib.hid (mes_alloc (mes_new w a np c a' nf c' 25) (ptc p 27))
  have XP0 := Lib.hid (by have z := own_new (w.alloc (msc a np c a' nf c' 25)) p 27; simp only [World.size_alloc] at z; exact z : Own ((w.alloc (msc a np c a' nf c' 25)).alloc (ptc p 27)) (w.heap.size + 1) p)
  go_enter Try.func10, Try.ntmps10
  go_wp2_with fail
  refine (OC.out _ (by (repeat' (first | exact Below.refl _ _ | refine Below.setCell ?_ (by simp <;> omega) _ | refine balloc ?_ _ | refine Below.drew ?_ | refine bdrewN ?_ _)))).mono ?_
  rintro e w1 ⟨rfl, hb1⟩
  have XM := Lib.hid (mes_below XM0.out hb1)
  have XP := Lib.hid (own_below XP0.out hb1)
  have B1 := Lib.hid (bstep (balloc (balloc (Below.refl _ w) _) _) hb1)
  clear hb1 XM0 XP0
  obtain ⟨m1, m2, m3⟩ := XM.out
  go_wp2_with fail
  refine (PC.out _ B1.out).mono ?_
  rintro e w3 ⟨g, cap, rfl, hg, r9, hb3⟩
  clear m1 m2 m3
  have ST := Lib.hid (show Own w3 (w.heap.size + 1) p ∧ Row9 w3 g nf T ∧ Below w.heap.size w w3 from ⟨own_below XP.out hb3, r9, bstep B1.out hb3⟩)
  clear hb3 hg r9 XM XP B1
  go_wp2
  go_loopw [8, 24] (fun sv kv wr => ∃ k : Nat, k ≤ nf ∧ kv = .int .i64 k ∧ sv = .int .i64 (wnB T p k) ∧ Own wr (w.heap.size + 1) p ∧ Row9 wr g nf T ∧ Below w.heap.size w wr) (fun _ kv _ => nf - (intOf kv).toNat)
  case atStart => exact ⟨0, Nat.zero_le _, by first | rfl | trivial, by first | rfl | trivial, ST.out⟩
  case round =>
    clear ST
    obtain ⟨k, hk, rfl, rfl, xp, rr, bb⟩ := hrel
    have XP := Lib.hid xp
    have RR := Lib.hid rr
    have BB := Lib.hid bb
    clear xp rr bb
    by_cases hlt : k < nf
    · obtain ⟨c1, c2, c3, c4, c5, c6, c7, c8, c9⟩ := RR.out.2 k hlt
      have r5 := RR.out.1
      have hk1 : (k : Int) < (nf : Int) := by omega
      have t := TB.out k hlt
      have wb := wnB_bd T p k
      have cb := croP_bd p (T k)
      have NX := Lib.hid (show wnB T p (k + 1) = wnB T p k + croP p (T k) from rfl)
      have SE := Lib.hid fun W => seen_any (T k).1 (T k).2.1 (T k).2.2 p W (t.1.mono (by decide)) (t.2.1.mono (by decide)) (t.2.2.mono (by decide)) (HP.out.mono (by decide))
      have HE := Lib.hid fun W => cro_any (sub (T k).1 p) (sub (T k).2.1 p) (sub (T k).2.2 p) W (sub_bd t.1 HP.out) (sub_bd t.2.1 HP.out) (sub_bd t.2.2 HP.out)
      have e0 : croT (sub (T k).1 p) (sub (T k).2.1 p) (sub (T k).2.2 p) = croP p (T k) := rfl
      rw [e0] at HE
      clear e0 t
      generalize croP p (T k) = cv at *
      generalize wnB T p k = sm at *
      generalize (T k).1 = x at *
      generalize (T k).2.1 = y at *
      generalize (T k).2.2 = z at *
      have XP' := XP.out
      obtain ⟨q1, q2, q3, q4, q5, q6, q7⟩ := XP'
      go_wp2_with fail
      refine (SE.out _).mono ?_
      rintro e w4 ⟨rfl, hb4⟩
      clear c1 c2 c3 c4 c5 c6 c7 c8 c9 r5 q1 q2 q3 q4 q5 q6 q7
      have B4 := Lib.hid (bstep (balloc BB.out (pnc x y z 77)) hb4)
      have XP4 := Lib.hid (own_below (own_alloc XP.out (pnc x y z 77)) hb4)
      have RR4 := Lib.hid (row9_below (row9_below RR.out ((Below.refl _ _).alloc (Nat.le_refl _) (pnc x y z 77))) hb4)
      clear hb4
      go_wp2_with fail
      refine (HE.out _).mono ?_
      rintro e w5 ⟨rfl, hb5⟩
      have B5 := Lib.hid (bstep B4.out hb5)
      have XP5 := Lib.hid (own_below XP4.out hb5)
      have RR5 := Lib.hid (row9_below RR4.out hb5)
      clear hb5
      go_wp2
      go_roundw
      case rel => exact ⟨k + 1, by omega, by go_num, by rw [NX.out], XP5.out, RR5.out, B5.out⟩
      case measure => simp [intOf]; omega
    · obtain rfl : k = nf := by omega
      go_wp2
      go_ret2
      exact ⟨rfl, BB.out⟩
/-- the winding number, and the error -/
def wnR (c : Int) (T : Nat → P3 × P3 × P3) (p : P3) (n : Nat) : Int × Int := if acode c p = 0 then (if onB T p n then (0, 9) else (wnB T p n, 0)) else (0, acode c p)
theorem wn_any (a : Option Addr) (np c : Nat) (a' : Option Addr) (nf c' : Nat) (p : P3) (P F : Nat → P3) (w : World) (rp : Lst w a np P) (rf : Lst w a' nf F) (hn : np ≤ 1000000) (hm : nf ≤ 1000000) : Calls Try.prog 10 #[msv a np c a' nf c', ptv p] w fun e w' => e = .returned (.tuple #[.int .i64 (wnR (vcode ⟨np, nf, P, F⟩) (Tr P F) p nf).1, .int .i64 (wnR (vcode ⟨np, nf, P, F⟩) (Tr P F) p nf).2]) ∧ Below w.heap.size w w' := by
  have OC := fun W (B : Below w.heap.size w W) => on_any a np c a' nf c' p P F W (lst_below rp B) (lst_below rf B) hn hm
  unfold wnR
  by_cases z : acode (vcode ⟨np, nf, P, F⟩) p = 0
  · have zc : vcode ⟨np, nf, P, F⟩ = 0 := by
      unfold acode at z
      by_cases q : vcode ⟨np, nf, P, F⟩ = 0
      · exact q
      · rw [if_neg q] at z; exact absurd z q
    have k : inP 256 p = true := by
      unfold acode at z
      rw [if_pos zc] at z
      cases q : inP 256 p with
      | true => rfl
      | false => rw [q] at z; exact absurd z (by decide)
    obtain ⟨h1, h2, h3, h4, h5, h6⟩ := vcode_rows zc
    obtain ⟨b', off', rfl, rF⟩ := rf h3
    obtain ⟨b, off, rfl, rP⟩ := rp h1
    rw [z, if_pos rfl] at OC
    rw [if_pos z]
    cases o : onB (Tr P F) p nf with
    | true =>
      rw [o] at OC
      rw [if_pos rfl]
      exact wn_9 _ np c _ nf c' p w (Lib.hid OC)
    | false =>
      rw [o] at OC
      rw [if_neg Bool.false_ne_true]
      exact wn_ok _ np c _ nf c' p (Tr P F) w (Lib.hid OC) (Lib.hid fun W B => panels_row b off np c b' off' nf c' P F W (row3_below rP B) (row3_below rF B) (by omega) (by omega) h3 h5) h4 h6 (inP_iff.1 k)
  · rw [if_neg z]
    exact wn_c a np c a' nf c' p _ _ w (Lib.hid OC) (bne_iff_ne.2 z)

end Go.Proofs.Ytllonfaogbdbnaa
