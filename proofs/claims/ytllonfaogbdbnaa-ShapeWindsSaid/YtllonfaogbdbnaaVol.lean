/-
  The contracts of volume6 and validateFace.
-/
import Derived.Test.YtllonfaogbdbnaaPanels
import Derived.Test.YtllonfaogbdbnaaVPanel
namespace Go.Proofs.Ytllonfaogbdbnaa
open Go.ChangeShapes Go.WideShapes Go.RowKit
open Sh
theorem vol_bd {P F : Nat → P3} {n : Nat} (h : ∀ k, k < n → BdP 64 (Tr P F k).1 ∧ BdP 64 (Tr P F k).2.1 ∧ BdP 64 (Tr P F k).2.2) : -((n : Int) * 1572864) ≤ vol P F n ∧ vol P F n ≤ (n : Int) * 1572864 := by
  induction n with
  | zero => simp [vol]
  | succ n ih =>
    have a := ih (fun k hk => h k (by omega))
    have c := h n (by omega)
    have d := det_bd c.1 c.2.1 c.2.2
    show _ ≤ vol P F n + det (Tr P F n).1 (Tr P F n).2.1 (Tr P F n).2.2 ∧ vol P F n + det (Tr P F n).1 (Tr P F n).2.1 (Tr P F n).2.2 ≤ _
    omega
/-- the triangles of the faces lie within the limits -/
def TrB (P F : Nat → P3) (n : Nat) : Prop := ∀ k, k < n → BdP 64 (Tr P F k).1 ∧ BdP 64 (Tr P F k).2.1 ∧ BdP 64 (Tr P F k).2.2
theorem trB_of {P F : Nat → P3} {np nf : Nat} (h : ∀ i, i < np → BdP 64 (P i)) (k : ∀ k, k < nf → Fok np (F k)) : TrB P F nf := by
  intro i hi
  obtain ⟨h1, h2, h3, h4, h5, h6⟩ := k i hi
  exact ⟨h _ (by omega), h _ (by omega), h _ (by omega)⟩
set_option maxRecDepth 100000 in
set_option maxHeartbeats 2000000 in
theorem vol_row (b off np c b' off' nf c' : Nat) (P F : Nat → P3) (w : World) (rp : Row3 w b off np P) (r : Row3 w b' off' nf F) (hn : np ≤ 1000000) (hm : nf ≤ 1000000) (h0 : 0 < nf) (nr : ∀ k, k < nf → Fok np (F k)) (tb : TrB P F nf) :
    Calls Try.prog 75 #[msv (some ⟨b, off, none⟩) np c (some ⟨b', off', none⟩) nf c'] w fun e w' => e = .returned (.int .i64 (vol P F nf)) ∧ Below w.heap.size w w' := by
  have PC := Lib.hid (fun W (B : Below w.heap.size w W) => panels_row b off np c b' off' nf c' P F W (row3_below rp B) (row3_below r B) hn hm h0 nr)
  have TB := Lib.hid tb
  have hm' : (nf : Int) ≤ 1000000 := by omega
  clear rp r nr tb
  go_enter Try.func75, Try.ntmps75
  go_wp2_with fail
  refine (PC.out _ (by (repeat' (first | exact Below.refl _ _ | refine Below.setCell ?_ (by simp <;> omega) _ | refine balloc ?_ _ | refine Below.drew ?_ | refine bdrewN ?_ _)))).mono ?_
  rintro e w1 ⟨g, cap, rfl, hg, r9, bb⟩
  have R9 := Lib.hid r9
  have HG := Lib.hid hg
  have gl := r9.1
  have B1 := Lib.hid (bstep (balloc (Below.refl _ w) _) bb)
  clear r9 hg bb
  go_wp2
  go_loopw [3, 9] (fun sv kv wr => ∃ k : Nat, k ≤ nf ∧ kv = .int .i64 k ∧ sv = .int .i64 (vol P F k) ∧ Below w1.heap.size w1 wr) (fun _ kv _ => nf - (intOf kv).toNat)
  case atStart => exact ⟨0, Nat.zero_le _, rfl, rfl, Below.refl _ _⟩
  case round =>
    obtain ⟨k, hk, rfl, rfl, BB⟩ := hrel
    have B0 := Lib.hid BB
    clear BB
    by_cases hlt : k < nf
    · have r2 := row9_below R9.out B0.out
      obtain ⟨c1, c2, c3, c4, c5, c6, c7, c8, c9⟩ := r2.2 k hlt
      have r5 := r2.1
      clear r2
      have hk1 : (k : Int) < (nf : Int) := by omega
      have T := Lib.hid (TB.out k hlt)
      have vb := vol_bd (P := P) (F := F) (n := k) (fun i hi => TB.out i (by omega))
      have db := det_bd T.out.1 T.out.2.1 T.out.2.2
      have E := Lib.hid (show vol P F (k + 1) = vol P F k + det (Tr P F k).1 (Tr P F k).2.1 (Tr P F k).2.2 from rfl)
      generalize (Tr P F k).1 = p at *
      generalize (Tr P F k).2.1 = q at *
      generalize (Tr P F k).2.2 = s at *
      go_wp2_with fail
      refine (product_any p q s _ (T.out.1.mono (by decide)) (T.out.2.1.mono (by decide)) (T.out.2.2.mono (by decide))).mono ?_
      rintro e w2 ⟨rfl, hb2⟩
      clear c1 c2 c3 c4 c5 c6 c7 c8 c9
      generalize det p q s = d at *
      generalize vol P F k = v at *
      go_wp2
      go_roundw
      case rel => exact ⟨k + 1, by omega, by go_num, by rw [E.out], by have hB := B0.out; (repeat' (first | exact Below.refl _ _ | refine bstep ?_ hb2 | refine bstep ?_ hB | refine Below.setCell ?_ (by simp <;> omega) _ | refine balloc ?_ _ | refine Below.drew ?_ | refine bdrewN ?_ _))⟩
      case measure => simp [intOf]; omega
    · obtain rfl : k = nf := by omega
      go_wp2
      go_ret
      exact ⟨rfl, bstep B1.out B0.out⟩
theorem vf_lo0 (a : Option Addr) (np c : Nat) (a' : Option Addr) (nf c' : Nat) (p : P3) (w : World) (hn : np ≤ 1000000) (n : p.1 < 0) :
    Calls Try.prog 72 #[msv a np c a' nf c', ptv p] w fun e w' => e = .returned (.int .i64 5) ∧ Below w.heap.size w w' := by
  have hn' : (np : Int) ≤ 1000000 := by omega
  have i0 : ∀ w, (Instr.index 112 (.agg #[.int .i64 p.1, .int .i64 p.2.1, .int .i64 p.2.2]) (.int .i64 0)).run Try.prog w = .ok (.int .i64 p.1) w := fun _ => by kernel_rfl
  have i1 : ∀ w, (Instr.index 112 (.agg #[.int .i64 p.1, .int .i64 p.2.1, .int .i64 p.2.2]) (.int .i64 1)).run Try.prog w = .ok (.int .i64 p.2.1) w := fun _ => by kernel_rfl
  have i2 : ∀ w, (Instr.index 112 (.agg #[.int .i64 p.1, .int .i64 p.2.1, .int .i64 p.2.2]) (.int .i64 2)).run Try.prog w = .ok (.int .i64 p.2.2) w := fun _ => by kernel_rfl
  go_enter Try.func72, Try.ntmps72
  go_wp2
  refine wp_loop_rounds 1 ?_
  rw [rounds_succ]
  go_wp2
  go_ret
  exact ⟨rfl, by (repeat' (first | exact Below.refl _ _ | refine Below.setCell ?_ (by simp <;> omega) _ | refine balloc ?_ _ | refine Below.drew ?_ | refine bdrewN ?_ _))⟩
theorem vf_hi0 (a : Option Addr) (np c : Nat) (a' : Option Addr) (nf c' : Nat) (p : P3) (w : World) (hn : np ≤ 1000000) (m : 0 ≤ p.1) (n : (np : Int) ≤ p.1) :
    Calls Try.prog 72 #[msv a np c a' nf c', ptv p] w fun e w' => e = .returned (.int .i64 5) ∧ Below w.heap.size w w' := by
  have hn' : (np : Int) ≤ 1000000 := by omega
  have nl0 : decide (p.1 < 0) = false := decide_eq_false (by omega)
  clear m
  have i0 : ∀ w, (Instr.index 112 (.agg #[.int .i64 p.1, .int .i64 p.2.1, .int .i64 p.2.2]) (.int .i64 0)).run Try.prog w = .ok (.int .i64 p.1) w := fun _ => by kernel_rfl
  have i1 : ∀ w, (Instr.index 112 (.agg #[.int .i64 p.1, .int .i64 p.2.1, .int .i64 p.2.2]) (.int .i64 1)).run Try.prog w = .ok (.int .i64 p.2.1) w := fun _ => by kernel_rfl
  have i2 : ∀ w, (Instr.index 112 (.agg #[.int .i64 p.1, .int .i64 p.2.1, .int .i64 p.2.2]) (.int .i64 2)).run Try.prog w = .ok (.int .i64 p.2.2) w := fun _ => by kernel_rfl
  go_enter Try.func72, Try.ntmps72
  go_wp2
  refine wp_loop_rounds 1 ?_
  rw [rounds_succ]
  go_wp2
  go_ret
  exact ⟨rfl, by (repeat' (first | exact Below.refl _ _ | refine Below.setCell ?_ (by simp <;> omega) _ | refine balloc ?_ _ | refine Below.drew ?_ | refine bdrewN ?_ _))⟩
theorem vf_lo1 (a : Option Addr) (np c : Nat) (a' : Option Addr) (nf c' : Nat) (p : P3) (w : World) (hn : np ≤ 1000000) (l0 : 0 ≤ p.1) (u0 : p.1 < np) (n : p.2.1 < 0) :
    Calls Try.prog 72 #[msv a np c a' nf c', ptv p] w fun e w' => e = .returned (.int .i64 5) ∧ Below w.heap.size w w' := by
  have hn' : (np : Int) ≤ 1000000 := by omega
  have nl0 : decide (p.1 < 0) = false := decide_eq_false (by omega)
  have nu0 : decide ((np : Int) ≤ p.1) = false := decide_eq_false (by omega)
  clear l0 u0
  have i0 : ∀ w, (Instr.index 112 (.agg #[.int .i64 p.1, .int .i64 p.2.1, .int .i64 p.2.2]) (.int .i64 0)).run Try.prog w = .ok (.int .i64 p.1) w := fun _ => by kernel_rfl
  have i1 : ∀ w, (Instr.index 112 (.agg #[.int .i64 p.1, .int .i64 p.2.1, .int .i64 p.2.2]) (.int .i64 1)).run Try.prog w = .ok (.int .i64 p.2.1) w := fun _ => by kernel_rfl
  have i2 : ∀ w, (Instr.index 112 (.agg #[.int .i64 p.1, .int .i64 p.2.1, .int .i64 p.2.2]) (.int .i64 2)).run Try.prog w = .ok (.int .i64 p.2.2) w := fun _ => by kernel_rfl
  go_enter Try.func72, Try.ntmps72
  go_wp2
  refine wp_loop_rounds 2 ?_
  rw [rounds_succ]
  go_wp2
  rw [rounds_succ]
  go_wp2
  go_ret
  exact ⟨rfl, by (repeat' (first | exact Below.refl _ _ | refine Below.setCell ?_ (by simp <;> omega) _ | refine balloc ?_ _ | refine Below.drew ?_ | refine bdrewN ?_ _))⟩
theorem vf_hi1 (a : Option Addr) (np c : Nat) (a' : Option Addr) (nf c' : Nat) (p : P3) (w : World) (hn : np ≤ 1000000) (l0 : 0 ≤ p.1) (u0 : p.1 < np) (m : 0 ≤ p.2.1) (n : (np : Int) ≤ p.2.1) :
    Calls Try.prog 72 #[msv a np c a' nf c', ptv p] w fun e w' => e = .returned (.int .i64 5) ∧ Below w.heap.size w w' := by
  have hn' : (np : Int) ≤ 1000000 := by omega
  have nl0 : decide (p.1 < 0) = false := decide_eq_false (by omega)
  have nl1 : decide (p.2.1 < 0) = false := decide_eq_false (by omega)
  have nu0 : decide ((np : Int) ≤ p.1) = false := decide_eq_false (by omega)
  clear l0 u0 m
  have i0 : ∀ w, (Instr.index 112 (.agg #[.int .i64 p.1, .int .i64 p.2.1, .int .i64 p.2.2]) (.int .i64 0)).run Try.prog w = .ok (.int .i64 p.1) w := fun _ => by kernel_rfl
  have i1 : ∀ w, (Instr.index 112 (.agg #[.int .i64 p.1, .int .i64 p.2.1, .int .i64 p.2.2]) (.int .i64 1)).run Try.prog w = .ok (.int .i64 p.2.1) w := fun _ => by kernel_rfl
  have i2 : ∀ w, (Instr.index 112 (.agg #[.int .i64 p.1, .int .i64 p.2.1, .int .i64 p.2.2]) (.int .i64 2)).run Try.prog w = .ok (.int .i64 p.2.2) w := fun _ => by kernel_rfl
  go_enter Try.func72, Try.ntmps72
  go_wp2
  refine wp_loop_rounds 2 ?_
  rw [rounds_succ]
  go_wp2
  rw [rounds_succ]
  go_wp2
  go_ret
  exact ⟨rfl, by (repeat' (first | exact Below.refl _ _ | refine Below.setCell ?_ (by simp <;> omega) _ | refine balloc ?_ _ | refine Below.drew ?_ | refine bdrewN ?_ _))⟩
theorem vf_lo2 (a : Option Addr) (np c : Nat) (a' : Option Addr) (nf c' : Nat) (p : P3) (w : World) (hn : np ≤ 1000000) (l0 : 0 ≤ p.1) (u0 : p.1 < np) (l1 : 0 ≤ p.2.1) (u1 : p.2.1 < np) (n : p.2.2 < 0) :
    Calls Try.prog 72 #[msv a np c a' nf c', ptv p] w fun e w' => e = .returned (.int .i64 5) ∧ Below w.heap.size w w' := by
  have hn' : (np : Int) ≤ 1000000 := by omega
  have nl0 : decide (p.1 < 0) = false := decide_eq_false (by omega)
  have nl1 : decide (p.2.1 < 0) = false := decide_eq_false (by omega)
  have nu0 : decide ((np : Int) ≤ p.1) = false := decide_eq_false (by omega)
  have nu1 : decide ((np : Int) ≤ p.2.1) = false := decide_eq_false (by omega)
  clear l0 u0 l1 u1
  have i0 : ∀ w, (Instr.index 112 (.agg #[.int .i64 p.1, .int .i64 p.2.1, .int .i64 p.2.2]) (.int .i64 0)).run Try.prog w = .ok (.int .i64 p.1) w := fun _ => by kernel_rfl
  have i1 : ∀ w, (Instr.index 112 (.agg #[.int .i64 p.1, .int .i64 p.2.1, .int .i64 p.2.2]) (.int .i64 1)).run Try.prog w = .ok (.int .i64 p.2.1) w := fun _ => by kernel_rfl
  have i2 : ∀ w, (Instr.index 112 (.agg #[.int .i64 p.1, .int .i64 p.2.1, .int .i64 p.2.2]) (.int .i64 2)).run Try.prog w = .ok (.int .i64 p.2.2) w := fun _ => by kernel_rfl
  go_enter Try.func72, Try.ntmps72
  go_wp2
  refine wp_loop_rounds 3 ?_
  rw [rounds_succ]
  go_wp2
  rw [rounds_succ]
  go_wp2
  rw [rounds_succ]
  go_wp2
  go_ret
  exact ⟨rfl, by (repeat' (first | exact Below.refl _ _ | refine Below.setCell ?_ (by simp <;> omega) _ | refine balloc ?_ _ | refine Below.drew ?_ | refine bdrewN ?_ _))⟩
theorem vf_hi2 (a : Option Addr) (np c : Nat) (a' : Option Addr) (nf c' : Nat) (p : P3) (w : World) (hn : np ≤ 1000000) (l0 : 0 ≤ p.1) (u0 : p.1 < np) (l1 : 0 ≤ p.2.1) (u1 : p.2.1 < np) (m : 0 ≤ p.2.2) (n : (np : Int) ≤ p.2.2) :
    Calls Try.prog 72 #[msv a np c a' nf c', ptv p] w fun e w' => e = .returned (.int .i64 5) ∧ Below w.heap.size w w' := by
  have hn' : (np : Int) ≤ 1000000 := by omega
  have nl0 : decide (p.1 < 0) = false := decide_eq_false (by omega)
  have nl1 : decide (p.2.1 < 0) = false := decide_eq_false (by omega)
  have nl2 : decide (p.2.2 < 0) = false := decide_eq_false (by omega)
  have nu0 : decide ((np : Int) ≤ p.1) = false := decide_eq_false (by omega)
  have nu1 : decide ((np : Int) ≤ p.2.1) = false := decide_eq_false (by omega)
  clear l0 u0 l1 u1 m
  have i0 : ∀ w, (Instr.index 112 (.agg #[.int .i64 p.1, .int .i64 p.2.1, .int .i64 p.2.2]) (.int .i64 0)).run Try.prog w = .ok (.int .i64 p.1) w := fun _ => by kernel_rfl
  have i1 : ∀ w, (Instr.index 112 (.agg #[.int .i64 p.1, .int .i64 p.2.1, .int .i64 p.2.2]) (.int .i64 1)).run Try.prog w = .ok (.int .i64 p.2.1) w := fun _ => by kernel_rfl
  have i2 : ∀ w, (Instr.index 112 (.agg #[.int .i64 p.1, .int .i64 p.2.1, .int .i64 p.2.2]) (.int .i64 2)).run Try.prog w = .ok (.int .i64 p.2.2) w := fun _ => by kernel_rfl
  go_enter Try.func72, Try.ntmps72
  go_wp2
  refine wp_loop_rounds 3 ?_
  rw [rounds_succ]
  go_wp2
  rw [rounds_succ]
  go_wp2
  rw [rounds_succ]
  go_wp2
  go_ret
  exact ⟨rfl, by (repeat' (first | exact Below.refl _ _ | refine Below.setCell ?_ (by simp <;> omega) _ | refine balloc ?_ _ | refine Below.drew ?_ | refine bdrewN ?_ _))⟩
set_option maxHeartbeats 400000 in
theorem vf_nat (b off np c : Nat) (a' : Option Addr) (nf c' x y z : Nat) (P : Nat → P3) (w : World) (hn : np ≤ 1000000) (r : Row3 w b off np P) (hx : x < np) (hy : y < np) (hz : z < np) :
    Calls Try.prog 72 #[msv (some ⟨b, off, none⟩) np c a' nf c', .agg #[.int .i64 (x : Int), .int .i64 (y : Int), .int .i64 (z : Int)]] w fun e w' => e = .returned (.int .i64 (pcode (P x) (P y) (P z))) ∧ Below w.heap.size w w' := by
  have hn' : (np : Int) ≤ 1000000 := by omega
  have PC := Lib.hid (fun W (B : Below w.heap.size w W) => panel_nat b off np c a' nf c' x y z P W (row3_below r B) hx hy hz hn)
  have x1 : decide (np ≤ x) = false := decide_eq_false (by omega)
  have y1 : decide (np ≤ y) = false := decide_eq_false (by omega)
  have z1 : decide (np ≤ z) = false := decide_eq_false (by omega)
  have x2 : decide ((x : Int) < 0) = false := decide_eq_false (by omega)
  have y2 : decide ((y : Int) < 0) = false := decide_eq_false (by omega)
  have z2 : decide ((z : Int) < 0) = false := decide_eq_false (by omega)
  clear r hx hy hz
  have i0 : ∀ w, (Instr.index 112 (.agg #[.int .i64 (x : Int), .int .i64 (y : Int), .int .i64 (z : Int)]) (.int .i64 0)).run Try.prog w = .ok (.int .i64 (x : Int)) w := fun _ => by kernel_rfl
  have i1 : ∀ w, (Instr.index 112 (.agg #[.int .i64 (x : Int), .int .i64 (y : Int), .int .i64 (z : Int)]) (.int .i64 1)).run Try.prog w = .ok (.int .i64 (y : Int)) w := fun _ => by kernel_rfl
  have i2 : ∀ w, (Instr.index 112 (.agg #[.int .i64 (x : Int), .int .i64 (y : Int), .int .i64 (z : Int)]) (.int .i64 2)).run Try.prog w = .ok (.int .i64 (z : Int)) w := fun _ => by kernel_rfl
  go_enter Try.func72, Try.ntmps72
  go_wp2
  refine wp_loop_rounds 4 ?_
  rw [rounds_succ]
  go_wp2
  rw [rounds_succ]
  go_wp2
  rw [rounds_succ]
  go_wp2
  rw [rounds_succ]
  go_wp2_with fail
  refine (PC.out _ (by (repeat' (first | exact Below.refl _ _ | refine Below.setCell ?_ (by simp <;> omega) _ | refine balloc ?_ _ | refine Below.drew ?_ | refine bdrewN ?_ _)))).mono ?_
  rintro e w1 ⟨rfl, hb1⟩
  go_wp2_with fail
  refine (vp_any (P x) (P y) (P z) _).mono ?_
  rintro e w2 ⟨rfl, hb2⟩
  go_wp2
  go_ret
  exact ⟨rfl, by (repeat' (first | exact Below.refl _ _ | refine bstep ?_ hb1 | refine bstep ?_ hb2 | refine Below.setCell ?_ (by simp <;> omega) _ | refine balloc ?_ _ | refine Below.drew ?_ | refine bdrewN ?_ _))⟩

end Go.Proofs.Ytllonfaogbdbnaa
