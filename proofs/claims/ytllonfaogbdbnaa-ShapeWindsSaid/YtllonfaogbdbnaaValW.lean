/-
  The contract of Validate.
-/
import Derived.Test.YtllonfaogbdbnaaVol
import Derived.Test.YtllonfaogbdbnaaClosed
import Derived.BigGuardPart
namespace Go.Proofs.Ytllonfaogbdbnaa
open Go.ChangeShapes Go.WideShapes Go.RowKit
open Sh
theorem int_ne {x : Int} (h : x ≠ 0) : (x != 0) = true := bne_iff_ne.2 h
theorem val_big1 (a : Option Addr) (np c : Nat) (a' : Option Addr) (nf c' : Nat) (w : World) (h : 64 < np) (l : np ≤ 1000000000) :
    Calls Try.prog 31 #[msv a np c a' nf c'] w fun e w' => e = .returned (.int .i64 4) ∧ Below w.heap.size w w' := by
  have t1 : (64 : Int) < (np : Int) := by omega
  have t2 : (np : Int) ≤ 1000000000 := by omega
  clear h l
  go_enter Try.func31, Try.ntmps31
  go_wp2
  go_ret
  exact ⟨rfl, by (repeat' (first | exact Below.refl _ _ | refine Below.setCell ?_ (by simp <;> omega) _ | refine balloc ?_ _ | refine Below.drew ?_ | refine bdrewN ?_ _))⟩
theorem val_big2 (a : Option Addr) (np c : Nat) (a' : Option Addr) (nf c' : Nat) (w : World) (h : np ≤ 64) (k : nf = 0) :
    Calls Try.prog 31 #[msv a np c a' nf c'] w fun e w' => e = .returned (.int .i64 4) ∧ Below w.heap.size w w' := by
  subst k
  have t1 : decide ((64 : Int) < (np : Int)) = false := decide_eq_false (by omega)
  clear h
  go_enter Try.func31, Try.ntmps31
  go_wp2
  go_ret
  exact ⟨rfl, by (repeat' (first | exact Below.refl _ _ | refine Below.setCell ?_ (by simp <;> omega) _ | refine balloc ?_ _ | refine Below.drew ?_ | refine bdrewN ?_ _))⟩
theorem val_big3 (a : Option Addr) (np c : Nat) (a' : Option Addr) (nf c' : Nat) (w : World) (h : np ≤ 64) (k : 96 < nf) (l : nf ≤ 1000000000) :
    Calls Try.prog 31 #[msv a np c a' nf c'] w fun e w' => e = .returned (.int .i64 4) ∧ Below w.heap.size w w' := by
  have t1 : decide ((64 : Int) < (np : Int)) = false := decide_eq_false (by omega)
  have t3 : ((nf : Int) == 0) = false := beq_eq_false_iff_ne.2 (by omega)
  have t4 : (96 : Int) < (nf : Int) := by omega
  have t5 : (nf : Int) ≤ 1000000000 := by omega
  clear h k l
  go_enter Try.func31, Try.ntmps31
  go_wp2
  go_ret
  exact ⟨rfl, by (repeat' (first | exact Below.refl _ _ | refine Below.setCell ?_ (by simp <;> omega) _ | refine balloc ?_ _ | refine Below.drew ?_ | refine bdrewN ?_ _))⟩
theorem val_pts (a : Option Addr) (np c : Nat) (a' : Option Addr) (nf c' : Nat) (w : World) (hn : np ≤ 64) (h0 : 0 < nf) (hm : nf ≤ 96) (VP : Hid (∀ W, Below w.heap.size w W → Calls Try.prog 71 #[.slice a np c] W fun e w' => e = .returned (.bool false) ∧ Below W.heap.size W w')) :
    Calls Try.prog 31 #[msv a np c a' nf c'] w fun e w' => e = .returned (.int .i64 1) ∧ Below w.heap.size w w' := by
  have t1 : decide ((64 : Int) < (np : Int)) = false := decide_eq_false (by omega)
  have t3 : ((nf : Int) == 0) = false := beq_eq_false_iff_ne.2 (by omega)
  have t4 : decide ((96 : Int) < (nf : Int)) = false := decide_eq_false (by omega)
  have hm' : (nf : Int) ≤ 96 := by omega
  clear hn h0 hm
  go_enter Try.func31, Try.ntmps31
  go_wp2_with fail
  refine (VP.out _ (by (repeat' (first | exact Below.refl _ _ | refine Below.setCell ?_ (by simp <;> omega) _ | refine balloc ?_ _ | refine Below.drew ?_ | refine bdrewN ?_ _)))).mono ?_
  rintro e w1 ⟨rfl, hb1⟩
  go_wp2
  go_ret
  exact ⟨rfl, by (repeat' (first | exact Below.refl _ _ | refine bstep ?_ hb1 | refine Below.setCell ?_ (by simp <;> omega) _ | refine balloc ?_ _ | refine Below.drew ?_ | refine bdrewN ?_ _))⟩
set_option maxHeartbeats 1000000 in
theorem val_face (a : Option Addr) (np c b' off' nf c' k0 : Nat) (F : Nat → P3) (fc : Nat → Int) (w : World) (hn : np ≤ 64) (h0 : 0 < nf) (hm : nf ≤ 96) (r : Row3 w b' off' nf F) (VP : Hid (∀ W, Below w.heap.size w W → Calls Try.prog 71 #[.slice a np c] W fun e w' => e = .returned (.bool true) ∧ Below W.heap.size W w')) (VF : Hid (∀ k, k < nf → ∀ W, Below w.heap.size w W → Calls Try.prog 72 #[msv a np c (some ⟨b', off', none⟩) nf c', ptv (F k)] W fun e w' => e = .returned (.int .i64 (fc k)) ∧ Below W.heap.size W w')) (Z : Hid (∀ k, k < k0 → fc k = 0)) (hk0 : k0 < nf) (ne : fc k0 ≠ 0) :
    Calls Try.prog 31 #[msv a np c (some ⟨b', off', none⟩) nf c'] w fun e w' => e = .returned (.int .i64 (fc k0)) ∧ Below w.heap.size w w' := by
  have t1 : decide ((64 : Int) < (np : Int)) = false := decide_eq_false (by omega)
  have t3 : ((nf : Int) == 0) = false := beq_eq_false_iff_ne.2 (by omega)
  have t4 : decide ((96 : Int) < (nf : Int)) = false := decide_eq_false (by omega)
  have hm' : (nf : Int) ≤ 96 := by omega
  have R := Lib.hid r
  have hb' : b' < w.heap.size := r.1
  clear r
  have NE := int_ne ne
  clear ne hn
  go_enter Try.func31, Try.ntmps31
  go_wp2_with fail
  refine (VP.out _ (by (repeat' (first | exact Below.refl _ _ | refine Below.setCell ?_ (by simp <;> omega) _ | refine balloc ?_ _ | refine Below.drew ?_ | refine bdrewN ?_ _)))).mono ?_
  rintro e w1 ⟨rfl, hb1⟩
  have B1 := Lib.hid (bstep (balloc (Below.refl _ w) _) hb1)
  have ME := Lib.hid (mes_below (mes_new w a np c (some ⟨b', off', none⟩) nf c' 25) hb1)
  clear hb1
  obtain ⟨m1, m2, m3⟩ := ME.out
  go_wp2
  clear m1 m2 m3
  go_loopw [29] (fun kv wr => ∃ k : Nat, k ≤ k0 ∧ kv = .int .i64 k ∧ Mes wr w.heap.size a np c (some ⟨b', off', none⟩) nf c' ∧ Below w.heap.size w wr) (fun kv _ => nf - (intOf kv).toNat)
  case atStart => exact ⟨0, Nat.zero_le _, rfl, ME.out, B1.out⟩
  case round =>
    obtain ⟨k, hk, rfl, hme, BB⟩ := hrel
    have MK := Lib.hid hme
    have B0 := Lib.hid BB
    clear hme BB
    obtain ⟨m1, m2, m3⟩ := MK.out
    by_cases hlt : k < k0
    · have hkn : k < nf := by omega
      have r2 := row3_in R.out B0.out hb'
      obtain ⟨c1, c2, c3⟩ := r2.2 k hkn
      have r5 := r2.1
      clear r2
      have hk1 : (k : Int) < (nf : Int) := by omega
      have VK := Lib.hid (VF.out k hkn)
      rw [Z.out k hlt] at VK
      generalize F k = p at *
      go_wp2_with fail
      refine (VK.out _ (by have hB := B0.out; (repeat' (first | exact Below.refl _ _ | refine bstep ?_ hB | refine Below.setCell ?_ (by simp <;> omega) _ | refine balloc ?_ _ | refine Below.drew ?_ | refine bdrewN ?_ _)))).mono ?_
      rintro e w2 ⟨rfl, hb2⟩
      have hme2 := mes_below (mes_alloc MK.out _) hb2
      have B2 := Lib.hid (bstep (balloc B0.out _) hb2)
      clear c1 c2 c3 m1 m2 m3 hb2
      go_wp2
      go_roundw
      case rel => exact ⟨k + 1, by omega, by go_num, hme2, B2.out⟩
      case measure => simp [intOf]; omega
    · obtain rfl : k = k0 := by omega
      have r2 := row3_in R.out B0.out hb'
      obtain ⟨c1, c2, c3⟩ := r2.2 k hk0
      have r5 := r2.1
      clear r2
      have hk1 : (k : Int) < (nf : Int) := by omega
      have VK := Lib.hid (VF.out k hk0)
      generalize F k = p at *
      go_wp2_with fail
      refine (VK.out _ (by have hB := B0.out; (repeat' (first | exact Below.refl _ _ | refine bstep ?_ hB | refine Below.setCell ?_ (by simp <;> omega) _ | refine balloc ?_ _ | refine Below.drew ?_ | refine bdrewN ?_ _)))).mono ?_
      rintro e w2 ⟨rfl, hb2⟩
      go_wp2
      go_ret
      exact ⟨rfl, by have hB := B0.out; (repeat' (first | exact Below.refl _ _ | refine bstep ?_ hb2 | refine bstep ?_ hB | refine Below.setCell ?_ (by simp <;> omega) _ | refine balloc ?_ _ | refine Below.drew ?_ | refine bdrewN ?_ _))⟩
set_option maxHeartbeats 1000000 in
theorem val_open (a : Option Addr) (np c b' off' nf c' : Nat) (F : Nat → P3) (fc : Nat → Int) (w : World) (hn : np ≤ 64) (h0 : 0 < nf) (hm : nf ≤ 96) (r : Row3 w b' off' nf F) (VP : Hid (∀ W, Below w.heap.size w W → Calls Try.prog 71 #[.slice a np c] W fun e w' => e = .returned (.bool true) ∧ Below W.heap.size W w')) (VF : Hid (∀ k, k < nf → ∀ W, Below w.heap.size w W → Calls Try.prog 72 #[msv a np c (some ⟨b', off', none⟩) nf c', ptv (F k)] W fun e w' => e = .returned (.int .i64 (fc k)) ∧ Below W.heap.size W w')) (Z : Hid (∀ k, k < nf → fc k = 0)) (CL : Hid (∀ W, Below w.heap.size w W → Calls Try.prog 73 #[.slice (some ⟨b', off', none⟩) nf c'] W fun e w' => e = .returned (.bool false) ∧ Below W.heap.size W w')) :
    Calls Try.prog 31 #[msv a np c (some ⟨b', off', none⟩) nf c'] w fun e w' => e = .returned (.int .i64 7) ∧ Below w.heap.size w w' := by
  have t1 : decide ((64 : Int) < (np : Int)) = false := decide_eq_false (by omega)
  have t3 : ((nf : Int) == 0) = false := beq_eq_false_iff_ne.2 (by omega)
  have t4 : decide ((96 : Int) < (nf : Int)) = false := decide_eq_false (by omega)
  have hm' : (nf : Int) ≤ 96 := by omega
  have R := Lib.hid r
  have hb' : b' < w.heap.size := r.1
  clear r
  clear hn
  go_enter Try.func31, Try.ntmps31
  go_wp2_with fail
  refine (VP.out _ (by (repeat' (first | exact Below.refl _ _ | refine Below.setCell ?_ (by simp <;> omega) _ | refine balloc ?_ _ | refine Below.drew ?_ | refine bdrewN ?_ _)))).mono ?_
  rintro e w1 ⟨rfl, hb1⟩
  have B1 := Lib.hid (bstep (balloc (Below.refl _ w) _) hb1)
  have ME := Lib.hid (mes_below (mes_new w a np c (some ⟨b', off', none⟩) nf c' 25) hb1)
  clear hb1
  obtain ⟨m1, m2, m3⟩ := ME.out
  go_wp2
  clear m1 m2 m3
  go_loopw [29] (fun kv wr => ∃ k : Nat, k ≤ nf ∧ kv = .int .i64 k ∧ Mes wr w.heap.size a np c (some ⟨b', off', none⟩) nf c' ∧ Below w.heap.size w wr) (fun kv _ => nf - (intOf kv).toNat)
  case atStart => exact ⟨0, Nat.zero_le _, rfl, ME.out, B1.out⟩
  case round =>
    obtain ⟨k, hk, rfl, hme, BB⟩ := hrel
    have MK := Lib.hid hme
    have B0 := Lib.hid BB
    clear hme BB
    obtain ⟨m1, m2, m3⟩ := MK.out
    by_cases hlt : k < nf
    · have r2 := row3_in R.out B0.out hb'
      obtain ⟨c1, c2, c3⟩ := r2.2 k hlt
      have r5 := r2.1
      clear r2
      have hk1 : (k : Int) < (nf : Int) := by omega
      have VK := Lib.hid (VF.out k hlt)
      rw [Z.out k hlt] at VK
      generalize F k = p at *
      go_wp2_with fail
      refine (VK.out _ (by have hB := B0.out; (repeat' (first | exact Below.refl _ _ | refine bstep ?_ hB | refine Below.setCell ?_ (by simp <;> omega) _ | refine balloc ?_ _ | refine Below.drew ?_ | refine bdrewN ?_ _)))).mono ?_
      rintro e w2 ⟨rfl, hb2⟩
      have hme2 := mes_below (mes_alloc MK.out _) hb2
      have B2 := Lib.hid (bstep (balloc B0.out _) hb2)
      clear c1 c2 c3 m1 m2 m3 hb2
      go_wp2
      go_roundw
      case rel => exact ⟨k + 1, by omega, by go_num, hme2, B2.out⟩
      case measure => simp [intOf]; omega
    · obtain rfl : k = nf := by omega
      go_wp2_with fail
      refine (CL.out _ (by have hB := B0.out; (repeat' (first | exact Below.refl _ _ | refine bstep ?_ hB | refine Below.setCell ?_ (by simp <;> omega) _ | refine balloc ?_ _ | refine Below.drew ?_ | refine bdrewN ?_ _)))).mono ?_
      rintro e w3 ⟨rfl, hb3⟩
      have MK3 := Lib.hid (mes_below MK.out hb3)
      clear m1 m2 m3
      obtain ⟨m1, m2, m3⟩ := MK3.out
      go_wp2
      go_ret
      exact ⟨rfl, by have hB := B0.out; (repeat' (first | exact Below.refl _ _ | refine bstep ?_ hB | refine bstep ?_ hb3 | refine Below.setCell ?_ (by simp <;> omega) _ | refine balloc ?_ _ | refine Below.drew ?_ | refine bdrewN ?_ _))⟩
set_option maxHeartbeats 1000000 in
theorem val_used (a : Option Addr) (np c b' off' nf c' : Nat) (F : Nat → P3) (fc : Nat → Int) (w : World) (hn : np ≤ 64) (h0 : 0 < nf) (hm : nf ≤ 96) (r : Row3 w b' off' nf F) (VP : Hid (∀ W, Below w.heap.size w W → Calls Try.prog 71 #[.slice a np c] W fun e w' => e = .returned (.bool true) ∧ Below W.heap.size W w')) (VF : Hid (∀ k, k < nf → ∀ W, Below w.heap.size w W → Calls Try.prog 72 #[msv a np c (some ⟨b', off', none⟩) nf c', ptv (F k)] W fun e w' => e = .returned (.int .i64 (fc k)) ∧ Below W.heap.size W w')) (Z : Hid (∀ k, k < nf → fc k = 0)) (CL : Hid (∀ W, Below w.heap.size w W → Calls Try.prog 73 #[.slice (some ⟨b', off', none⟩) nf c'] W fun e w' => e = .returned (.bool true) ∧ Below W.heap.size W w')) (US : Hid (∀ W, Below w.heap.size w W → Calls Try.prog 74 #[msv a np c (some ⟨b', off', none⟩) nf c'] W fun e w' => e = .returned (.bool false) ∧ Below W.heap.size W w')) :
    Calls Try.prog 31 #[msv a np c (some ⟨b', off', none⟩) nf c'] w fun e w' => e = .returned (.int .i64 5) ∧ Below w.heap.size w w' := by
  have t1 : decide ((64 : Int) < (np : Int)) = false := decide_eq_false (by omega)
  have t3 : ((nf : Int) == 0) = false := beq_eq_false_iff_ne.2 (by omega)
  have t4 : decide ((96 : Int) < (nf : Int)) = false := decide_eq_false (by omega)
  have hm' : (nf : Int) ≤ 96 := by omega
  have R := Lib.hid r
  have hb' : b' < w.heap.size := r.1
  clear r
  clear hn
  go_enter Try.func31, Try.ntmps31
  go_wp2_with fail
  refine (VP.out _ (by (repeat' (first | exact Below.refl _ _ | refine Below.setCell ?_ (by simp <;> omega) _ | refine balloc ?_ _ | refine Below.drew ?_ | refine bdrewN ?_ _)))).mono ?_
  rintro e w1 ⟨rfl, hb1⟩
  have B1 := Lib.hid (bstep (balloc (Below.refl _ w) _) hb1)
  have ME := Lib.hid (mes_below (mes_new w a np c (some ⟨b', off', none⟩) nf c' 25) hb1)
  clear hb1
  obtain ⟨m1, m2, m3⟩ := ME.out
  go_wp2
  clear m1 m2 m3
  go_loopw [29] (fun kv wr => ∃ k : Nat, k ≤ nf ∧ kv = .int .i64 k ∧ Mes wr w.heap.size a np c (some ⟨b', off', none⟩) nf c' ∧ Below w.heap.size w wr) (fun kv _ => nf - (intOf kv).toNat)
  case atStart => exact ⟨0, Nat.zero_le _, rfl, ME.out, B1.out⟩
  case round =>
    obtain ⟨k, hk, rfl, hme, BB⟩ := hrel
    have MK := Lib.hid hme
    have B0 := Lib.hid BB
    clear hme BB
    obtain ⟨m1, m2, m3⟩ := MK.out
    by_cases hlt : k < nf
    · have r2 := row3_in R.out B0.out hb'
      obtain ⟨c1, c2, c3⟩ := r2.2 k hlt
      have r5 := r2.1
      clear r2
      have hk1 : (k : Int) < (nf : Int) := by omega
      have VK := Lib.hid (VF.out k hlt)
      rw [Z.out k hlt] at VK
      generalize F k = p at *
      go_wp2_with fail
      refine (VK.out _ (by have hB := B0.out; (repeat' (first | exact Below.refl _ _ | refine bstep ?_ hB | refine Below.setCell ?_ (by simp <;> omega) _ | refine balloc ?_ _ | refine Below.drew ?_ | refine bdrewN ?_ _)))).mono ?_
      rintro e w2 ⟨rfl, hb2⟩
      have hme2 := mes_below (mes_alloc MK.out _) hb2
      have B2 := Lib.hid (bstep (balloc B0.out _) hb2)
      clear c1 c2 c3 m1 m2 m3 hb2
      go_wp2
      go_roundw
      case rel => exact ⟨k + 1, by omega, by go_num, hme2, B2.out⟩
      case measure => simp [intOf]; omega
    · obtain rfl : k = nf := by omega
      go_wp2_with fail
      refine (CL.out _ (by have hB := B0.out; (repeat' (first | exact Below.refl _ _ | refine bstep ?_ hB | refine Below.setCell ?_ (by simp <;> omega) _ | refine balloc ?_ _ | refine Below.drew ?_ | refine bdrewN ?_ _)))).mono ?_
      rintro e w3 ⟨rfl, hb3⟩
      have MK3 := Lib.hid (mes_below MK.out hb3)
      clear m1 m2 m3
      obtain ⟨m1, m2, m3⟩ := MK3.out
      go_wp2_with fail
      refine (US.out _ (by have hB := B0.out; (repeat' (first | exact Below.refl _ _ | refine bstep ?_ hB | refine bstep ?_ hb3 | refine Below.setCell ?_ (by simp <;> omega) _ | refine balloc ?_ _ | refine Below.drew ?_ | refine bdrewN ?_ _)))).mono ?_
      rintro e w4 ⟨rfl, hb4⟩
      have MK4 := Lib.hid (mes_below MK3.out hb4)
      clear m1 m2 m3
      obtain ⟨m1, m2, m3⟩ := MK4.out
      go_wp2
      go_ret
      exact ⟨rfl, by have hB := B0.out; (repeat' (first | exact Below.refl _ _ | refine bstep ?_ hB | refine bstep ?_ hb3 | refine bstep ?_ hb4 | refine Below.setCell ?_ (by simp <;> omega) _ | refine balloc ?_ _ | refine Below.drew ?_ | refine bdrewN ?_ _))⟩
set_option maxHeartbeats 1000000 in
theorem val_turned (a : Option Addr) (np c b' off' nf c' : Nat) (F : Nat → P3) (fc : Nat → Int) (w : World) (hn : np ≤ 64) (h0 : 0 < nf) (hm : nf ≤ 96) (r : Row3 w b' off' nf F) (VP : Hid (∀ W, Below w.heap.size w W → Calls Try.prog 71 #[.slice a np c] W fun e w' => e = .returned (.bool true) ∧ Below W.heap.size W w')) (VF : Hid (∀ k, k < nf → ∀ W, Below w.heap.size w W → Calls Try.prog 72 #[msv a np c (some ⟨b', off', none⟩) nf c', ptv (F k)] W fun e w' => e = .returned (.int .i64 (fc k)) ∧ Below W.heap.size W w')) (Z : Hid (∀ k, k < nf → fc k = 0)) (CL : Hid (∀ W, Below w.heap.size w W → Calls Try.prog 73 #[.slice (some ⟨b', off', none⟩) nf c'] W fun e w' => e = .returned (.bool true) ∧ Below W.heap.size W w')) (US : Hid (∀ W, Below w.heap.size w W → Calls Try.prog 74 #[msv a np c (some ⟨b', off', none⟩) nf c'] W fun e w' => e = .returned (.bool true) ∧ Below W.heap.size W w')) (vo : Int) (VO : Hid (∀ W, Below w.heap.size w W → Calls Try.prog 75 #[msv a np c (some ⟨b', off', none⟩) nf c'] W fun e w' => e = .returned (.int .i64 vo) ∧ Below W.heap.size W w')) (hv : vo ≤ 0) :
    Calls Try.prog 31 #[msv a np c (some ⟨b', off', none⟩) nf c'] w fun e w' => e = .returned (.int .i64 8) ∧ Below w.heap.size w w' := by
  have t1 : decide ((64 : Int) < (np : Int)) = false := decide_eq_false (by omega)
  have t3 : ((nf : Int) == 0) = false := beq_eq_false_iff_ne.2 (by omega)
  have t4 : decide ((96 : Int) < (nf : Int)) = false := decide_eq_false (by omega)
  have hm' : (nf : Int) ≤ 96 := by omega
  have R := Lib.hid r
  have hb' : b' < w.heap.size := r.1
  clear r
  clear hn
  go_enter Try.func31, Try.ntmps31
  go_wp2_with fail
  refine (VP.out _ (by (repeat' (first | exact Below.refl _ _ | refine Below.setCell ?_ (by simp <;> omega) _ | refine balloc ?_ _ | refine Below.drew ?_ | refine bdrewN ?_ _)))).mono ?_
  rintro e w1 ⟨rfl, hb1⟩
  have B1 := Lib.hid (bstep (balloc (Below.refl _ w) _) hb1)
  have ME := Lib.hid (mes_below (mes_new w a np c (some ⟨b', off', none⟩) nf c' 25) hb1)
  clear hb1
  obtain ⟨m1, m2, m3⟩ := ME.out
  go_wp2
  clear m1 m2 m3
  go_loopw [29] (fun kv wr => ∃ k : Nat, k ≤ nf ∧ kv = .int .i64 k ∧ Mes wr w.heap.size a np c (some ⟨b', off', none⟩) nf c' ∧ Below w.heap.size w wr) (fun kv _ => nf - (intOf kv).toNat)
  case atStart => exact ⟨0, Nat.zero_le _, rfl, ME.out, B1.out⟩
  case round =>
    obtain ⟨k, hk, rfl, hme, BB⟩ := hrel
    have MK := Lib.hid hme
    have B0 := Lib.hid BB
    clear hme BB
    obtain ⟨m1, m2, m3⟩ := MK.out
    by_cases hlt : k < nf
    · have r2 := row3_in R.out B0.out hb'
      obtain ⟨c1, c2, c3⟩ := r2.2 k hlt
      have r5 := r2.1
      clear r2
      have hk1 : (k : Int) < (nf : Int) := by omega
      have VK := Lib.hid (VF.out k hlt)
      rw [Z.out k hlt] at VK
      generalize F k = p at *
      go_wp2_with fail
      refine (VK.out _ (by have hB := B0.out; (repeat' (first | exact Below.refl _ _ | refine bstep ?_ hB | refine Below.setCell ?_ (by simp <;> omega) _ | refine balloc ?_ _ | refine Below.drew ?_ | refine bdrewN ?_ _)))).mono ?_
      rintro e w2 ⟨rfl, hb2⟩
      have hme2 := mes_below (mes_alloc MK.out _) hb2
      have B2 := Lib.hid (bstep (balloc B0.out _) hb2)
      clear c1 c2 c3 m1 m2 m3 hb2
      go_wp2
      go_roundw
      case rel => exact ⟨k + 1, by omega, by go_num, hme2, B2.out⟩
      case measure => simp [intOf]; omega
    · obtain rfl : k = nf := by omega
      go_wp2_with fail
      refine (CL.out _ (by have hB := B0.out; (repeat' (first | exact Below.refl _ _ | refine bstep ?_ hB | refine Below.setCell ?_ (by simp <;> omega) _ | refine balloc ?_ _ | refine Below.drew ?_ | refine bdrewN ?_ _)))).mono ?_
      rintro e w3 ⟨rfl, hb3⟩
      have MK3 := Lib.hid (mes_below MK.out hb3)
      clear m1 m2 m3
      obtain ⟨m1, m2, m3⟩ := MK3.out
      go_wp2_with fail
      refine (US.out _ (by have hB := B0.out; (repeat' (first | exact Below.refl _ _ | refine bstep ?_ hB | refine bstep ?_ hb3 | refine Below.setCell ?_ (by simp <;> omega) _ | refine balloc ?_ _ | refine Below.drew ?_ | refine bdrewN ?_ _)))).mono ?_
      rintro e w4 ⟨rfl, hb4⟩
      have MK4 := Lib.hid (mes_below MK3.out hb4)
      clear m1 m2 m3
      obtain ⟨m1, m2, m3⟩ := MK4.out
      go_wp2_with fail
      refine (VO.out _ (by have hB := B0.out; (repeat' (first | exact Below.refl _ _ | refine bstep ?_ hB | refine bstep ?_ hb3 | refine bstep ?_ hb4 | refine Below.setCell ?_ (by simp <;> omega) _ | refine balloc ?_ _ | refine Below.drew ?_ | refine bdrewN ?_ _)))).mono ?_
      rintro e w5 ⟨rfl, hb5⟩
      have MK5 := Lib.hid (mes_below MK4.out hb5)
      clear m1 m2 m3
      obtain ⟨m1, m2, m3⟩ := MK5.out
      go_wp2
      go_ret
      exact ⟨rfl, by have hB := B0.out; (repeat' (first | exact Below.refl _ _ | refine bstep ?_ hB | refine bstep ?_ hb3 | refine bstep ?_ hb4 | refine bstep ?_ hb5 | refine Below.setCell ?_ (by simp <;> omega) _ | refine balloc ?_ _ | refine Below.drew ?_ | refine bdrewN ?_ _))⟩
set_option maxHeartbeats 1000000 in
theorem val_ok (a : Option Addr) (np c b' off' nf c' : Nat) (F : Nat → P3) (fc : Nat → Int) (w : World) (hn : np ≤ 64) (h0 : 0 < nf) (hm : nf ≤ 96) (r : Row3 w b' off' nf F) (VP : Hid (∀ W, Below w.heap.size w W → Calls Try.prog 71 #[.slice a np c] W fun e w' => e = .returned (.bool true) ∧ Below W.heap.size W w')) (VF : Hid (∀ k, k < nf → ∀ W, Below w.heap.size w W → Calls Try.prog 72 #[msv a np c (some ⟨b', off', none⟩) nf c', ptv (F k)] W fun e w' => e = .returned (.int .i64 (fc k)) ∧ Below W.heap.size W w')) (Z : Hid (∀ k, k < nf → fc k = 0)) (CL : Hid (∀ W, Below w.heap.size w W → Calls Try.prog 73 #[.slice (some ⟨b', off', none⟩) nf c'] W fun e w' => e = .returned (.bool true) ∧ Below W.heap.size W w')) (US : Hid (∀ W, Below w.heap.size w W → Calls Try.prog 74 #[msv a np c (some ⟨b', off', none⟩) nf c'] W fun e w' => e = .returned (.bool true) ∧ Below W.heap.size W w')) (vo : Int) (VO : Hid (∀ W, Below w.heap.size w W → Calls Try.prog 75 #[msv a np c (some ⟨b', off', none⟩) nf c'] W fun e w' => e = .returned (.int .i64 vo) ∧ Below W.heap.size W w')) (hv : 0 < vo) :
    Calls Try.prog 31 #[msv a np c (some ⟨b', off', none⟩) nf c'] w fun e w' => e = .returned (.int .i64 0) ∧ Below w.heap.size w w' := by
  have t1 : decide ((64 : Int) < (np : Int)) = false := decide_eq_false (by omega)
  have t3 : ((nf : Int) == 0) = false := beq_eq_false_iff_ne.2 (by omega)
  have t4 : decide ((96 : Int) < (nf : Int)) = false := decide_eq_false (by omega)
  have hm' : (nf : Int) ≤ 96 := by omega
  have R := Lib.hid r
  have hb' : b' < w.heap.size := r.1
  clear r
  clear hn
  go_enter Try.func31, Try.ntmps31
  go_wp2_with fail
  refine (VP.out _ (by (repeat' (first | exact Below.refl _ _ | refine Below.setCell ?_ (by simp <;> omega) _ | refine balloc ?_ _ | refine Below.drew ?_ | refine bdrewN ?_ _)))).mono ?_
  rintro e w1 ⟨rfl, hb1⟩
  have B1 := Lib.hid (bstep (balloc (Below.refl _ w) _) hb1)
  have ME := Lib.hid (mes_below (mes_new w a np c (some ⟨b', off', none⟩) nf c' 25) hb1)
  clear hb1
  obtain ⟨m1, m2, m3⟩ := ME.out
  go_wp2
  clear m1 m2 m3
  go_loopw [29] (fun kv wr => ∃ k : Nat, k ≤ nf ∧ kv = .int .i64 k ∧ Mes wr w.heap.size a np c (some ⟨b', off', none⟩) nf c' ∧ Below w.heap.size w wr) (fun kv _ => nf - (intOf kv).toNat)
  case atStart => exact ⟨0, Nat.zero_le _, rfl, ME.out, B1.out⟩
  case round =>
    obtain ⟨k, hk, rfl, hme, BB⟩ := hrel
    have MK := Lib.hid hme
    have B0 := Lib.hid BB
    clear hme BB
    obtain ⟨m1, m2, m3⟩ := MK.out
    by_cases hlt : k < nf
    · have r2 := row3_in R.out B0.out hb'
      obtain ⟨c1, c2, c3⟩ := r2.2 k hlt
      have r5 := r2.1
      clear r2
      have hk1 : (k : Int) < (nf : Int) := by omega
      have VK := Lib.hid (VF.out k hlt)
      rw [Z.out k hlt] at VK
      generalize F k = p at *
      go_wp2_with fail
      refine (VK.out _ (by have hB := B0.out; (repeat' (first | exact Below.refl _ _ | refine bstep ?_ hB | refine Below.setCell ?_ (by simp <;> omega) _ | refine balloc ?_ _ | refine Below.drew ?_ | refine bdrewN ?_ _)))).mono ?_
      rintro e w2 ⟨rfl, hb2⟩
      have hme2 := mes_below (mes_alloc MK.out _) hb2
      have B2 := Lib.hid (bstep (balloc B0.out _) hb2)
      clear c1 c2 c3 m1 m2 m3 hb2
      go_wp2
      go_roundw
      case rel => exact ⟨k + 1, by omega, by go_num, hme2, B2.out⟩
      case measure => simp [intOf]; omega
    · obtain rfl : k = nf := by omega
      go_wp2_with fail
      refine (CL.out _ (by have hB := B0.out; (repeat' (first | exact Below.refl _ _ | refine bstep ?_ hB | refine Below.setCell ?_ (by simp <;> omega) _ | refine balloc ?_ _ | refine Below.drew ?_ | refine bdrewN ?_ _)))).mono ?_
      rintro e w3 ⟨rfl, hb3⟩
      have MK3 := Lib.hid (mes_below MK.out hb3)
      clear m1 m2 m3
      obtain ⟨m1, m2, m3⟩ := MK3.out
      go_wp2_with fail
      refine (US.out _ (by have hB := B0.out; (repeat' (first | exact Below.refl _ _ | refine bstep ?_ hB | refine bstep ?_ hb3 | refine Below.setCell ?_ (by simp <;> omega) _ | refine balloc ?_ _ | refine Below.drew ?_ | refine bdrewN ?_ _)))).mono ?_
      rintro e w4 ⟨rfl, hb4⟩
      have MK4 := Lib.hid (mes_below MK3.out hb4)
      clear m1 m2 m3
      obtain ⟨m1, m2, m3⟩ := MK4.out
      go_wp2_with fail
      refine (VO.out _ (by have hB := B0.out; (repeat' (first | exact Below.refl _ _ | refine bstep ?_ hB | refine bstep ?_ hb3 | refine bstep ?_ hb4 | refine Below.setCell ?_ (by simp <;> omega) _ | refine balloc ?_ _ | refine Below.drew ?_ | refine bdrewN ?_ _)))).mono ?_
      rintro e w5 ⟨rfl, hb5⟩
      have MK5 := Lib.hid (mes_below MK4.out hb5)
      clear m1 m2 m3
      obtain ⟨m1, m2, m3⟩ := MK5.out
      go_wp2
      go_ret
      exact ⟨rfl, by have hB := B0.out; (repeat' (first | exact Below.refl _ _ | refine bstep ?_ hB | refine bstep ?_ hb3 | refine bstep ?_ hb4 | refine bstep ?_ hb5 | refine Below.setCell ?_ (by simp <;> omega) _ | refine balloc ?_ _ | refine Below.drew ?_ | refine bdrewN ?_ _))⟩

end Go.Proofs.Ytllonfaogbdbnaa
