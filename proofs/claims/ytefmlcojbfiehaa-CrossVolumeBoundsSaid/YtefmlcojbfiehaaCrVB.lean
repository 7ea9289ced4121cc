/-
  The walk of CrossVolumeBounds.
-/
import Derived.Test.YtefmlcojbfiehaaCrVB0
namespace Go.Proofs.Ytefmlcojbfiehaa
open Go.ChangeShapes Go.WideShapes Go.RowKit
open Cr
set_option maxRecDepth 100000 in
set_option maxHeartbeats 4000000 in
theorem vbounds_walk (A : Option Addr) (c : Nat) (M : List (List Int)) (k : Int) (w : World) (lM : M.length ≤ c) (cM : c ≤ maxLen) (hM : ML w A M) :
    Calls Try.prog 13 #[.slice A M.length c, .int .i64 k] w fun e w' => e = .returned (.bool true) ∧ Below w.heap.size w w' := by
  have hm0 : M.length ≤ 9223372036854775807 := by unfold maxLen at cM; omega
  have LO := Lib.hid (fun W (B : Below w.heap.size w W) => long_any6 A c M W (ml_in hM B) hm0)
  have KN := Lib.hid (fun W => known6_any W)
  cases hlo : longB M with
  | true =>
    rw [hlo] at LO
    clear lM cM hM hlo hm0
    go_enter Try.func13, Try.ntmps13
    go_wp2_with fail
    with_reducible refine (LO.out _ (Below.refl _ _)).mono ?_
    rintro e w2 ⟨rfl, rfl⟩
    have HB := Lib.hid (Below.refl w.heap.size w)
    go_wp2_with fail
    with_reducible refine (KN.out _).mono ?_
    rintro e w9 ⟨rfl, hb9⟩
    have HB9 := Lib.hid (bstep HB.out hb9)
    clear hb9
    go_wp2_with fail
    go_ret
    exact ⟨rfl, HB9.out⟩
  | false =>
    rw [hlo] at LO
    obtain ⟨ln, wd⟩ := long_no hlo
    have ln' : M.length ≤ 1000 := by omega
    have wd' : ∀ i, i < M.length → (rw_ M i).length ≤ 1000 := fun i hi => by have := wd i hi; omega
    have P1 := Lib.hid (fun W (B : Below w.heap.size w W) => volP_any A c M k W (ml_in hM B) ln' wd')
    by_cases hz : zcode M k = 0
    · by_cases hv0 : (vlm M k).1 = 0
      · rw [hv0] at P1
        have e2 : (vlm M k).2 = 0 := by rw [vlm_0 hz]
        rw [e2] at P1
        clear lM cM hM hlo hm0 ln wd ln' wd' hz hv0 e2
        go_enter Try.func13, Try.ntmps13
        go_wp2_with fail
        with_reducible refine (LO.out _ (Below.refl _ _)).mono ?_
        rintro e w2 ⟨rfl, rfl⟩
        go_wp2_with fail
        with_reducible refine (P1.out _ (Below.refl _ _)).mono ?_
        rintro e w3 ⟨rfl, hb⟩
        have HB := Lib.hid hb
        clear hb
        go_wp2_with fail
        with_reducible refine (KN.out _).mono ?_
        rintro e w9 ⟨rfl, hb9⟩
        have HB9 := Lib.hid (bstep HB.out hb9)
        clear hb9
        go_wp2_with fail
        go_ret
        exact ⟨rfl, HB9.out⟩
      · have P2 := Lib.hid (fun W (B : Below w.heap.size w W) => volP_any A c M (k + 1) W (ml_in hM B) ln' wd')
        have P3 := Lib.hid (fun W (B : Below w.heap.size w W) => largP_any A c M k W (ml_in hM B) ln' wd')
        have RW := Lib.hid (fun W (B : Below w.heap.size w W) R E cr ce rows cols (h1 : IL W R rows) (h2 : IL W E cols) (l1 : rows.length ≤ 6) (l2 : cols.length ≤ 6) =>
          worstP_any A R E c cr ce M rows cols W (arg_of (ml_in hM B) h1 h2 hlo (by omega) (by omega)))
        have e2 : (vlm M k).2 = 0 := by rw [vlm_0 hz]
        have LZ := Lib.hid (fun W rv cv (h : LG W M k rv cv) => lgv_of hz hv0 h)
        obtain ⟨_, k0, kn⟩ := zcode_of hz
        have k9 : k ≤ 1000 := by
          have := sd_le M.length (rw_ M 0).length
          omega
        have WK : IntKind.i64.wrap (k + 1) = k + 1 := IntWalk.i64_in _ (by omega)
        rw [e2] at P1 P3
        have t0 : ((vlm M k).1 == 0) = false := by simp [hv0]
        unfold nxt at LZ
        clear lM cM hM hlo hm0 ln wd ln' wd' hz e2 kn
        generalize (vlm M k).1 = v at *
        by_cases he : (vlm M (k + 1)).2 = 0
        · rw [if_pos he] at LZ
          rw [he] at P2
          clear he
          generalize (vlm M (k + 1)).1 = v' at *
          generalize LG = LGG at *
          go_enter Try.func13, Try.ntmps13
          go_wp2_with fail
          with_reducible refine (LO.out _ (Below.refl _ _)).mono ?_
          rintro e w2 ⟨rfl, rfl⟩
          go_wp2_with fail
          with_reducible refine (P1.out _ (Below.refl _ _)).mono ?_
          rintro e w3 ⟨rfl, hb⟩
          have HB3 := Lib.hid hb
          clear hb
          go_wp2_with fail
          with_reducible refine (P2.out _ HB3.out).mono ?_
          rintro e w4 ⟨rfl, hb⟩
          have HB4 := Lib.hid (bstep HB3.out hb)
          clear hb
          go_wp2_with fail
          with_reducible refine (P3.out _ HB4.out).mono ?_
          rintro e w5 ⟨rv, cv, rfl, hp, hb⟩
          obtain ⟨R, cr, E, ce, rows, cols, P, Q, V, N, rfl, rfl, i1, i2, l1, l2, ew, eV, eN, bP, bQ, bV, bN, q1, le⟩ := LZ.out _ _ _ hp
          have HB5 := Lib.hid (bstep HB4.out hb)
          have RWW := Lib.hid (RW.out _ HB5.out R E cr ce rows cols i1 i2 l1 l2)
          rw [ew] at RWW
          have RWQ := Lib.hid (show Calls Try.prog 35 #[.slice A M.length c, .slice R rows.length cr, .slice E cols.length ce] w5 fun e w' => e = .returned (.tuple #[rtv ((P : Int), (Q : Int)), .int .i64 0]) ∧ Below w5.heap.size w5 w' from RWW.out)
          have AT := Lib.hid (fun W => atm_gen P Q N V W bP bQ bN bV)
          have ed : decide (P * V ≤ N * Q) = true := by simp [le]
          rw [ed] at AT
          have p0 : 0 ≤ (P : Int) := by omega
          have q0 : 0 < (Q : Int) := by omega
          have q2 : (Q : Int) ≤ 9000000000000000000 := by omega
          have p2 : (P : Int) ≤ 9000000000000000000 := by omega
          have q00 : 0 ≤ (Q : Int) := by omega
          have n0 : 0 ≤ (N : Int) := by omega
          have n2 : (N : Int) ≤ 9000000000000000000 := by omega
          have vv0 : 0 ≤ (V : Int) := by omega
          have v2 : (V : Int) ≤ 9000000000000000000 := by omega
          clear hp hb i1 i2 l1 l2 ew RWW HB3 HB4 ed le q1 bP bQ bV bN hv0
          subst eV
          subst eN
          go_wp2_with fail
          with_reducible refine RWQ.out.mono ?_
          rintro e w6 ⟨rfl, hb⟩
          have HB6 := Lib.hid (bstep HB5.out hb)
          clear hb
          go_wp2_with fail
          with_reducible refine (AT.out _).mono ?_
          rintro e w7 ⟨rfl, hb⟩
          have HB := Lib.hid (bstep (balloc HB6.out _) hb)
          clear hb
          go_wp2_with fail
          with_reducible refine (KN.out _).mono ?_
          rintro e w9 ⟨rfl, hb9⟩
          have HB9 := Lib.hid (bstep HB.out hb9)
          clear hb9
          go_wp2_with fail
          go_ret
          exact ⟨rfl, HB9.out⟩
        · rw [if_neg he] at LZ
          generalize (vlm M (k + 1)).1 = v' at *
          generalize LG = LGG at *
          generalize (vlm M (k + 1)).2 = e' at *
          have t1 : (e' != 0) = true := by simp [he]
          clear he
          go_enter Try.func13, Try.ntmps13
          go_wp2_with fail
          with_reducible refine (LO.out _ (Below.refl _ _)).mono ?_
          rintro e w2 ⟨rfl, rfl⟩
          go_wp2_with fail
          with_reducible refine (P1.out _ (Below.refl _ _)).mono ?_
          rintro e w3 ⟨rfl, hb⟩
          have HB3 := Lib.hid hb
          clear hb
          go_wp2_with fail
          with_reducible refine (P2.out _ HB3.out).mono ?_
          rintro e w4 ⟨rfl, hb⟩
          have HB4 := Lib.hid (bstep HB3.out hb)
          clear hb
          go_wp2_with fail
          with_reducible refine (P3.out _ HB4.out).mono ?_
          rintro e w5 ⟨rv, cv, rfl, hp, hb⟩
          obtain ⟨R, cr, E, ce, rows, cols, P, Q, V, N, rfl, rfl, i1, i2, l1, l2, ew, eV, eN, bP, bQ, bV, bN, q1, le⟩ := LZ.out _ _ _ hp
          have HB5 := Lib.hid (bstep HB4.out hb)
          have RWW := Lib.hid (RW.out _ HB5.out R E cr ce rows cols i1 i2 l1 l2)
          rw [ew] at RWW
          have RWQ := Lib.hid (show Calls Try.prog 35 #[.slice A M.length c, .slice R rows.length cr, .slice E cols.length ce] w5 fun e w' => e = .returned (.tuple #[rtv ((P : Int), (Q : Int)), .int .i64 0]) ∧ Below w5.heap.size w5 w' from RWW.out)
          have AT := Lib.hid (fun W => atm_gen P Q N V W bP bQ bN bV)
          have ed : decide (P * V ≤ N * Q) = true := by simp [le]
          rw [ed] at AT
          have p0 : 0 ≤ (P : Int) := by omega
          have q0 : 0 < (Q : Int) := by omega
          have q2 : (Q : Int) ≤ 9000000000000000000 := by omega
          have p2 : (P : Int) ≤ 9000000000000000000 := by omega
          have q00 : 0 ≤ (Q : Int) := by omega
          have n0 : 0 ≤ (N : Int) := by omega
          have n2 : (N : Int) ≤ 9000000000000000000 := by omega
          have vv0 : 0 ≤ (V : Int) := by omega
          have v2 : (V : Int) ≤ 9000000000000000000 := by omega
          clear hp hb i1 i2 l1 l2 ew RWW HB3 HB4 ed le q1 bP bQ bV bN hv0
          subst eV
          obtain rfl : N = 0 := by omega
          rw [show ((0 : Nat) : Int) = 0 from rfl] at AT
          clear eN n0 n2
          go_wp2_with fail
          with_reducible refine RWQ.out.mono ?_
          rintro e w6 ⟨rfl, hb⟩
          have HB6 := Lib.hid (bstep HB5.out hb)
          clear hb
          go_wp2_with fail
          with_reducible refine (AT.out _).mono ?_
          rintro e w7 ⟨rfl, hb⟩
          have HB := Lib.hid (bstep (balloc HB6.out _) hb)
          clear hb
          go_wp2_with fail
          with_reducible refine (KN.out _).mono ?_
          rintro e w9 ⟨rfl, hb9⟩
          have HB9 := Lib.hid (bstep HB.out hb9)
          clear hb9
          go_wp2_with fail
          go_ret
          exact ⟨rfl, HB9.out⟩
    · rw [vlm_1 hz] at P1
      clear lM cM hM hlo hm0 ln wd ln' wd'
      generalize hzc : zcode M k = e at *
      have t1 : (e != 0) = true := by simp [hz]
      clear hz hzc
      go_enter Try.func13, Try.ntmps13
      go_wp2_with fail
      with_reducible refine (LO.out _ (Below.refl _ _)).mono ?_
      rintro e w2 ⟨rfl, rfl⟩
      go_wp2_with fail
      with_reducible refine (P1.out _ (Below.refl _ _)).mono ?_
      rintro e w3 ⟨rfl, hb⟩
      have HB := Lib.hid hb
      clear hb
      go_wp2_with fail
      with_reducible refine (KN.out _).mono ?_
      rintro e w9 ⟨rfl, hb9⟩
      have HB9 := Lib.hid (bstep HB.out hb9)
      clear hb9
      go_wp2_with fail
      go_ret
      exact ⟨rfl, HB9.out⟩

end Go.Proofs.Ytefmlcojbfiehaa
