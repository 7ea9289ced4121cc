/-
  The walk of CrossRanks.
-/
import Derived.Test.YtefmlcojbfiehaaCrR3
namespace Go.Proofs.Ytefmlcojbfiehaa
open Go.ChangeShapes Go.WideShapes Go.RowKit
open Cr
theorem ml_nil (w : World) (A : Option Addr) : ML w A [] := fun i hi => absurd hi (Nat.not_lt_zero i)
theorem rkc_nil : rkc [] = (0, 4) := by decide +kernel
set_option maxRecDepth 100000 in
set_option maxHeartbeats 4000000 in
theorem ranks_walk (A : Option Addr) (c : Nat) (M : List (List Int)) (w : World) (lM : M.length ≤ c) (cM : c ≤ maxLen) (hM : ML w A M) :
    Calls Try.prog 4 #[.slice A M.length c] w fun e w' => e = .returned (.bool true) ∧ Below w.heap.size w w' := by
  have hm0 : M.length ≤ 9223372036854775807 := by unfold maxLen at cM; omega
  have LO := Lib.hid (fun W (B : Below w.heap.size w W) => long_any6 A c M W (ml_in hM B) hm0)
  have KN := Lib.hid (fun W => known6_any W)
  cases hlo : longB M with
  | true =>
    rw [hlo] at LO
    clear lM cM hM hlo hm0
    go_enter Try.func4, Try.ntmps4
    go_wp2_with fail
    with_reducible refine (LO.out _ (Below.refl _ _)).mono ?_
    rintro e w2 ⟨rfl, rfl⟩
    have HB := Lib.hid (Below.refl w.heap.size w)
    go_wp2_with fail
    with_reducible refine (KN.out _).mono ?_
    rintro e w9 ⟨rfl, hb9⟩
    have HB9 := Lib.hid (bstep HB.out hb9)
    clear hb9
    go_wp2_with fail
    go_ret
    exact ⟨rfl, HB9.out⟩
  | false =>
    rw [hlo] at LO
    obtain ⟨ln, wd⟩ := long_no hlo
    have ln' : M.length ≤ 1000 := by omega
    have wd' : ∀ i, i < M.length → (rw_ M i).length ≤ 1000 := fun i hi => by have := wd i hi; omega
    have CP := Lib.hid (mcopy_any A c M w hM ln' wd')
    have R1 := Lib.hid (fun W A' c' (h : ML W A' M) => rankP_any A' c' M W h ln' wd')
    have R2 := Lib.hid (fun W (B : Below w.heap.size w W) => rrankP_any A c M W (ml_in hM B) ln' wd')
    have SMQ := Lib.hid (fun W A' c' (h : ML W A' M) (B : Below w.heap.size w W) => msame_any A' A c' c M W h (ml_in hM B) ln' wd')
    by_cases hv : vcode M = 0
    · have T1 := Lib.hid (fun W A' c' (h : ML W A' M) => transP_tn A' c' M W h hv)
      have T2 := Lib.hid (fun W (B : Below w.heap.size w W) => rtransP_ok A c M W (ml_in hM B) hv)
      obtain ⟨n, m, q, n1, n6, m1, m6⟩ := sq_of hv
      obtain rfl : M.length = n := q.len
      obtain ⟨m, hm⟩ : ∃ m', (rw_ M 0).length = m' := ⟨_, rfl⟩
      have m6' : m ≤ 6 := by rw [← hm, rw_len q (by omega)]; exact m6
      have lt : (tr M).length = m := by rw [tr_len, hm]
      have rl : ∀ i, i < (tr M).length → (rw_ (tr M) i).length = M.length := fun i hi => tr_rlen M (by rw [tr_len] at hi; exact hi)
      have SM := Lib.hid (fun W A1 A2 c1 c2 (h1 : ML W A1 (tr M)) (h2 : ML W A2 (tr M)) => msame_any A1 A2 c1 c2 (tr M) W h1 h2 (by rw [lt]; omega) (fun i hi => by rw [rl i hi]; omega))
      have R3 := Lib.hid (fun W A1 c1 (h1 : ML W A1 (tr M)) => rankP_any A1 c1 (tr M) W h1 (by rw [lt]; omega) (fun i hi => by rw [rl i hi]; omega))
      rw [tr_rkc hv] at R3
      have WTN := Lib.hid (fun w0 wi T (h : Tn w0 wi (tr M) (fun _ => M.length) T) => (show WT w0 w0.heap.size m M.length (fun x => rB (T x)) (fun x => cB (T x)) wi from lt ▸ wt_tn h (by omega) rl))
      have TNA := Lib.hid (fun w0 wi T (h : Tn w0 wi (tr M) (fun _ => M.length) T) => tn_all h (fun i hi => by rw [rl i hi]; exact Nat.le_refl _))
      have e2 : (rkc M).2 = 0 := by rw [rkc_0 hv]
      rw [e2] at R1 R2 R3
      rw [lt] at T2 SM R3
      rw [hm] at T1
      have nn : (M.length : Int) ≤ 6 := by omega
      have mm : (m : Int) ≤ 6 := by omega
      have n0 : 0 ≤ (M.length : Int) := by omega
      clear lM cM hM hlo hm0 ln wd ln' wd' hv q n1 n6 m1 m6 hm m6' lt rl e2
      generalize (rkc M).1 = rr at *
      generalize tr M = S at *
      go_enter Try.func4, Try.ntmps4
      go_wp2_with fail
      with_reducible refine (LO.out _ (Below.refl _ _)).mono ?_
      rintro e w2 ⟨rfl, rfl⟩
      go_wp2_with fail
      with_reducible refine (CP.out).mono ?_
      rintro e w2 ⟨A2, c2, rfl, _, hML, hb⟩
      have HB2 := Lib.hid hb
      have HM2 := Lib.hid hML
      clear hb hML
      go_wp2_with fail
      with_reducible refine (R1.out _ A2 c2 HM2.out).mono ?_
      rintro e w3 ⟨rfl, hb⟩
      have HB3 := Lib.hid (bstep HB2.out hb)
      have HM3 := Lib.hid (ml_in HM2.out hb)
      clear hb
      go_wp2_with fail
      with_reducible refine (R2.out _ HB3.out).mono ?_
      rintro e w4 ⟨rfl, hb⟩
      have HB4 := Lib.hid (bstep HB3.out hb)
      have HM4 := Lib.hid (ml_in HM3.out hb)
      clear hb
      go_wp2_with fail
      with_reducible refine (T1.out _ A2 c2 HM4.out).mono ?_
      rintro e w5 ⟨T, rfl, hT⟩
      have WT5 := Lib.hid (WTN.out _ _ _ hT)
      have MT5 := Lib.hid (TNA.out _ _ _ hT)
      have HB5 := Lib.hid (bstep HB4.out hT.bel)
      clear hT
      generalize (fun x => rB (T x)) = r at *
      generalize (fun x => cB (T x)) = cR at *
      have g4 : w4.heap.size = w4.heap.size := rfl
      clear g4
      go_wp2_with fail
      with_reducible refine (T2.out _ HB5.out).mono ?_
      rintro e w6 ⟨A6, c6, rfl, hML, hb⟩
      have HB6 := Lib.hid (bstep HB5.out hb)
      have WT6 := Lib.hid (wt_in WT5.out hb)
      have MT6 := Lib.hid (ml_in MT5.out hb)
      have MS6 := Lib.hid hML
      clear hb hML WT5 MT5
      go_wp2_with fail
      with_reducible refine (SM.out _ _ _ _ _ MT6.out MS6.out).mono ?_
      rintro e w7 ⟨rfl, hb⟩
      have HB7 := Lib.hid (bstep HB6.out hb)
      have WT7 := Lib.hid (wt_in WT6.out hb)
      have MT7 := Lib.hid (ml_in MT6.out hb)
      clear hb WT6 MT6 MS6
      go_wp2_with fail
      with_reducible refine (R3.out _ _ _ MT7.out).mono ?_
      rintro e w8 ⟨rfl, hb⟩
      have HB8 := Lib.hid (bstep HB7.out hb)
      have WT8 := Lib.hid (wt_in WT7.out hb)
      clear hb WT7 MT7 HB7 HB6 HB5 HB3 HB2 HM2 HM3
      go_wp2_with fail
      go_loopw [14] (fun kv wr => ∃ x : Nat, x ≤ m ∧ kv = .int .i64 (x : Int) ∧ WT w4 w4.heap.size m M.length r cR wr) (fun kv _ => m - (intOf kv).toNat)
      case atStart => exact ⟨0, Nat.zero_le _, rfl, WT8.out⟩
      case round =>
        obtain ⟨x, hx, rfl, hW⟩ := hrel
        have HW := Lib.hid hW
        by_cases hlt : x < m
        · have hx1 : (x : Int) < (m : Int) := by omega
          have hx0 : 0 ≤ (x : Int) := by omega
          clear hW
          go_wp2_with fail
          go_loopw [15] (fun kv wi => ∃ y : Nat, y ≤ M.length ∧ kv = .int .i64 (y : Int) ∧ WT w4 w4.heap.size m M.length r cR wi) (fun kv _ => M.length - (intOf kv).toNat)
          case atStart => exact ⟨0, Nat.zero_le _, rfl, HW.out⟩
          case round =>
            clear HW
            obtain ⟨y, hy, rfl, hW⟩ := hrel
            have HW := Lib.hid hW
            obtain ⟨x1, x2, x3, x4⟩ := hW.2 x hlt
            by_cases hyl : y < M.length
            · have hy1 : (y : Int) < (M.length : Int) := by omega
              have hy0 : 0 ≤ (y : Int) := by omega
              obtain ⟨⟨u, hu⟩, hf⟩ := x4 y hyl
              have ST := Lib.hid (wt_store HW.out hlt y (.int .i64 (-999)))
              clear hW x4 x2
              go_wp2_with fail
              go_roundw
              case rel => exact ⟨y + 1, by omega, by go_num, ST.out⟩
              case measure => simp [intOf]; omega
            · obtain rfl : y = M.length := by omega
              clear hW x4 x2 x3
              go_wp2_with fail
              go_roundw
              case rel => exact ⟨x + 1, by omega, by go_num, HW.out⟩
              case measure => simp [intOf]; omega
        · obtain rfl : x = m := by omega
          have HQ := Lib.hid (ml_in HM4.out hW.1)
          have HB := Lib.hid (bstep HB4.out hW.1)
          clear hW
          go_wp2_with fail
          with_reducible refine (SMQ.out _ A2 c2 HQ.out HB.out).mono ?_
          rintro e w9 ⟨rfl, hb⟩
          have HB0 := Lib.hid (bstep HB.out hb)
          clear hb HB HQ
          have HB := HB0
          clear HB0
          go_wp2_with fail
          with_reducible refine (KN.out _).mono ?_
          rintro e w9 ⟨rfl, hb9⟩
          have HB9 := Lib.hid (bstep HB.out hb9)
          clear hb9
          go_wp2_with fail
          go_ret
          exact ⟨rfl, HB9.out⟩
    · have T1 := Lib.hid (fun W A' c' (h : ML W A' M) => transP_err A' c' M W h ln' wd' hv)
      have T2 := Lib.hid (fun W (B : Below w.heap.size w W) => rtransP_err A c M W (ml_in hM B) ln' wd' hv)
      have SM := Lib.hid (fun W => msame_any none none 0 0 [] W (ml_nil W _) (ml_nil W _) (by decide) (fun i hi => absurd hi (Nat.not_lt_zero i)))
      have R3 := Lib.hid (fun W => rankP_any none 0 [] W (ml_nil W _) (by decide) (fun i hi => absurd hi (Nat.not_lt_zero i)))
      rw [rkc_nil] at R3
      rw [rkc_1 hv] at R1 R2
      rw [show ([] : List (List Int)).length = 0 from rfl] at SM R3
      clear lM cM hM hlo hm0 ln wd ln' wd'
      generalize vcode M = v at *
      have t1 : (v == 0) = false := by simp [hv]
      go_enter Try.func4, Try.ntmps4
      go_wp2_with fail
      with_reducible refine (LO.out _ (Below.refl _ _)).mono ?_
      rintro e w2 ⟨rfl, rfl⟩
      go_wp2_with fail
      with_reducible refine (CP.out).mono ?_
      rintro e w2 ⟨A2, c2, rfl, _, hML, hb⟩
      have HB2 := Lib.hid hb
      have HM2 := Lib.hid hML
      clear hb hML
      go_wp2_with fail
      with_reducible refine (R1.out _ A2 c2 HM2.out).mono ?_
      rintro e w3 ⟨rfl, hb⟩
      have HB3 := Lib.hid (bstep HB2.out hb)
      have HM3 := Lib.hid (ml_in HM2.out hb)
      clear hb
      go_wp2_with fail
      with_reducible refine (R2.out _ HB3.out).mono ?_
      rintro e w4 ⟨rfl, hb⟩
      have HB4 := Lib.hid (bstep HB3.out hb)
      have HM4 := Lib.hid (ml_in HM3.out hb)
      clear hb
      go_wp2_with fail
      with_reducible refine (T1.out _ A2 c2 HM4.out).mono ?_
      rintro e w5 ⟨rfl, hb⟩
      have HB5 := Lib.hid (bstep HB4.out hb)
      have HM5 := Lib.hid (ml_in HM4.out hb)
      clear hb
      go_wp2_with fail
      with_reducible refine (T2.out _ HB5.out).mono ?_
      rintro e w6 ⟨rfl, hb⟩
      have HB6 := Lib.hid (bstep HB5.out hb)
      have HM6 := Lib.hid (ml_in HM5.out hb)
      clear hb
      go_wp2_with fail
      with_reducible refine (SM.out _).mono ?_
      rintro e w7 ⟨rfl, hb⟩
      have HB7 := Lib.hid (bstep HB6.out hb)
      have HM7 := Lib.hid (ml_in HM6.out hb)
      clear hb
      go_wp2_with fail
      with_reducible refine (R3.out _).mono ?_
      rintro e w8 ⟨rfl, hb⟩
      have HB8 := Lib.hid (bstep HB7.out hb)
      have HM8 := Lib.hid (ml_in HM7.out hb)
      clear hb
      go_wp2_with fail
      go_loopw [14] (fun kv wr => kv = .int .i64 0 ∧ wr = w8) (fun _ _ => 0)
      case atStart => exact ⟨rfl, rfl⟩
      case round =>
        obtain ⟨rfl, rfl⟩ := hrel
        go_wp2_with fail
        with_reducible refine (SMQ.out _ A2 c2 HM8.out HB8.out).mono ?_
        rintro e w9 ⟨rfl, hb⟩
        have HB := Lib.hid (bstep HB8.out hb)
        clear hb
        go_wp2_with fail
        with_reducible refine (KN.out _).mono ?_
        rintro e w9 ⟨rfl, hb9⟩
        have HB9 := Lib.hid (bstep HB.out hb9)
        clear hb9
        go_wp2_with fail
        go_ret
        exact ⟨rfl, HB9.out⟩

end Go.Proofs.Ytefmlcojbfiehaa
