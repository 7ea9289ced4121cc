/-
  TopSkeletons: a choice with a minor that is not 0, and a vector that does not fit.
-/
import Derived.Test.YtllonfaogbdbnaaCrMb
namespace Go.Proofs.Ytllonfaogbdbnaa
open Go.ChangeShapes Go.WideShapes Go.RowKit
open Cr
set_option maxRecDepth 100000 in
set_option maxHeartbeats 16000000 in
theorem topsk_F (A : Option Addr) (c : Nat) (M : List (List Int)) (R : Option Addr) (cr : Nat) (rows : List Int) (C : Option Addr) (cc : Nat) (cols : List Int) (X : Option Addr) (cx : Nat) (x : List Int) (p q : Int) (w : World) (lM : M.length ≤ c) (cM : c ≤ maxLen) (hM : ML w A M) (hlo : longB M = false) (i1 : ¬ (40 : Int) < (rows.length : Int)) (i2 : ¬ (40 : Int) < (cols.length : Int)) (i3 : ¬ (40 : Int) < (x.length : Int)) (AG : Hid (ArX w A M R C X rows cols x)) (kc : kcode M rows cols = 0) (dz : detR M rows cols ≠ 0) (h6 : ¬ 6 ≤ rows.length) (hf : fitB M x = false) :
    Calls Try.prog 5 #[.slice A M.length c, .agg #[.slice R rows.length cr, .slice C cols.length cc, .slice X x.length cx], .agg #[.int .i64 p, .int .i64 q]] w fun e w' => e = .returned (.bool true) ∧ Below w.heap.size w w' := by
  have hm0 : M.length ≤ 9223372036854775807 := by unfold maxLen at cM; omega
  have LO := Lib.hid (fun W (B : Below w.heap.size w W) => long_any6 A c M W (ml_in hM B) hm0)
  have X0 := Lib.hid (ts_new w R rows.length cr C cols.length cc X x.length cx p q)
  have KR := Lib.hid (fun W (a : Arg W (some ⟨w.heap.size + 4, 0, none⟩) [[2, 1], [1, 1]] (some ⟨w.heap.size + 5, 0, none⟩) (some ⟨w.heap.size + 6, 0, none⟩) [0, 1] [0, 1]) => minorP_any (some ⟨w.heap.size + 4, 0, none⟩) (some ⟨w.heap.size + 5, 0, none⟩) (some ⟨w.heap.size + 6, 0, none⟩) 2 2 2 [[2, 1], [1, 1]] [0, 1] [0, 1] W a)
  rw [kn_mnr, show ([[2, 1], [1, 1]] : List (List Int)).length = 2 from rfl, show ([0, 1] : List Int).length = 2 from rfl] at KR
  rw [hlo] at LO
  have i6 : ¬ (rows.length : Int) ≥ 6 := by omega
  have CO := Lib.hid (fun W (B : Below w.heap.size w W) => comp_all A c M p q W (ml_in AG.out.arg.mat B) AG.out.arg.len AG.out.arg.wid)
  have MI := Lib.hid (fun W (B : Below w.heap.size w W) => minorP_any A R C c cr cc M rows cols W (arg_in AG.out.arg B))
  rw [mnr_0 kc] at MI
  have hv := (kcode_cases kc).1
  have hc := (kcode_cases kc).2
  have ho := chs_of AG.out.arg kc
  have hl := (ch_under kc).2.2
  have ur := (ch_under kc).1
  have sr := ho.sr
  have sc := ho.sc
  have RE := Lib.hid (fun W (B : Below w.heap.size w W) (i j : Nat) (hi : i < M.length) (hj : j < (rw_ M 0).length) => (show Calls Try.prog 26 #[.slice A M.length c, .slice R rows.length cr, .slice C cols.length cc, .int .i64 (i : Int), .int .i64 (j : Int)] W fun e w' => e = .returned (.tuple #[rtv (ratq (bord M rows cols i j) (detR M rows cols)), .int .i64 0]) ∧ Below W.heap.size W w' from by
    have h := res_any A R C c cr cc M rows cols i j W (arg_in AG.out.arg B)
    rw [resd_0 kc dz hi hj] at h
    exact h))
  have RB := Lib.hid (fun (i j : Nat) (_ : i < M.length) (_ : j < (rw_ M 0).length) => ratq_back (n := bord M rows cols i j) dz)
  have RO := Lib.hid (fun (i j : Nat) (_ : i < M.length) (_ : j < (rw_ M 0).length) => ratq_one (n := bord M rows cols i j) dz)
  have r40 : rows.length ≤ 1000 := by omega
  have c40 : cols.length ≤ 1000 := by omega
  have LR := Lib.hid (fun W (B : Below w.heap.size w W) (i : Nat) (_ : i < M.length) => lon_all R cr rows (i : Int) (M.length : Int) W (il_in AG.out.arg.rowsI B) r40 sr)
  have LC := Lib.hid (fun W (B : Below w.heap.size w W) (j : Nat) (_ : j < (rw_ M 0).length) => lon_all C cc cols (j : Int) ((rw_ M 0).length : Int) W (il_in AG.out.arg.colsI B) c40 sc)
  have ZR := Lib.hid (fun (i j : Nat) (h : (rows.contains (i : Int) || cols.contains (j : Int)) = true) => (show bord M rows cols (i : Int) (j : Int) = 0 from if_pos h))
  have MN := Lib.hid (fun (i j : Nat) (hi : i < M.length) (hj : j < (rw_ M 0).length) (c1 : rows.contains (i : Int) = false) (c2 : cols.contains (j : Int) = false) (W : World) (A4 : Option Addr) (n4 c4 : Nat) (A5 : Option Addr) (n5 c5 : Nat) (B : Below w.heap.size w W) (g4 : ∃ p, Plc rows (i : Int) p ∧ n4 = rows.length + 1 ∧ IL W A4 (insI rows p (i : Int))) (g5 : ∃ p, Plc cols (j : Int) p ∧ n5 = cols.length + 1 ∧ IL W A5 (insI cols p (j : Int))) => min_all A c M rows cols i j W A4 n4 c4 A5 n5 c5 (arg_in AG.out.arg B) kc c1 c2 hi hj g4 g5)
  have RL := Lib.hid (fun (i : Nat) (hi : i < M.length) => (show (rw_ M i).length = (rw_ M 0).length from rw_len ho.cho.sq hi))
  have PR := Lib.hid (fun W (B : Below w.heap.size w W) => prodP_any A X c cx M x W (ml_in AG.out.arg.mat B) AG.out.arg.len AG.out.arg.wid (il_in AG.out.xI B) AG.out.nx)
  have FA := Lib.hid (fun W (B : Below w.heap.size w W) => fast_any A R C X c cr cc cx M rows cols x W (arx_in AG.out B))
  have HMw := Lib.hid AG.out.arg.mat
  have nn : (M.length : Int) ≤ 6 := by have := ho.cho.hn; omega
  have mm : ((rw_ M 0).length : Int) ≤ 6 := by have := ho.cho.hm; omega
  have t1 : (detR M rows cols == 0) = false := by simp [dz]
  have t2 : decide (detR M rows cols = 0) = false := decide_eq_false dz
  have e1 : pL M x = [] := by unfold pL; rw [if_neg (by rw [(pcode_1 hv hf).1]; decide)]
  have e2 : fcd M rows cols x = 1 := fcd_f hv hf
  rw [(pcode_1 hv hf).1, e1] at PR
  rw [fL_ne e2 (by decide), e2] at FA
  rw [show ([] : List Int).length = 0 from rfl] at PR
  rw [show ([] : List (Int × Int)).length = 0 from rfl] at FA
  clear AG lM cM hM hm0 hlo kc hv hc ho hl ur sr sc r40 c40 hf e1 e2 h6
  generalize detR M rows cols = d at *
  obtain ⟨m, hm⟩ : ∃ m, (rw_ M 0).length = m := ⟨_, rfl⟩
  rw [hm] at RE RB RO LC MN RL mm
  clear hm
  go_enter Try.func5, Try.ntmps5
  go_wp2_with fail
  with_reducible refine (KR.out _ (kn_arg2 w _ _)).mono ?_
  rintro e w1 ⟨rfl, hb⟩
  have X1 := Lib.hid (ts_below X0.out (bstep (balloc (balloc (balloc (balloc (balloc (Below.refl _ _) _) _) _) _) _) hb))
  clear hb
  obtain ⟨q0, q1, q2, y0, y1, _, b0, b1⟩ := ts_s X1.out
  go_wp2_with fail
  with_reducible refine (LO.out _ (ts_bel X1.out)).mono ?_
  rintro e w2 ⟨rfl, rfl⟩
  go_wp2_with fail
  refine (CO.out _ (ts_bel X1.out)).mono ?_
  rintro e w3 ⟨R', K, cr', E', K2, ce', e', rfl, hb, hc⟩
  have HC := Lib.hid hc
  have X3 := Lib.hid (ts_below X1.out hb)
  clear hb hc CO KR X0 LO
  clear q0 q1 q2 y0 y1 b0 b1
  obtain ⟨q0, q1, q2, y0, y1, _, b0, b1⟩ := ts_s X3.out
  go_upto_region 7 with fail
  go_cut [78] (fun sv wx => sv = .bool false ∧ TS w R rows.length cr C cols.length cc X x.length cx p q wx)
  case first =>
    by_cases z : e' = 0
    · have CC := Lib.hid (HC.out z _ (Below.refl _ _))
      have z1 : (e' == 0) = true := beq_iff_eq.2 z
      subst z
      go_wp2_with fail
      refine CC.out.mono ?_
      rintro e w4 ⟨rfl, hb4⟩
      have X4 := Lib.hid (ts_below X3.out hb4)
      clear hb4
      go_wp2_with fail
      go_meet
      exact ⟨rfl, X4.out⟩
    · have z1 : (e' == 0) = false := beq_eq_false_iff_ne.2 z
      have z2 : (e' != 0) = true := by simp [z]
      go_wp2_with fail
      go_meet
      exact ⟨rfl, X3.out⟩
  case rest =>
    obtain ⟨rfl, hst⟩ := hcut
    have X4 := Lib.hid hst
    clear hst HC X3 X1
    clear q0 q1 q2 y0 y1 b0 b1
    obtain ⟨q0, q1, q2, y0, y1, _, b0, b1⟩ := ts_s X4.out
    have MI4 := Lib.hid (MI.out _ (ts_bel X4.out))
    go_wp2_with fail
    refine MI4.out.mono ?_
    rintro e w5 ⟨rfl, hb⟩
    have X5 := Lib.hid (ts_below X4.out hb)
    clear hb X4 MI4
    clear q0 q1 q2 y0 y1 b0 b1
    obtain ⟨q0, q1, q2, y0, y1, _, b0, b1⟩ := ts_s X5.out
    go_wp2_with fail
    refine (PR.out _ (ts_bel X5.out)).mono ?_
    rintro e w6 ⟨A1, c1, rfl, il1, hb⟩
    have I1 := Lib.hid il1
    have X6 := Lib.hid (ts_below X5.out hb)
    clear hb il1 X5 PR
    clear q0 q1 q2 y0 y1 b0 b1
    obtain ⟨q0, q1, q2, y0, y1, _, b0, b1⟩ := ts_s X6.out
    go_wp2_with fail
    refine (FA.out _ (ts_bel X6.out)).mono ?_
    rintro e w7 ⟨A2, c2, rfl, il2, hb⟩
    have I1 := Lib.hid (il_in I1.out hb)
    have I2 := Lib.hid il2
    have X7 := Lib.hid (ts_below X6.out hb)
    clear hb il2 X6 FA
    have X6 := X7
    clear X7
    clear q0 q1 q2 y0 y1 b0 b1
    have HM := Lib.hid (ml_in HMw.out (ts_bel X6.out))
    go_wp2_with fail
    generalize w7 = W0 at *
    go_loopw [16] (fun iv wr => ∃ i : Nat, i ≤ M.length ∧ iv = .int .i64 (i : Int) ∧ Below W0.heap.size W0 wr) (fun iv _ => M.length - (intOf iv).toNat)
    case atStart => exact ⟨0, Nat.zero_le _, rfl, Below.refl _ _⟩
    case round =>
      rename World => wo
      obtain ⟨i, hi, rfl, Bo⟩ := hrel
      have BO := Lib.hid Bo
      by_cases hil : i < M.length
      · have hi1 : (i : Int) < (M.length : Int) := by omega
        have hi0 : 0 ≤ (i : Int) := by omega
        obtain ⟨b, o, Ar, ca, rfl, hb, hc, hl, hr⟩ := ml_in HM.out Bo i hil
        rw [RL.out i hil] at hc
        have HC := Lib.hid hc
        have HB := Lib.hid hb
        clear Bo hb hl hr hc
        go_wp2_with fail
        go_loopw [17, 18] (fun sv jv ws => ∃ j : Nat, j ≤ m ∧ jv = .int .i64 (j : Int) ∧ sv = .int .i64 (0 : Int) ∧ Below wo.heap.size wo ws) (fun _ jv _ => m - (intOf jv).toNat)
        case atStart => exact ⟨0, Nat.zero_le _, rfl, rfl, Below.refl _ _⟩
        case round =>
          rename World => ws
          obtain ⟨j, hj, rfl, rfl, Bs⟩ := hrel
          have BS := Lib.hid Bs
          have hc := (Bs.cell (p := ⟨b, o + i, none⟩) HB.out).trans HC.out
          have hb := Nat.lt_of_lt_of_le HB.out Bs.size
          have XS := Lib.hid (ts_below (ts_below X6.out BO.out) Bs)
          clear Bs
          by_cases hjl : j < m
          · have hj1 : (j : Int) < (m : Int) := by omega
            have hj0 : 0 ≤ (j : Int) := by omega
            have REk := Lib.hid (RE.out _ (ts_bel XS.out) i j hil hjl)
            obtain ⟨rb1, rb2, rb3⟩ := RB.out i j hil hjl
            have one := RO.out i j hil hjl
            have L1 := Lib.hid (fun W (B : Below w.heap.size w W) => LR.out W B i hil)
            have L2 := Lib.hid (fun W (B : Below w.heap.size w W) => LC.out W B j hjl)
            have Z1 := Lib.hid (ZR.out i j)
            have MNk := Lib.hid (MN.out i j hil hjl)
            generalize ratq (bord M rows cols (i : Int) (j : Int)) d = r at *
            generalize bord M rows cols (i : Int) (j : Int) = y at *
            obtain ⟨r1, r2⟩ := r
            have rb1 : r1 * d.tdiv r2 = y := rb1
            have tm : d.tmod r2 = 0 := rb2
            have one : 1 ≤ r2 := one
            have rz : r1 = 0 ↔ y = 0 := rb3
            have n1 : ¬ r2 < 1 := by omega
            have n2 : decide (r2 < 1) = false := decide_eq_false n1
            have n3 : (r2 == 0) = false := by simp; omega
            have n4 : (r2 != 0) = true := by simp; omega
            have n5 : ¬ r2 = 0 := by omega
            clear rb2 rb3
            clear rb1
            obtain ⟨q0, q1, q2, y0, y1, _, b0, b1⟩ := ts_s XS.out
            go_wp2_with fail
            with_reducible refine REk.out.mono ?_
            rintro e w2 ⟨rfl, hb2⟩
            have B2 := Lib.hid (hb2.trans ((alloc_below w2 (rtc (r1, r2))).mono hb2.size))
            have Y2 := Lib.hid (rbk_new w2 (r1, r2))
            have X2 := Lib.hid (ts_below XS.out B2.out)
            have BT := Lib.hid (bstep BS.out B2.out)
            clear hb2 hc hb
            clear q0 q1 q2 y0 y1 b0 b1
            obtain ⟨q0, q1, q2, y0, y1, _, b0, b1⟩ := ts_s X2.out
            obtain ⟨z0, z1, z2⟩ := rbk_s Y2.out
            go_wp2_with fail
            clear tm n1 n2 n3 n4 n5
            have BT3 := Lib.hid BT.out
            have X3 := Lib.hid X2.out
            have Y3 := Lib.hid Y2.out
            clear q0 q1 q2 y0 y1 b0 b1
            clear z0 z1 z2
            obtain ⟨q0, q1, q2, y0, y1, _, b0, b1⟩ := ts_s X3.out
            cases c1 : rows.contains (i : Int) with
            | true =>
              have ry := Z1.out (by rw [c1]; rfl)
              obtain rfl := rz.2 ry
              clear rz ry
              rw [c1] at L1
              go_wp2_with fail
              refine (L1.out _ (ts_bel X3.out)).mono ?_
              rintro e w4 ⟨A4, n4, c4, rfl, hb4, _⟩
              have X4 := Lib.hid (ts_below X3.out hb4)
              have Y4 := Lib.hid (rbk_below Y3.out hb4)
              have BT4 := Lib.hid (bstep BT3.out hb4)
              clear hb4
              clear q0 q1 q2 y0 y1 b0 b1
              obtain ⟨q0, q1, q2, y0, y1, _, b0, b1⟩ := ts_s X4.out
              have L2k := Lib.hid (L2.out _ (ts_bel X4.out))
              go_wp2_with fail
              refine L2k.out.mono ?_
              rintro e w5 ⟨A5, n5, c5, rfl, hb5, _⟩
              have Y5 := Lib.hid (rbk_below Y4.out hb5)
              have BT5 := Lib.hid (bstep BT4.out hb5)
              clear hb5
              obtain ⟨z0, z1, z2⟩ := rbk_s Y5.out
              go_wp2_with fail
              go_roundw
              case rel => exact ⟨j + 1, by omega, by go_num, rfl, BT5.out⟩
              case measure => simp [intOf]; omega
            | false =>
              rw [c1] at L1
              go_wp2_with fail
              refine (L1.out _ (ts_bel X3.out)).mono ?_
              rintro e w4 ⟨A4, n4, c4, rfl, hb4, hm4⟩
              have X4 := Lib.hid (ts_below X3.out hb4)
              have Y4 := Lib.hid (rbk_below Y3.out hb4)
              have BT4 := Lib.hid (bstep BT3.out hb4)
              have HM4 := Lib.hid hm4
              clear hb4 hm4
              clear q0 q1 q2 y0 y1 b0 b1
              obtain ⟨q0, q1, q2, y0, y1, _, b0, b1⟩ := ts_s X4.out
              have L2k := Lib.hid (L2.out _ (ts_bel X4.out))
              cases c2 : cols.contains (j : Int) with
              | true =>
                have ry := Z1.out (by rw [c2]; simp)
                obtain rfl := rz.2 ry
                clear rz ry
                rw [c2] at L2k
                go_wp2_with fail
                refine L2k.out.mono ?_
                rintro e w5 ⟨A5, n5, c5, rfl, hb5, _⟩
                have Y5 := Lib.hid (rbk_below Y4.out hb5)
                have BT5 := Lib.hid (bstep BT4.out hb5)
                clear hb5
                obtain ⟨z0, z1, z2⟩ := rbk_s Y5.out
                go_wp2_with fail
                go_roundw
                case rel => exact ⟨j + 1, by omega, by go_num, rfl, BT5.out⟩
                case measure => simp [intOf]; omega
              | false =>
                rw [c2] at L2k
                go_wp2_with fail
                refine L2k.out.mono ?_
                rintro e w5 ⟨A5, n5, c5, rfl, hb5, hm5⟩
                have X5 := Lib.hid (ts_below X4.out hb5)
                have Y5 := Lib.hid (rbk_below Y4.out hb5)
                have BT5 := Lib.hid (bstep BT4.out hb5)
                obtain ⟨v, hv1, hv2⟩ := MNk.out c1 c2 _ _ _ _ _ _ _ (ts_bel X5.out) (by obtain ⟨pp, g1, g2, g3⟩ := HM4.out (by simp); exact ⟨pp, g1, g2, il_in g3 hb5⟩) (hm5 (by simp))
                have HV := Lib.hid hv1
                obtain ⟨z0, z1, z2⟩ := rbk_s Y5.out
                go_wp2_with fail
                refine HV.out.mono ?_
                rintro e w6 ⟨rfl, hb6⟩
                have Y6 := Lib.hid (rbk_below Y5.out hb6)
                have BT6 := Lib.hid (bstep BT5.out hb6)
                clear hb6 z0 z1 z2
                obtain ⟨z0, z1, z2⟩ := rbk_s Y6.out
                have vr : v = 0 ↔ r1 = 0 := hv2.trans rz.symm
                by_cases v0 : v = 0
                · obtain rfl := vr.1 v0
                  subst v0
                  clear vr rz hv2
                  go_wp2_with fail
                  go_roundw
                  case rel => exact ⟨j + 1, by omega, by go_num, rfl, BT6.out⟩
                  case measure => simp [intOf]; omega
                · have v1 : ¬ r1 = 0 := fun e => v0 (vr.2 e)
                  have v2 : (v != 0) = true := by simp [v0]
                  have v3 : (r1 != 0) = true := by simp [v1]
                  have v4 : decide (v = 0) = false := decide_eq_false v0
                  have v5 : decide (r1 = 0) = false := decide_eq_false v1
                  have v6 : (v == 0) = false := by simp [v0]
                  have v7 : (r1 == 0) = false := by simp [v1]
                  clear vr rz hv2
                  go_wp2_with fail
                  go_roundw
                  case rel => exact ⟨j + 1, by omega, by go_num, rfl, BT6.out⟩
                  case measure => simp [intOf]; omega
          · obtain rfl : j = m := by omega
            go_wp2_with fail
            clear hc hb
            go_quiet (fail)
            go_wp2_with fail
            go_roundw
            case rel => exact ⟨i + 1, by omega, by go_num, bdrewN (bstep BO.out BS.out) _⟩
            case measure => simp [intOf]; omega
      · obtain rfl : i = M.length := by omega
        have XE := Lib.hid (ts_below X6.out Bo)
        clear Bo
        have HB := Lib.hid (ts_bel XE.out)
        go_wp2_with fail
        go_ret
        exact ⟨rfl, HB.out⟩


end Go.Proofs.Ytllonfaogbdbnaa
