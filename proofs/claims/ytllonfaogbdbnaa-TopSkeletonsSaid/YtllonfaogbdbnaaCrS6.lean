/-
  The contract of largest.
-/
import Derived.Test.YtllonfaogbdbnaaCrS5
namespace Go.Proofs.Ytllonfaogbdbnaa
open Go.ChangeShapes Go.WideShapes Go.RowKit
open Cr
theorem sets_under {n q : Nat} (hn : n ≤ 6) {i : Nat} (hi : i < (setsN n q).length) : Under (rw_ (setsN n q) i) n ∧ (rw_ (setsN n q) i).length = q := by
  obtain ⟨h1, h2⟩ := sets_mem hn (rw_mem6 hi)
  exact ⟨(under_of h2).1, h1⟩
theorem fa_bd {n m q : Nat} {M : List (List Int)} (s : Sq n m M) (hn : n ≤ 6) (hm : m ≤ 6) (hq : q ≤ 6) {i j : Nat} (hi : i < (setsN n q).length) (hj : j < (setsN m q).length) :
    -504000000000000000 ≤ detR M (rw_ (setsN n q) i) (rw_ (setsN m q) j) ∧ detR M (rw_ (setsN n q) i) (rw_ (setsN m q) j) ≤ 504000000000000000 := by
  obtain ⟨u1, l1⟩ := sets_under hn hi
  obtain ⟨u2, l2⟩ := sets_under hm hj
  have h := detR_bd s u1 u2 l1 l2
  have hb := fB_le (n := q) (by omega)
  omega
set_option maxHeartbeats 4000000 in
theorem largest_any (A : Option Addr) (c n m q : Nat) (M : List (List Int)) (w : World) (hM : ML w A M) (sq : Sq n m M) (n1 : 1 ≤ n) (n6 : n ≤ 6) (m6 : m ≤ 6) (qn : q ≤ n) :
    Calls Try.prog 56 #[.slice A n c, .int .i64 (q : Int)] w fun e w' => ∃ rv cv, e = .returned (.tuple #[rv, cv, .int .i64 (gv M n m q (-1))]) ∧ PK w' M (setsN n q) (setsN m q) (gv M n m q (-1)) rv cv ∧ Below w.heap.size w w' := by
  have S1 := Lib.hid (fun W => sets_any n q W n6 (by omega))
  have S2 := Lib.hid (fun W => sets_any m q W m6 (by omega))
  have MI := Lib.hid (fun W (B : Below w.heap.size w W) i j R E cr ce (hi : i < (setsN n q).length) (hj : j < (setsN m q).length) (i1 : IL W R (rw_ (setsN n q) i)) (i2 : IL W E (rw_ (setsN m q) j)) =>
    minor_any A R E c cr ce n m q M (rw_ (setsN n q) i) (rw_ (setsN m q) j) W (ml_in hM B) sq i1 i2 (sets_under n6 hi).1 (sets_under m6 hj).1 (sets_under n6 hi).2 (sets_under m6 hj).2 (by omega))
  have AB := Lib.hid (fun W i j (hi : i < (setsN n q).length) (hj : j < (setsN m q).length) => absC_any (detR M (rw_ (setsN n q) i) (rw_ (setsN m q) j)) W (by have := fa_bd sq n6 m6 (by omega) hi hj; omega) (by have := fa_bd sq n6 m6 (by omega) hi hj; omega))
  have PN := Lib.hid (fun W i j R E cr ce (hi : i < (setsN n q).length) (hj : j < (setsN m q).length) (h1 : q ≤ cr) (h2 : q ≤ ce) (i1 : IL W R (rw_ (setsN n q) i)) (i2 : IL W E (rw_ (setsN m q) j)) => pk_new (w := W) (M := M) (R := R) (E := E) hi hj h1 h2 n6 m6 i1 i2)
  have LR := Lib.hid (fun i (hi : i < (setsN n q).length) => (sets_under n6 hi).2)
  have LC := Lib.hid (fun j (hj : j < (setsN m q).length) => (sets_under m6 hj).2)
  have FA := Lib.hid (show ∀ i j, absI (detR M (rw_ (setsN n q) i) (rw_ (setsN m q) j)) = fa M n m q i j from fun i j => rfl)
  have X1 := sets_max n (by omega) q (by omega)
  have X2 := sets_max m (by omega) q (by omega)
  obtain ⟨b0, o0, A0, c0, rfl, hb0, hc0, _, _⟩ := hM 0 (by rw [sq.len]; omega)
  rw [rw_len sq (by omega)] at hc0
  have hc0 : w.cell? ⟨b0, o0, none⟩ = some (.slice A0 m c0) := hc0
  have HC0 := Lib.hid hc0
  have HB0 := Lib.hid hb0
  have nn : (n : Int) ≤ 6 := by omega
  have n0 : 1 ≤ (n : Int) := by omega
  unfold gv
  obtain ⟨a1, e1⟩ : ∃ a, (setsN n q).length = a := ⟨_, rfl⟩
  obtain ⟨a2, e2⟩ : ∃ a, (setsN m q).length = a := ⟨_, rfl⟩
  rw [e1, e2]
  rw [e1] at S1 MI AB PN LR X1
  rw [e2] at S2 MI AB PN LC X2
  have E1 := Lib.hid e1
  have E2 := Lib.hid e2
  clear hM sq n1 n6 m6 qn hc0 hb0 e1 e2
  have PN := Lib.hid PN.out
  generalize fa M n m q = f at *
  go_enter Try.func56, Try.ntmps56
  go_wp2_with fail
  with_reducible refine (S1.out _).mono ?_
  rintro e w2 ⟨A2, c2, rfl, hL, hb⟩
  have HL := Lib.hid hL
  have HB := Lib.hid hb
  clear hL hb
  go_wp2_with fail
  go_loopw [4, 5, 6, 17] (fun rv cv vv kv wr => ∃ i : Nat, i ≤ a1 ∧ kv = .int .i64 (i : Int) ∧ vv = .int .i64 (allG f a2 i (-1)) ∧ PK wr M (setsN n q) (setsN m q) (allG f a2 i (-1)) rv cv ∧ Below w2.heap.size w2 wr) (fun _ _ _ kv _ => a1 - (intOf kv).toNat)
  case atStart => exact ⟨0, Nat.zero_le _, rfl, rfl, pk_0 _ _ _ _, Below.refl _ _⟩
  case round =>
    rename World => wo
    obtain ⟨i, hi, rfl, rfl, hp, B⟩ := hrel
    have HP := Lib.hid hp
    have HB2 := Lib.hid B
    have HBW := Lib.hid (bstep HB.out B)
    by_cases hlt : i < a1
    · have hk1 : (i : Int) < (a1 : Int) := by omega
      have hk0 : 0 ≤ (i : Int) := by omega
      have X1' : (a1 : Int) ≤ 64 := by omega
      obtain ⟨b1, o1, R, cr, rfl, hb1, hc1, hl1, hr1⟩ := HL.out i (by rw [E1.out]; exact hlt)
      rw [LR.out i hlt] at hc1 hl1
      have hca := (B.cell (p := ⟨b1, o1 + i, none⟩) hb1).trans hc1
      have hcb := (HBW.out.cell (p := ⟨b0, o0, none⟩) HB0.out).trans HC0.out
      have IR := Lib.hid (il_in hr1 B)
      have HL1 := Lib.hid hl1
      clear hp B hb1 hc1 hl1 hr1
      go_wp2_with fail
      with_reducible refine (S2.out _).mono ?_
      rintro e w3 ⟨A3, c3, rfl, hL, hb⟩
      have HL3 := Lib.hid hL
      have HP3 := Lib.hid (pk_in HP.out hb)
      have B23 := Lib.hid (bstep HB2.out hb)
      have BW3 := Lib.hid (bstep HBW.out hb)
      have IR3 := Lib.hid (il_in IR.out hb)
      clear hL hb hca hcb HP IR HB2 HBW
      go_wp2_with fail
      go_loopw [4, 5, 6, 28] (fun rv cv vv kv wi => ∃ j : Nat, j ≤ a2 ∧ kv = .int .i64 (j : Int) ∧ vv = .int .i64 (rowG (f i) j (allG f a2 i (-1))) ∧ PK wi M (setsN n q) (setsN m q) (rowG (f i) j (allG f a2 i (-1))) rv cv ∧ Below w3.heap.size w3 wi) (fun _ _ _ kv _ => a2 - (intOf kv).toNat)
      case atStart => exact ⟨0, Nat.zero_le _, rfl, rfl, HP3.out, Below.refl _ _⟩
      case round =>
        rename World => wi
        clear HP3
        obtain ⟨j, hj, rfl, rfl, hp, B⟩ := hrel
        have HP := Lib.hid hp
        have BI := Lib.hid B
        have B2i := Lib.hid (bstep B23.out B)
        have BWi := Lib.hid (bstep BW3.out B)
        by_cases hltj : j < a2
        · have hj1 : (j : Int) < (a2 : Int) := by omega
          have hj0 : 0 ≤ (j : Int) := by omega
          have X2' : (a2 : Int) ≤ 64 := by omega
          obtain ⟨b3, o3, E, ce, rfl, hb3, hc3, hl3, hr3⟩ := HL3.out j (by rw [E2.out]; exact hltj)
          rw [LC.out j hltj] at hc3 hl3
          have hcc := (B.cell (p := ⟨b3, o3 + j, none⟩) hb3).trans hc3
          have IRi := Lib.hid (il_in IR3.out B)
          have IEi := Lib.hid (il_in hr3 B)
          have HL3' := Lib.hid hl3
          have MIj := Lib.hid (MI.out wi BWi.out i j R E cr ce hlt hltj IRi.out IEi.out)
          have ABj := Lib.hid (fun W => AB.out W i j hlt hltj)
          rw [FA.out i j] at ABj
          have PNj := Lib.hid (fun W h1 h2 => PN.out W i j R E cr ce hlt hltj HL1.out HL3'.out h1 h2)
          clear hp hb3 hc3 hl3 hr3
          generalize detR M (rw_ (setsN n q) i) (rw_ (setsN m q) j) = dd at *
          have RS : rowG (f i) (j + 1) (allG f a2 i (-1)) = mx (rowG (f i) j (allG f a2 i (-1))) (f i j) := rfl
          by_cases hgt : f i j > rowG (f i) j (allG f a2 i (-1))
          · have RS := RS.trans (mx_1 hgt)
            have RSH := Lib.hid RS
            clear RS B
            go_wp2_with fail
            with_reducible refine (MIj.out).mono ?_
            rintro e w5 ⟨rfl, hb⟩
            have HB5 := Lib.hid hb
            clear hb
            go_wp2_with fail
            with_reducible refine (ABj.out _).mono ?_
            rintro e w6 ⟨rfl, rfl⟩
            go_wp2_with fail
            go_roundw
            case rel => exact ⟨j + 1, by omega, by go_num, by rw [RSH.out], by rw [RSH.out]; exact pk_in (PNj.out _ IRi.out IEi.out) HB5.out, bstep BI.out HB5.out⟩
            case measure => simp [intOf]; omega
          · have RS := RS.trans (mx_0 hgt)
            have RSH := Lib.hid RS
            clear RS B
            go_wp2_with fail
            with_reducible refine (MIj.out).mono ?_
            rintro e w5 ⟨rfl, hb⟩
            have HB5 := Lib.hid hb
            clear hb
            go_wp2_with fail
            with_reducible refine (ABj.out _).mono ?_
            rintro e w6 ⟨rfl, rfl⟩
            go_wp2_with fail
            go_roundw
            case rel => exact ⟨j + 1, by omega, by go_num, by rw [RSH.out], by rw [RSH.out]; exact pk_in HP.out HB5.out, bstep BI.out HB5.out⟩
            case measure => simp [intOf]; omega
        · obtain rfl : j = a2 := by omega
          have AS : allG f j (i + 1) (-1) = rowG (f i) j (allG f j i (-1)) := rfl
          have ASH := Lib.hid AS
          clear AS B
          go_wp2_with fail
          go_roundw
          case rel => exact ⟨i + 1, by omega, by go_num, by rw [ASH.out], by rw [ASH.out]; exact HP.out, B2i.out⟩
          case measure => simp [intOf]; omega
    · obtain rfl : i = a1 := by omega
      go_wp2_with fail
      go_ret3
      exact ⟨_, _, rfl, hp, HBW.out⟩

end Go.Proofs.Ytllonfaogbdbnaa
