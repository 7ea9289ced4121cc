/-
  The contract of determinant.
-/
import Derived.Test.YtllonfaogbdbnaaCr8
namespace Go.Proofs.Ytllonfaogbdbnaa
open Go.ChangeShapes Go.WideShapes Go.RowKit
open Cr
theorem dt_zero {n : Nat} {M : List (List Int)} {k : Nat} (h : at_ (rw_ M 0) k = 0) : dt n M k = 0 := by
  unfold dt
  have h : at_ (M.getD 0 []) k = 0 := h
  rw [h]; simp
theorem fB_step {n : Nat} (h : n + 1 ≤ 7) : (n + 1 : Nat) * (100 * fB n) ≤ 504000000000000000 := fB_le h
theorem fB_low {n : Nat} (h : n + 1 ≤ 7) : 100 * fB n ≤ 504000000000000000 := by
  have h1 := fB_step h
  have h2 := fB_pos n
  have h3 : 1 * (100 * fB n) ≤ (n + 1 : Nat) * (100 * fB n) := Int.mul_le_mul_of_nonneg_right (by omega) (by omega)
  omega
theorem part_bd {n : Nat} {M : List (List Int)} (h : Sq (n + 1) (n + 1) M) (h7 : n + 1 ≤ 7) {k : Nat} (hk : k ≤ n + 1) : -504000000000000000 ≤ ps (dt n M) k ∧ ps (dt n M) k ≤ 504000000000000000 := by
  have b := ps_bd (f := dt n M) (n := k) (fun i hi => dt_bd h (by omega))
  have z := fB_step h7
  have p := fB_pos n
  have q : (k : Nat) * (100 * fB n) ≤ (n + 1 : Nat) * (100 * fB n) := Int.mul_le_mul_of_nonneg_right (by omega) (by omega)
  omega
set_option maxHeartbeats 2000000 in
theorem det_any (n : Nat) : ∀ (A : Option Addr) (c : Nat) (M : List (List Int)) (w : World), n ≤ 7 → Sq n n M → ML w A M → n ≤ c →
    Calls Try.prog 95 #[.slice A n c] w fun e w' => e = .returned (.int .i64 (det n M)) ∧ Below w.heap.size w w' := by
  induction n with
  | zero =>
    intro A c M w _ _ _ _
    go_enter Try.func95, Try.ntmps95
    go_wp2_with fail
    go_ret
    exact ⟨rfl, Below.refl _ _⟩
  | succ n ih =>
    intro A c M w h7 q hM hc
    have IH := Lib.hid ih
    have H := Lib.hid hM
    have Q := Lib.hid q
    have PB := Lib.hid (fun k (hk : k ≤ n + 1) => part_bd q h7 hk)
    have LO := fB_low h7
    have hl : M.length = n + 1 := q.len
    have hl0 : (rw_ M 0).length = n + 1 := rw_len q (by omega)
    obtain ⟨b, o, A0, c0, rfl, hb, hc0, hcl, hr0⟩ := hM 0 (by omega)
    have hc0 : w.cell? ⟨b, o, none⟩ = some (.slice A0 (n + 1) c0) := by rw [hl0] at hc0; exact hc0
    have HR := Lib.hid hr0
    have HL := Lib.hid hl0
    have WO := Lib.hid (fun k (hk : k ≤ n) W (B : Below w.heap.size w W) => wo_any (cutA (some ⟨b, o, none⟩) 1 c) (c - 1) n k (M.drop 1) W (ml_in (ml_drop hM (by omega) 1) B) (by rw [List.length_drop]; omega) (fun i hi => by rw [rw_drop]; rw [List.length_drop] at hi; exact rw_len q (by omega)) (by omega) hk)
    have e1 : (M.drop 1).length = n := by rw [List.length_drop]; omega
    rw [e1] at WO
    have hn' : (n : Int) + 1 ≤ 7 := by omega
    have x1 : (0 : Int) < (n : Int) + 1 := by omega
    have x2 : ((n : Int) + 1 == 0) = false := by simp; omega
    have x3 : (1 : Int) ≤ (n : Int) + 1 := by omega
    have x4 : (0 : Int) ≤ (n : Int) := by omega
    clear hM q hcl hl hl0 e1 ih hr0
    go_enter Try.func95, Try.ntmps95
    go_wp2_with fail
    go_loopw [3, 4, 14] (fun sv gv kv wr => ∃ k : Nat, k ≤ n + 1 ∧ kv = .int .i64 k ∧ sv = .int .i64 (ps (dt n M) k) ∧ gv = .int .i64 (sg k) ∧ Below w.heap.size w wr) (fun _ _ kv _ => n + 1 - (intOf kv).toNat)
    case atStart => exact ⟨0, Nat.zero_le _, rfl, rfl, rfl, Below.refl _ _⟩
    case round =>
      obtain ⟨k, hk, rfl, rfl, rfl, B⟩ := hrel
      by_cases hlt : k < n + 1
      · have hk1 : (k : Int) < (n : Int) + 1 := by omega
        have hk0 : 0 ≤ (k : Int) := by omega
        obtain ⟨b1, o1, rfl, hb1, hx⟩ := il_in HR.out B k (by rw [HL.out]; exact hlt)
        have xb := Q.out.at (i := 0) (by omega) hlt
        have xb : -100 ≤ at_ (rw_ M 0) k ∧ at_ (rw_ M 0) k ≤ 100 := xb
        have p1 := PB.out k hk
        have p2 := PB.out (k + 1) (by omega)
        have DZ := Lib.hid (dt_zero (n := n) (M := M) (k := k))
        have PS := Lib.hid (show ps (dt n M) (k + 1) = ps (dt n M) k + dt n M k from rfl)
        have SS := Lib.hid (sg_succ k)
        have DT := Lib.hid (show dt n M k = sg k * at_ (rw_ M 0) k * det n (cut (M.drop 1) k) from rfl)
        have s1 := sg_bd (j := k) xb.1 xb.2
        have WOk := Lib.hid (WO.out k (by omega))
        have SQ := Lib.hid ((Q.out.tail.cut (j := k) hlt))
        have db := det_bd n _ SQ.out
        have tb := dt_bd Q.out hlt
        rw [DT.out] at tb
        have s2 : -1 ≤ sg k ∧ sg k ≤ 1 := by rcases sg_cases k with e | e <;> rw [e] <;> decide
        have HB := Lib.hid B
        rw [PS.out, DT.out] at p2
        rw [DT.out] at DZ
        have ih := Lib.hid (fun A W h => IH.out A n (cut (M.drop 1) k) W (by omega) SQ.out h (Nat.le_refl _))
        generalize sg k = s at *
        generalize at_ (rw_ M 0) k = x at *
        generalize det n (cut (M.drop 1) k) = d at *
        generalize ps (dt n M) k = p at *
        generalize fB n = f at *
        obtain ⟨xb1, xb2⟩ := xb
        obtain ⟨p11, p12⟩ := p1
        obtain ⟨p21, p22⟩ := p2
        obtain ⟨s11, s12⟩ := s1
        obtain ⟨s21, s22⟩ := s2
        obtain ⟨tb1, tb2⟩ := tb
        obtain ⟨db1, db2⟩ := db
        have t1 : -504000000000000000 ≤ s * x * d := by omega
        have t2 : s * x * d ≤ 504000000000000000 := by omega
        clear tb1 tb2 LO db1 db2 B
        by_cases hx0 : x = 0
        · have e0 := DZ.out hx0
          have PE := Lib.hid (show ps (dt n M) (k + 1) = p by rw [PS.out, DT.out, e0]; simp)
          subst hx0
          clear e0
          go_wp2_with fail
          go_roundw
          case rel => exact ⟨k + 1, by omega, by go_num, by rw [PE.out], by rw [SS.out], HB.out⟩
          case measure => simp [intOf]; omega
        · have y1 : (x != 0) = true := by simp [hx0]
          have y2 : (x == 0) = false := by simp [hx0]
          have PE := Lib.hid (show ps (dt n M) (k + 1) = p + s * x * d by rw [PS.out, DT.out])
          clear hx0
          go_wp2_with fail
          with_reducible refine (WOk.out _ HB.out).mono ?_
          rintro e w2 ⟨A2, rfl, hM2, hb2⟩
          go_wp2_with fail
          with_reducible refine (ih.out A2 w2 hM2).mono ?_
          rintro e w3 ⟨rfl, hb3⟩
          go_wp2_with fail
          go_roundw
          case rel => exact ⟨k + 1, by omega, by go_num, by rw [PE.out], by rw [SS.out], bstep (bstep HB.out hb2) hb3⟩
          case measure => simp [intOf]; omega
      · obtain rfl : k = n + 1 := by omega
        have DS := Lib.hid (show det (n + 1) M = ps (dt n M) (n + 1) by rw [det_succ]; exact congrArg _ HL.out)
        go_wp2_with fail
        go_ret
        exact ⟨by rw [DS.out]; rfl, B⟩

end Go.Proofs.Ytllonfaogbdbnaa
