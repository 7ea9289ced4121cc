/-
  The contract of the program's root of an integer.
-/
import Derived.Test.YtlegalibjkeccaaQuo
import Derived.Test.YtlegalibjkeccaaNumRoot
import Derived.Test.YtlegalibjkeccaaShelf
import Derived.WalkMore
import Derived.ScopeJumps
import Derived.LoopTactic
namespace Go.Proofs.Ytlegalibjkeccaa
open Go.ChangeShapes Go.WideShapes Go.RowKit
theorem ret_2i {a b c d : Int} (h : a = c) (k : b = d) : Ending.returned (.tuple #[.int .i64 a, .int .i64 b]) = .returned (.tuple #[.int .i64 c, .int .i64 d]) := by rw [h, k]
theorem val_i {a b : Int} (h : a = b) : Value.int .i64 a = .int .i64 b := by rw [h]
/-- what is left of N behind the square of its root -/
def rst (N : Nat) : Nat := N - Rt.isq N * Rt.isq N
theorem rst_le (N : Nat) : rst N ≤ 2 * Rt.isq N := by
  have := (Rt.isq_spec N).2
  unfold rst
  simp only [Nat.add_mul, Nat.mul_add] at this; omega
theorem rst_next (N : Nat) : (2 * (2 * Rt.isq N) < 4 * rst N → Rt.isq (N * 4) = 2 * Rt.isq N + 1 ∧ rst (N * 4) + (2 * (2 * Rt.isq N) + 1) = 4 * rst N) ∧
    (4 * rst N ≤ 2 * (2 * Rt.isq N) → Rt.isq (N * 4) = 2 * Rt.isq N ∧ rst (N * 4) = 4 * rst N) := by
  have p := Rt.place (N := N) rfl
  have a := (Rt.isq_spec N).1
  have e2 : (2 * Rt.isq N) * (2 * Rt.isq N) = 4 * (Rt.isq N * Rt.isq N) := by rw [Nat.mul_mul_mul_comm]
  have e3 : (2 * Rt.isq N + 1) * (2 * Rt.isq N + 1) = 4 * (Rt.isq N * Rt.isq N) + 4 * Rt.isq N + 1 := by simp only [Nat.add_mul, Nat.mul_add]; omega
  unfold rst at *
  constructor
  · intro h
    rw [if_pos (by omega)] at p
    rw [← p]; omega
  · intro h
    rw [if_neg (by omega)] at p
    rw [← p]; omega
theorem csq_eq (N : Nat) : (rst N = 0 → Rt.csq N = Rt.isq N) ∧ (rst N ≠ 0 → Rt.csq N = Rt.isq N + 1) := by
  have a := (Rt.isq_spec N).1
  unfold Rt.csq rst
  constructor
  · intro h; rw [if_pos (by omega)]
  · intro h; rw [if_neg (by omega)]
theorem pow_bd {n m : Nat} (h : n ≤ 1152921504606846976) (hm : m ≤ 20) : n * 4 ^ m ≤ 1267650600228229401496703205376 := by
  have : 4 ^ m ≤ 4 ^ 20 := Nat.pow_le_pow_right (by decide) hm
  have := Nat.mul_le_mul h this
  omega
theorem isq_bd {n m : Nat} (h : n ≤ 1152921504606846976) (hm : m ≤ 20) : Rt.isq (n * 4 ^ m) ≤ 1125899906842624 := by
  have := Rt.isq_lt (n := n * 4 ^ m) (b := 1125899906842625) (by have := pow_bd h hm; omega)
  omega
theorem root_zero (m : Nat) (w : World) :
    Calls Try.prog 95 #[.int .i64 0, .int .i64 m] w fun e w' => e = .returned (.tuple #[.int .i64 0, .int .i64 0]) ∧ w = w' := by
  go_enter Try.func95, Try.ntmps95
  go_wp2
  go_step3
  go_wp2
  rw [Exit.noGoto_ret]
  go_ret2
  exact ⟨rfl, rfl⟩
set_option maxRecDepth 1000000 in
set_option maxHeartbeats 1600000 in
theorem root_pos (n m : Nat) (w : World) (h0 : 0 < n) (h : n ≤ 1152921504606846976) (hm : m ≤ 20) :
    Calls Try.prog 95 #[.int .i64 n, .int .i64 m] w fun e w' => e = .returned (.tuple #[.int .i64 (Rt.isq (n * 4 ^ m) : Nat), .int .i64 (Rt.csq (n * 4 ^ m) : Nat)]) ∧ w = w' := by
  have z : (((n : Int) == 0) = false) := beq_eq_false_iff_ne.2 (by omega)
  have C0 : ∃ L d : Nat, L ≤ 61 ∧ wrap64 (2 ^ ((L + 1) / 2)) = (d : Int) ∧ Rt.isq n ≤ d ∧ 0 < d ∧ d ≤ 2147483648 ∧ ∀ W : World, Calls Try.prog 96 #[.int .u64 (n : Int)] W fun e w' => e = .returned (.int .i64 (L : Int)) ∧ W = w' := by
    have hl : Lib.bitLen n ≤ 61 := Lib.bitLen_le n 61 (by decide) (by omega)
    have hp : 2 ^ ((Lib.bitLen n + 1) / 2) ≤ 2147483648 := Nat.le_trans (Nat.pow_le_pow_right (by decide) (show (Lib.bitLen n + 1) / 2 ≤ 31 by omega)) (by decide)
    refine ⟨Lib.bitLen n, 2 ^ ((Lib.bitLen n + 1) / 2), hl, ?_, ?_, Nat.pos_of_ne_zero (by simp), hp, fun W => ?_⟩
    · have e : (2 : Int) ^ ((Lib.bitLen n + 1) / 2) = ((2 ^ ((Lib.bitLen n + 1) / 2) : Nat) : Int) := by simp
      rw [e]
      generalize 2 ^ ((Lib.bitLen n + 1) / 2) = z at *
      rw [w64 (by omega) (by omega)]
    · exact Nat.le_of_lt (Rt.isq_lt (Rt.len_hi (by omega) (by omega)))
    · exact (Try.bits_Len (n : Int) W (by omega) (by omega)).mono fun _ _ ⟨a, b⟩ => ⟨a, b.symm⟩
  obtain ⟨L, d, hL, hS, hd1, hd0, hd2, C1⟩ := C0
  have C := Lib.hid C1
  have hL' : (L : Int) ≤ 61 := by omega
  have HI : Hid (1 ≤ Rt.isq n) := by
    rcases Nat.eq_zero_or_pos (Rt.isq n) with e | e
    · have := (Rt.isq_spec n).2; rw [e] at this; omega
    · exact e
  clear C1
  go_enter Try.func95, Try.ntmps95
  go_wp2
  refine wp_scope_jumps 0 (fun a' w' => w' = w ∧ ∃ (d : Nat) (u6 u8 u9 u10 u11 u12 u13 u14 u15 u16 u17 u18 u19 u20 u21 u22 u23 u24 u25 : Value), a' = { tmps := #[.int .i64 n, .int .i64 m, undef, undef, .int .i64 d, .int .i64 0, u6, undef, u8, u9, u10, u11, u12, u13, u14, u15, u16, u17, u18, u19, u20, u21, u22, u23, u24, u25, undef, undef, undef, undef, undef, undef, undef, undef, undef, undef, undef, undef, undef, undef, undef, undef, undef, undef, undef, undef, undef, undef, undef, undef, undef, undef, undef, undef, undef, undef, undef], defers := [] } ∧ Rt.isq n ≤ d ∧ 0 < d ∧ d ≤ 2147483648) (fun a' _ => (intOf (a'.tmps.getD 4 undef)).toNat) rfl ?_ ?_
  · go_wp2_with fail
    refine (C.out _).mono ?_
    rintro e w1 ⟨rfl, rfl⟩
    go_wp2_with fail
    go_step3
    have hq1 : n / d ≤ n := Nat.div_le_self _ _
    have eq : (n : Int) / (d : Int) = ((n / d : Nat) : Int) := (Int.natCast_ediv n d).symm
    have NG := Lib.hid (Rt.newton_ge (n := n) hd0)
    have NS := Lib.hid (fun k => Rt.newton_stop (n := n) (d := d) hd1 k)
    have hq2 : Hid (n / d = n / d) := rfl
    generalize n / d = q at *
    clear hq2
    have D1 := Lib.hid hd1
    clear hd1
    have hd0' : (1 : Int) ≤ (d : Int) := by omega
    have hd2' : (d : Int) ≤ 2147483648 := by omega
    have hq1' : (q : Int) ≤ 1152921504606846976 := by omega
    by_cases hlt : ((d : Int) + (q : Int)) / 2 < (d : Int)
    · go_wp2
      (try go_step3)
      have e1 : ((d : Int) + (q : Int)) / 2 = (((d + q) / 2 : Nat) : Int) := by omega
      rw [e1]
      refine And.intro (a := (0 : Nat) = 0) rfl ?_
      refine ⟨rfl, (d + q) / 2, _, _, _, _, _, _, _, _, _, _, _, _, _, _, _, _, _, _, _, rfl, NG.out, by have := NG.out; have := HI.out; omega, by omega⟩
    · have ds : d = Rt.isq n := NS.out (by omega)
      have hnlt : (d : Int) ≤ ((d : Int) + (q : Int)) / 2 := by omega
      have DS := Lib.hid ds
      have hb : d * d ≤ n := by rw [ds]; exact (Rt.isq_spec n).1
      have hb1 : (0 : Int) ≤ (d : Int) * (d : Int) := by rw [← Int.natCast_mul]; omega
      have hb2 : (d : Int) * (d : Int) ≤ (n : Int) := by rw [← Int.natCast_mul]; omega
      have hr : (n : Int) - (d : Int) * (d : Int) = ((rst n : Nat) : Int) := by
        unfold rst; rw [← ds, ← Int.natCast_mul]; omega
      clear ds hlt hb
      go_wp2
      go_loop [4, 7, 32] (fun dv rv cv => ∃ k : Nat, k ≤ m ∧ cv = .int .i64 k ∧ dv = .int .i64 ((Rt.isq (n * 4 ^ k) : Nat) : Int) ∧ rv = .int .i64 ((rst (n * 4 ^ k) : Nat) : Int)) (fun _ _ cv => m - (intOf cv).toNat)
      case atStart => exact ⟨0, Nat.zero_le _, rfl, val_i (by first | (rw [DS.out, Nat.pow_zero, Nat.mul_one]; done) | (rw [hS, DS.out, Nat.pow_zero, Nat.mul_one]; done)), val_i (by rw [Nat.pow_zero, Nat.mul_one])⟩
      case round =>
        obtain ⟨k, hk, rfl, rfl, rfl⟩ := hrel
        clear hr hb1 hb2 eq hq1 hq1' hd0' hd2' hnlt
        have BD := isq_bd h (show k ≤ 20 by omega)
        have RB := rst_le (n * 4 ^ k)
        have RN := rst_next (n * 4 ^ k)
        have CQ := csq_eq (n * 4 ^ k)
        have hN : n * 4 ^ (k + 1) = n * 4 ^ k * 4 := by rw [Nat.pow_succ, Nat.mul_assoc]
        rw [← hN] at RN
        clear hN
        by_cases hlt : k < m
        · clear CQ
          have RN1 := RN.1
          have RN2 := RN.2
          clear RN
          generalize Rt.isq (n * 4 ^ k) = D at *
          generalize rst (n * 4 ^ k) = R at *
          by_cases c : 2 * (2 * D) < 4 * R
          · have ⟨p1, p2⟩ := RN1 c
            have P1 := Lib.hid p1
            have P2 := Lib.hid p2
            clear p1 p2 RN1 RN2
            have cI : 2 * (2 * (D : Int)) < 4 * (R : Int) := by omega
            go_wp2
            go_round
            case rel => exact ⟨k + 1, by omega, by go_num, val_i (by rw [P1.out]; omega), val_i (by have := P2.out; omega)⟩
            case measure => simp [intOf]; omega
          · have ⟨p1, p2⟩ := RN2 (by omega)
            have P1 := Lib.hid p1
            have P2 := Lib.hid p2
            clear p1 p2 RN1 RN2
            have cI : 4 * (R : Int) ≤ 2 * (2 * (D : Int)) := by omega
            go_wp2
            go_round
            case rel => exact ⟨k + 1, by omega, by go_num, val_i (by rw [P1.out]; omega), val_i (by have := P2.out; omega)⟩
            case measure => simp [intOf]; omega
        · obtain rfl : k = m := by omega
          clear RN
          have CQ1 := CQ.1
          have CQ2 := CQ.2
          clear CQ
          generalize hD : Rt.isq (n * 4 ^ k) = D at *
          generalize hE : Rt.csq (n * 4 ^ k) = E at *
          generalize rst (n * 4 ^ k) = R at *
          have HD := Lib.hid hD
          have HE := Lib.hid hE
          clear hD hE
          by_cases c : R = 0
          · have E1 := Lib.hid (CQ1 c)
            clear CQ1 CQ2
            subst c
            go_wp2
            (try simp only [Exit.jump])
            (try rw [Exit.noGoto_ret])
            go_ret2
            exact ⟨ret_2i (by rw [HD.out]) (by rw [HE.out, E1.out]), rfl⟩
          · have cB : ((R : Int) == 0) = false := beq_eq_false_iff_ne.2 (by omega)
            have E1 := Lib.hid (CQ2 c)
            clear c CQ1 CQ2
            go_wp2
            (try simp only [Exit.jump])
            (try rw [Exit.noGoto_ret])
            go_ret2
            exact ⟨ret_2i (by rw [HD.out]) (by rw [HE.out, E1.out]; omega), rfl⟩
  · clear hS hL hL' C hd1 hd0 hd2 d
    rintro a' w' ⟨rfl, d, u6, u8, u9, u10, u11, u12, u13, u14, u15, u16, u17, u18, u19, u20, u21, u22, u23, u24, u25, rfl, hd1, hd0, hd2⟩
    have hq1 : n / d ≤ n := Nat.div_le_self _ _
    have eq : (n : Int) / (d : Int) = ((n / d : Nat) : Int) := (Int.natCast_ediv n d).symm
    have NG := Lib.hid (Rt.newton_ge (n := n) hd0)
    have NS := Lib.hid (fun k => Rt.newton_stop (n := n) (d := d) hd1 k)
    have hq2 : Hid (n / d = n / d) := rfl
    generalize n / d = q at *
    clear hq2
    have D1 := Lib.hid hd1
    clear hd1
    have hd0' : (1 : Int) ≤ (d : Int) := by omega
    have hd2' : (d : Int) ≤ 2147483648 := by omega
    have hq1' : (q : Int) ≤ 1152921504606846976 := by omega
    by_cases hlt : ((d : Int) + (q : Int)) / 2 < (d : Int)
    · go_wp2
      (try go_step3)
      have e1 : ((d : Int) + (q : Int)) / 2 = (((d + q) / 2 : Nat) : Int) := by omega
      rw [e1]
      refine And.intro (a := (0 : Nat) = 0) rfl ?_
      refine And.intro ?_ ?_
      · exact ⟨rfl, (d + q) / 2, _, _, _, _, _, _, _, _, _, _, _, _, _, _, _, _, _, _, _, rfl, NG.out, by have := NG.out; have := HI.out; omega, by omega⟩
      · simp [intOf]; omega
    · have ds : d = Rt.isq n := NS.out (by omega)
      have hnlt : (d : Int) ≤ ((d : Int) + (q : Int)) / 2 := by omega
      have DS := Lib.hid ds
      have hb : d * d ≤ n := by rw [ds]; exact (Rt.isq_spec n).1
      have hb1 : (0 : Int) ≤ (d : Int) * (d : Int) := by rw [← Int.natCast_mul]; omega
      have hb2 : (d : Int) * (d : Int) ≤ (n : Int) := by rw [← Int.natCast_mul]; omega
      have hr : (n : Int) - (d : Int) * (d : Int) = ((rst n : Nat) : Int) := by
        unfold rst; rw [← ds, ← Int.natCast_mul]; omega
      clear ds hlt hb
      go_wp2
      go_loop [4, 7, 32] (fun dv rv cv => ∃ k : Nat, k ≤ m ∧ cv = .int .i64 k ∧ dv = .int .i64 ((Rt.isq (n * 4 ^ k) : Nat) : Int) ∧ rv = .int .i64 ((rst (n * 4 ^ k) : Nat) : Int)) (fun _ _ cv => m - (intOf cv).toNat)
      case atStart => exact ⟨0, Nat.zero_le _, rfl, val_i (by first | (rw [DS.out, Nat.pow_zero, Nat.mul_one]; done) | (rw [hS, DS.out, Nat.pow_zero, Nat.mul_one]; done)), val_i (by rw [Nat.pow_zero, Nat.mul_one])⟩
      case round =>
        obtain ⟨k, hk, rfl, rfl, rfl⟩ := hrel
        clear hr hb1 hb2 eq hq1 hq1' hd0' hd2' hnlt
        have BD := isq_bd h (show k ≤ 20 by omega)
        have RB := rst_le (n * 4 ^ k)
        have RN := rst_next (n * 4 ^ k)
        have CQ := csq_eq (n * 4 ^ k)
        have hN : n * 4 ^ (k + 1) = n * 4 ^ k * 4 := by rw [Nat.pow_succ, Nat.mul_assoc]
        rw [← hN] at RN
        clear hN
        by_cases hlt : k < m
        · clear CQ
          have RN1 := RN.1
          have RN2 := RN.2
          clear RN
          generalize Rt.isq (n * 4 ^ k) = D at *
          generalize rst (n * 4 ^ k) = R at *
          by_cases c : 2 * (2 * D) < 4 * R
          · have ⟨p1, p2⟩ := RN1 c
            have P1 := Lib.hid p1
            have P2 := Lib.hid p2
            clear p1 p2 RN1 RN2
            have cI : 2 * (2 * (D : Int)) < 4 * (R : Int) := by omega
            go_wp2
            go_round
            case rel => exact ⟨k + 1, by omega, by go_num, val_i (by rw [P1.out]; omega), val_i (by have := P2.out; omega)⟩
            case measure => simp [intOf]; omega
          · have ⟨p1, p2⟩ := RN2 (by omega)
            have P1 := Lib.hid p1
            have P2 := Lib.hid p2
            clear p1 p2 RN1 RN2
            have cI : 4 * (R : Int) ≤ 2 * (2 * (D : Int)) := by omega
            go_wp2
            go_round
            case rel => exact ⟨k + 1, by omega, by go_num, val_i (by rw [P1.out]; omega), val_i (by have := P2.out; omega)⟩
            case measure => simp [intOf]; omega
        · obtain rfl : k = m := by omega
          clear RN
          have CQ1 := CQ.1
          have CQ2 := CQ.2
          clear CQ
          generalize hD : Rt.isq (n * 4 ^ k) = D at *
          generalize hE : Rt.csq (n * 4 ^ k) = E at *
          generalize rst (n * 4 ^ k) = R at *
          have HD := Lib.hid hD
          have HE := Lib.hid hE
          clear hD hE
          by_cases c : R = 0
          · have E1 := Lib.hid (CQ1 c)
            clear CQ1 CQ2
            subst c
            go_wp2
            (try simp only [Exit.jump])
            (try rw [Exit.noGoto_ret])
            go_ret2
            exact ⟨ret_2i (by rw [HD.out]) (by rw [HE.out, E1.out]), rfl⟩
          · have cB : ((R : Int) == 0) = false := beq_eq_false_iff_ne.2 (by omega)
            have E1 := Lib.hid (CQ2 c)
            clear c CQ1 CQ2
            go_wp2
            (try simp only [Exit.jump])
            (try rw [Exit.noGoto_ret])
            go_ret2
            exact ⟨ret_2i (by rw [HD.out]) (by rw [HE.out, E1.out]; omega), rfl⟩


end Go.Proofs.Ytlegalibjkeccaa
