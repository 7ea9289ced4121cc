/-
  The contracts of Rest in the program and in the document's answer, and of what they call.
-/
import Derived.Test.YtjflgiegnibgmaaDoorMoSa
import Derived.Test.YtjflgiegnibgmaaDoorLen
namespace Go.Proofs.YtjflgiegnibgmaaDoor
open Go.ChangeShapes Go.WideShapes Go.RowKit
open Sh
theorem ce_bd {n d B : Int} (hd : 0 < d) (h0 : 0 ≤ n) (h : n ≤ B * d) : 0 ≤ Sp.ce n d ∧ Sp.ce n d ≤ B := by
  unfold Sp.ce
  rw [Sp.fl_pos hd]
  have a : -B ≤ (-n) / d := (Int.le_ediv_iff_mul_le hd).2 (by rw [Int.neg_mul]; omega)
  have b : (-n) / d < 1 := (Int.ediv_lt_iff_lt_mul hd).2 (by omega)
  omega
theorem ce_up {n d : Int} (hd : 0 < d) : (n + d - 1) / d = Sp.ce n d := by
  unfold Sp.ce
  rw [Sp.fl_pos hd]
  obtain ⟨q, hq⟩ : ∃ q, (-n) / d = q := ⟨_, rfl⟩
  rw [hq]
  have a : q * d ≤ -n := (Int.le_ediv_iff_mul_le hd).1 (by omega)
  have b : -n < (q + 1) * d := (Int.ediv_lt_iff_lt_mul hd).1 (by omega)
  rw [Int.add_mul, Int.one_mul] at b
  have c : -q ≤ (n + d - 1) / d := (Int.le_ediv_iff_mul_le hd).2 (by rw [Int.neg_mul]; omega)
  have e : (n + d - 1) / d < -q + 1 := (Int.ediv_lt_iff_lt_mul hd).2 (by rw [Int.add_mul, Int.neg_mul, Int.one_mul]; omega)
  omega
/-- powers, each rounded up -/
def pwr (t : Int) : Nat → Int
  | 0 => t
  | k + 1 => Sp.ce (pwr t k * t) 1048576
theorem mul_le20 {x y : Int} (h0 : 0 ≤ x) (h1 : x ≤ 1048576) (h2 : 0 ≤ y) (h3 : y ≤ 1048576) : 0 ≤ x * y ∧ x * y ≤ 1099511627776 :=
  ⟨Int.mul_nonneg h0 h2, by have a := Int.mul_le_mul h1 h3 h2 (by omega : (0 : Int) ≤ 1048576); omega⟩
theorem pwr_bd {t : Int} (h0 : 0 ≤ t) (h1 : t ≤ 1048576) : ∀ k, 0 ≤ pwr t k ∧ pwr t k ≤ 1048576
  | 0 => ⟨h0, h1⟩
  | k + 1 => by
    have a := pwr_bd h0 h1 k
    have b := mul_le20 a.1 a.2 h0 h1
    exact ce_bd (by omega) b.1 (by omega)
/-- what is left of the orders above k, for the radius a and the distance r -/
def beN (tot a r : Int) (k : Nat) : Int := Sp.ce (tot * pwr (Sp.ce (a * 1048576) r) k * 1048576) (r - a)
def beR (tot a r : Int) (k : Nat) : Int × Int := if r ≤ a then (0, 10) else if 1099511627776 < beN tot a r k then (0, 4) else (beN tot a r k, 0)
theorem beR_near {tot a r : Int} {k : Nat} (h : r ≤ a) : beR tot a r k = (0, 10) := if_pos h
theorem beR_big {tot a r : Int} {k : Nat} (h : a < r) (g : 1099511627776 < beN tot a r k) : beR tot a r k = (0, 4) := by unfold beR; rw [if_neg (by omega), if_pos g]
theorem beR_ok {tot a r : Int} {k : Nat} (h : a < r) (g : beN tot a r k ≤ 1099511627776) : beR tot a r k = (beN tot a r k, 0) := by unfold beR; rw [if_neg (by omega), if_neg (by omega)]
theorem mdown_any (n d : Int) (w : World) (h : Sm n d) (h6 : 0 < d) :
    Calls Tryd.prog 97 #[.int .i64 n, .int .i64 d] w fun e w' => e = .returned (.int .i64 (Sp.fl n d)) ∧ w = w' := by
  have H : Hid (Sm n d) := h
  obtain ⟨h1, h2, h3, h4⟩ := h
  rcases Int.lt_or_le n 0 with h5 | h5
  ·
    go_enter Tryd.func97, Tryd.ntmps97
    go_wp2
    all_goals
      go_ret
      refine ⟨ret_int ?_, rfl⟩
      (try simp only [dd0 H.out]); (try simp only [dd4 H.out])
      first | exact Sp.fl_b (.inl ⟨by omega, h6⟩) | exact Sp.fl_c1 h6 (by assumption) | exact Sp.fl_c2 h6 (by assumption)
  · have hm : 0 ≤ n % d := Int.emod_nonneg _ (by omega)
    go_enter Tryd.func97, Tryd.ntmps97
    go_wp2
    all_goals
      go_ret
      refine ⟨ret_int ?_, rfl⟩
      (try simp only [dd0 H.out]); (try simp only [dd4 H.out])
      (try simp only [div_eq h5])
      first | exact Sp.fl_b (.inl ⟨by omega, h6⟩) | exact Sp.fl_c1 h6 (by assumption) | exact Sp.fl_c2 h6 (by assumption)
theorem mup_any (n d : Int) (w : World) (h : Sm n d) (h0 : 0 < d) :
    Calls Tryd.prog 81 #[.int .i64 n, .int .i64 d] w fun e w' => e = .returned (.int .i64 (Sp.ce n d)) ∧ w = w' := by
  have K : Sm (-n) d := by unfold Sm at *; omega
  have b := Sp.fl_bd (d := d) K.1 K.2.1
  have K' : Hid (Sm (-n) d) := K
  obtain ⟨h1, h2, h3, h4⟩ := h
  obtain ⟨b1, b2⟩ := b
  clear K
  go_enter Tryd.func81, Tryd.ntmps81
  go_wp2_with fail
  refine (mdown_any _ _ _ K'.out h0).mono ?_
  rintro e w1 ⟨rfl, rfl⟩
  go_wp2
  go_ret
  exact ⟨ret_int rfl, rfl⟩
theorem sm_of {n d : Int} (h0 : 0 ≤ n) (h1 : n ≤ 4611686018427387904) (h2 : 0 < d) (h3 : d ≤ 4611686018427387904) : Sm n d := ⟨by omega, h1, by omega, h3⟩
theorem bey_near (tot a r : Int) (k : Int) (w : World) (h : r ≤ a) :
    Calls Tryd.prog 57 #[.int .i64 tot, .int .i64 a, .int .i64 r, .int .i64 k] w fun e w' => e = .returned (.tuple #[.int .i64 0, .int .i64 10]) ∧ w = w' := by
  go_enter Tryd.func57, Tryd.ntmps57
  go_wp2
  go_ret2
  exact ⟨rfl, rfl⟩
set_option maxHeartbeats 1000000 in
theorem bey_far (tot a r : Int) (k : Nat) (w : World) (h : a < r) (t0 : 0 ≤ tot) (t1 : tot ≤ 1048576) (a0 : 0 ≤ a) (r1 : r ≤ 1099511627776) (hk : k ≤ 2) :
    Calls Tryd.prog 57 #[.int .i64 tot, .int .i64 a, .int .i64 r, .int .i64 (k : Int)] w fun e w' => e = .returned (.tuple #[.int .i64 (beR tot a r k).1, .int .i64 (beR tot a r k).2]) ∧ w = w' := by
  have T := ce_bd (n := a * 1048576) (d := r) (B := 1048576) (by omega) (by omega) (by omega)
  have U1 := Lib.hid fun W => mup_any (a * 1048576) r W (sm_of (by omega) (by omega) (by omega) (by omega)) (by omega)
  have EN := Lib.hid (show beN tot a r k = Sp.ce (tot * pwr (Sp.ce (a * 1048576) r) k * 1048576) (r - a) from rfl)
  generalize Sp.ce (a * 1048576) r = t at *
  have P := Lib.hid (pwr_bd T.1 T.2)
  have pk := P.out k
  have tp := mul_le20 t0 t1 pk.1 pk.2
  have U3 := Lib.hid fun W => mup_any (tot * pwr t k * 1048576) (r - a) W (sm_of (by omega) (by omega) (by omega) (by omega)) (by omega)
  rw [← EN.out] at U3
  have R0 := Lib.hid (fun g => beR_big (tot := tot) (a := a) (r := r) (k := k) h g)
  have R1 := Lib.hid (fun g => beR_ok (tot := tot) (a := a) (r := r) (k := k) h g)
  have hk' : (k : Int) ≤ 2 := by omega
  clear EN
  generalize beN tot a r k = n at *
  go_enter Tryd.func57, Tryd.ntmps57
  go_wp2_with fail
  refine (U1.out _).mono ?_
  rintro e w1 ⟨rfl, rfl⟩
  go_wp2
  go_loopw [11, 22] (fun pv kv wr => ∃ j : Nat, j ≤ k ∧ kv = .int .i64 j ∧ pv = .int .i64 (pwr t j) ∧ wr = w) (fun _ kv _ => k - (intOf kv).toNat)
  case atStart => exact ⟨0, Nat.zero_le _, by first | rfl | trivial, by first | rfl | trivial, by first | rfl | trivial⟩
  case round =>
    obtain ⟨j, hj, rfl, rfl, rfl⟩ := hrel
    by_cases hlt : j < k
    · have hk1 : (j : Int) < (k : Int) := by omega
      have pj := P.out j
      have E := Lib.hid (show pwr t (j + 1) = Sp.ce (pwr t j * t) 1048576 from rfl)
      generalize pwr t j = p at *
      have pt := mul_le20 pj.1 pj.2 T.1 T.2
      have U2 := Lib.hid fun W => mup_any (p * t) 1048576 W (sm_of (by omega) (by omega) (by omega) (by omega)) (by omega)
      go_wp2_with fail
      refine (U2.out _).mono ?_
      rintro e w2 ⟨rfl, rfl⟩
      go_wp2
      go_roundw
      case rel => exact ⟨j + 1, by omega, by go_num, by rw [E.out], by trivial⟩
      case measure => simp [intOf]; omega
    · obtain rfl : j = k := by omega
      generalize pwr t j = p at *
      go_wp2_with fail
      refine (U3.out _).mono ?_
      rintro e w2 ⟨rfl, rfl⟩
      rcases Int.lt_or_le 1099511627776 n with g | g
      · have E := Lib.hid (R0.out g)
        go_wp2
        go_ret2
        exact ⟨by rw [E.out]; rfl, rfl⟩
      · have E := Lib.hid (R1.out g)
        go_wp2
        go_ret2
        exact ⟨by rw [E.out]; rfl, rfl⟩
theorem bey_any (tot a r : Int) (k : Nat) (w : World) (t0 : 0 ≤ tot) (t1 : tot ≤ 1048576) (a0 : 0 ≤ a) (r1 : r ≤ 1099511627776) (hk : k ≤ 2) :
    Calls Tryd.prog 57 #[.int .i64 tot, .int .i64 a, .int .i64 r, .int .i64 (k : Int)] w fun e w' => e = .returned (.tuple #[.int .i64 (beR tot a r k).1, .int .i64 (beR tot a r k).2]) ∧ w = w' := by
  rcases Int.lt_or_le a r with h | h
  · exact bey_far tot a r k w h t0 t1 a0 r1 hk
  · rw [beR_near h]
    exact bey_near tot a r _ w h
theorem rup4_any (n d : Int) (w : World) (h0 : 0 ≤ n) (h1 : n ≤ 2305843009213693952) (h2 : 0 < d) (h3 : d ≤ 2305843009213693952) :
    Calls Tryd.prog 60 #[.int .i64 n, .int .i64 d] w fun e w' => e = .returned (.int .i64 (Sp.ce n d)) ∧ w = w' := by
  have E := Lib.hid (ce_up (n := n) h2)
  have hq : 0 ≤ n + d - 1 := by omega
  have D := Lib.hid (div_eq (d := d) hq)
  have b := ce_bd (n := n) (d := d) (B := n) h2 h0 (by have := Int.mul_le_mul_of_nonneg_left (show (1 : Int) ≤ d by omega) h0; omega)
  obtain ⟨c, hc⟩ : ∃ c, Sp.ce n d = c := ⟨_, rfl⟩
  rw [hc] at E b ⊢
  have e1 : (n + d - 1).tdiv d = c := D.out.symm.trans E.out
  have e2 : (n + d - 1) / d = c := E.out
  clear hc
  go_enter Tryd.func60, Tryd.ntmps60
  go_wp2
  go_ret
  exact ⟨rfl, rfl⟩
set_option maxHeartbeats 1000000 in
theorem below4_any (n : Nat) (w : World) (h : n ≤ 1152921504606846976) :
    Calls Tryd.prog 59 #[.int .i64 (n : Int)] w fun e w' => e = .returned (.int .i64 ((Rt.isq n : Nat) : Int)) ∧ w = w' := by
  have UQ := Lib.hid (fun r (h : r * r ≤ n) (k : n < (r + 1) * (r + 1)) => Rt.isq_unique h k)
  have hn : (n : Int) ≤ 1152921504606846976 := by omega
  go_enter Tryd.func59, Tryd.ntmps59
  go_wp2
  go_loop [3, 4] (fun rv bv => ∃ R b i : Nat, rv = .int .i64 R ∧ bv = .int .i64 b ∧ R * R ≤ n ∧ ((i = 0 ∧ b = 0 ∧ n < (R + 1) * (R + 1) ∧ R + 1 ≤ 2147483648) ∨ (0 < i ∧ 2 * b = 2 ^ i ∧ n < (R + 2 * b) * (R + 2 * b) ∧ R + 2 * b ≤ 2147483648))) (fun _ bv => (intOf bv).toNat)
  case atStart => exact ⟨0, 1073741824, 31, rfl, rfl, by omega, .inr ⟨by omega, by decide, by omega, by omega⟩⟩
  case round =>
    obtain ⟨R, b, i, rfl, rfl, hR, ho⟩ := hrel
    rcases ho with ⟨hi, hb, hq, hs⟩ | ⟨hi, hb, hq, hs⟩
    · subst hb
      have e := Lib.hid (UQ.out R hR hq)
      clear UQ hq hR
      go_wp2
      go_ret
      exact ⟨by rw [← e.out]; rfl, rfl⟩
    · obtain ⟨m, rfl⟩ : ∃ m, i = m + 1 := ⟨i - 1, by omega⟩
      have hb2 : b = 2 ^ m := by rw [Nat.pow_succ] at hb; omega
      have b1 : 1 ≤ b := by rw [hb2]; exact Nat.one_le_two_pow
      have nx : (m = 0 ∧ b / 2 = 0 ∧ b = 1) ∨ (0 < m ∧ 2 * (b / 2) = 2 ^ m ∧ 2 * (b / 2) = b) := by
        rcases Nat.eq_zero_or_pos m with z | z
        · subst z
          exact .inl ⟨rfl, by simp [hb2], by simp [hb2]⟩
        · obtain ⟨j, rfl⟩ : ∃ j, m = j + 1 := ⟨m - 1, by omega⟩
          rw [Nat.pow_succ] at hb2
          exact .inr ⟨z, by rw [Nat.pow_succ]; omega, by omega⟩
      obtain ⟨k, hk⟩ : ∃ k, R + b = k := ⟨_, rfl⟩
      have e1 : (R : Int) + (b : Int) = (k : Int) := by omega
      have hk2 : k ≤ 2147483648 := by omega
      have kk := Nat.mul_le_mul hk2 hk2
      have kk1 : (k : Int) * (k : Int) ≤ 4611686018427387904 := by rw [← Int.natCast_mul]; omega
      have kk0 : (0 : Int) ≤ (k : Int) * (k : Int) := by rw [← Int.natCast_mul]; omega
      have p1 : (0 : Int) < (b : Int) := by omega
      have NX := Lib.hid nx
      have HS := Lib.hid (show R + 2 * b ≤ 2147483648 ∧ R + b = k ∧ 1 ≤ b ∧ n < (R + 2 * b) * (R + 2 * b) ∧ R * R ≤ n from ⟨hs, hk, b1, hq, hR⟩)
      clear kk nx hb hb2 hs hk b1 hq hR hi
      by_cases c : k * k ≤ n
      · have cI : (k : Int) * (k : Int) ≤ (n : Int) := by rw [← Int.natCast_mul]; omega
        have CC := Lib.hid c
        clear c
        go_wp2
        go_round
        case rel =>
          obtain ⟨q1, q2, q3, q4, q5⟩ := HS.out
          have q6 : R + 2 * b = k + b := by omega
          rw [q6] at q4 q1
          refine ⟨k, b / 2, m, rfl, val_i (by omega), CC.out, ?_⟩
          rcases NX.out with ⟨z, y, x⟩ | ⟨z, y, x⟩
          · exact .inl ⟨z, y, by rw [x] at q4; exact q4, by omega⟩
          · exact .inr ⟨z, y, by rw [x]; exact q4, by omega⟩
        case measure => have := HS.out.2.2.1; simp [intOf]; omega
      · have cI : (n : Int) < (k : Int) * (k : Int) := by rw [← Int.natCast_mul]; omega
        have CC := Lib.hid (show n < k * k by omega)
        clear c
        go_wp2
        go_round
        case rel =>
          obtain ⟨q1, q2, q3, q4, q5⟩ := HS.out
          have q6 := CC.out
          rw [← q2] at q6
          refine ⟨R, b / 2, m, rfl, val_i (by omega), q5, ?_⟩
          rcases NX.out with ⟨z, y, x⟩ | ⟨z, y, x⟩
          · exact .inl ⟨z, y, by rw [x] at q6; exact q6, by omega⟩
          · exact .inr ⟨z, y, by rw [x]; exact q6, by omega⟩
        case measure => have := HS.out.2.2.1; simp [intOf]; omega
theorem above4_any (n : Nat) (w : World) (h : n ≤ 1152921504606846976) :
    Calls Tryd.prog 58 #[.int .i64 (n : Int)] w fun e w' => e = .returned (.int .i64 ((Rt.csq n : Nat) : Int)) ∧ w = w' := by
  have hb : Rt.isq n ≤ 1073741824 := by have := Rt.isq_lt (n := n) (b := 1073741825) (by omega); omega
  have B := Lib.hid (fun W => below4_any n W h)
  have Q := Lib.hid (csq_iff n)
  have hn : (n : Int) ≤ 1152921504606846976 := by omega
  obtain ⟨r, hr⟩ : ∃ r, Rt.isq n = r := ⟨_, rfl⟩
  rw [hr] at hb B Q
  have kk := Nat.mul_le_mul hb hb
  have k1 : (r : Int) * (r : Int) ≤ 4611686018427387904 := by rw [← Int.natCast_mul]; omega
  have k0 : (0 : Int) ≤ (r : Int) * (r : Int) := by rw [← Int.natCast_mul]; omega
  clear hr kk
  by_cases c : r * r < n
  · have cI : (r : Int) * (r : Int) < (n : Int) := by rw [← Int.natCast_mul]; omega
    rw [Q.out.1 c]
    clear c Q
    go_enter Tryd.func58, Tryd.ntmps58
    go_wp2_with fail
    refine (B.out _).mono ?_
    rintro e w1 ⟨rfl, rfl⟩
    go_wp2
    go_ret
    exact ⟨ret_int (by omega), rfl⟩
  · have cI : (n : Int) ≤ (r : Int) * (r : Int) := by rw [← Int.natCast_mul]; omega
    rw [Q.out.2 (by omega)]
    clear c Q
    go_enter Tryd.func58, Tryd.ntmps58
    go_wp2_with fail
    refine (B.out _).mono ?_
    rintro e w1 ⟨rfl, rfl⟩
    go_wp2
    go_ret
    exact ⟨rfl, rfl⟩

end Go.Proofs.YtjflgiegnibgmaaDoor
