/-
  The contracts of the document's roots of integers, and of Root in the program and in the document's answer.
-/
import Derived.Test.YtjflgiegnibgmaaDoorRoot
import Derived.Deep.RegionHeld3
namespace Go.Proofs.YtjflgiegnibgmaaDoor
open Go.ChangeShapes Go.WideShapes Go.RowKit
theorem pair_drew'' {w : World} {b : Nat} {x y : Int} (h : Pair w b x y) : Pair w.drew b x y := h
theorem mid_yes {n k : Nat} (h : k * k ≤ n) : k ≤ Rt.isq n := by
  have b := (Rt.isq_spec n).2
  rcases Nat.lt_or_ge (Rt.isq n) k with c | c
  · have := Nat.mul_le_mul (show Rt.isq n + 1 ≤ k by omega) (show Rt.isq n + 1 ≤ k by omega); omega
  · exact c
theorem mid_no {n k : Nat} (h : n < k * k) : Rt.isq n < k := Rt.isq_lt h
theorem csq_iff (n : Nat) : (Rt.isq n * Rt.isq n < n → Rt.csq n = Rt.isq n + 1) ∧ (n ≤ Rt.isq n * Rt.isq n → Rt.csq n = Rt.isq n) := by
  have a := (Rt.isq_spec n).1
  unfold Rt.csq
  exact ⟨fun h => if_neg (by omega), fun h => if_pos (by omega)⟩
set_option maxHeartbeats 800000 in
theorem floor_any (n : Nat) (w : World) (h : n ≤ 1152921504606846976) :
    Calls Tryd.prog 91 #[.int .i64 n] w fun e w' => e = .returned (.int .i64 ((Rt.isq n : Nat) : Int)) ∧ w = w' := by
  have hb : Rt.isq n ≤ 2147483648 := Nat.le_of_lt (Rt.isq_lt (by omega))
  have hn : (n : Int) ≤ 1152921504606846976 := by omega
  have Y := Lib.hid (fun k (hk : k * k ≤ n) => mid_yes hk)
  have N := Lib.hid (fun k (hk : n < k * k) => mid_no hk)
  obtain ⟨r, hr⟩ : ∃ r, Rt.isq n = r := ⟨_, rfl⟩
  rw [hr] at hb Y N ⊢
  clear hr
  go_enter Tryd.func91, Tryd.ntmps91
  go_wp2
  go_loop [3, 4] (fun lv gv => ∃ l g : Nat, l ≤ r ∧ r ≤ g ∧ g ≤ 2147483648 ∧ lv = .int .i64 l ∧ gv = .int .i64 g) (fun lv gv => (intOf gv - intOf lv).toNat)
  case atStart => exact ⟨0, 2147483648, by omega, by omega, by omega, rfl, rfl⟩
  case round =>
    obtain ⟨l, g, h1, h2, h3, rfl, rfl⟩ := hrel
    by_cases hlt : l < g
    · obtain ⟨k, hk⟩ : ∃ k, (l + g + 1) / 2 = k := ⟨_, rfl⟩
      have e1 : ((l : Int) + (g : Int) + 1) / 2 = (k : Int) := by omega
      have hk2 : k ≤ 2147483648 := by omega
      have kk := Nat.mul_le_mul hk2 hk2
      have kk1 : (k : Int) * (k : Int) ≤ 4611686018427387904 := by rw [← Int.natCast_mul]; omega
      have kk0 : (0 : Int) ≤ (k : Int) * (k : Int) := by rw [← Int.natCast_mul]; omega
      have hk1 : 1 ≤ k := by omega
      have K := Lib.hid hk
      clear kk
      by_cases c : k * k ≤ n
      · have cI : (k : Int) * (k : Int) ≤ (n : Int) := by rw [← Int.natCast_mul]; omega
        have hy := Y.out k c
        clear c hk
        go_wp2
        go_round
        case rel => exact ⟨k, g, hy, h2, h3, val_i (by omega), rfl⟩
        case measure => have := K.out; simp [intOf]; omega
      · have cI : (n : Int) < (k : Int) * (k : Int) := by rw [← Int.natCast_mul]; omega
        have hy := N.out k (by omega)
        clear c hk
        go_wp2
        go_round
        case rel => exact ⟨l, k - 1, h1, by omega, by omega, rfl, val_i (by omega)⟩
        case measure => have := K.out; simp [intOf]; omega
    · obtain rfl : l = g := by omega
      obtain rfl : r = l := by omega
      go_wp2
      go_ret
      exact ⟨ret_int (by omega), rfl⟩
/-- the span of the roots -/
def rootR (lo hi : Int) : Sp.R := if Sp.vldB lo hi = true ∧ 0 ≤ lo then Sp.told ((Rt.isq (lo.toNat * 1048576) : Nat) : Int) ((Rt.csq (hi.toNat * 1048576) : Nat) : Int) else ((0, 0), 1)
theorem root_any (n m : Nat) (w : World) (h : n ≤ 1152921504606846976) (hm : m ≤ 20) :
    Calls Tryd.prog 80 #[.int .i64 n, .int .i64 m] w fun e w' => e = .returned (.tuple #[.int .i64 (Rt.isq (n * 4 ^ m) : Nat), .int .i64 (Rt.csq (n * 4 ^ m) : Nat)]) ∧ w = w' := by
  rcases Nat.eq_zero_or_pos n with e | e
  · subst e
    rw [Nat.zero_mul]
    exact root_zero m w
  · exact root_pos n m w e h hm
end Go.Proofs.YtjflgiegnibgmaaDoor
