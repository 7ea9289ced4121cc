/-
  The contract of Sets, the document's answer.
-/
import Derived.Test.YtefmlcojbfiehaaCrS3
namespace Go.Proofs.Ytefmlcojbfiehaa
open Go.ChangeShapes Go.WideShapes Go.RowKit
open Cr
set_option maxHeartbeats 2000000 in
theorem rsets_any (n q : Nat) (w : World) (hn : n ≤ 6) (hq : q ≤ 6) :
    Calls Try.prog 78 #[.int .i64 (n : Int), .int .i64 (q : Int)] w fun e w' => ∃ A c, e = .returned (.slice A (setsN n q).length c) ∧ ML w' A (setsN n q) ∧ Below w.heap.size w w' := by
  have PL := pow_le6 n (by omega)
  have hw := wrap_pow n (by omega)
  unfold setsN
  obtain ⟨N, hN⟩ : ∃ N : Nat, 2 ^ n = N := ⟨_, rfl⟩
  rw [hN] at PL hw ⊢
  have nn : (n : Int) ≤ 6 := by omega
  have n0 : 0 ≤ (n : Int) := by omega
  have NN : (N : Int) ≤ 64 := by omega
  have q0 : 0 ≤ (q : Int) := by omega
  have qq : (q : Int) ≤ 6 := by omega
  go_enter Try.func78, Try.ntmps78
  go_wp2_with fail
  go_loopw [5, 6] (fun av mv wr => ∃ k A c, k ≤ N ∧ mv = .int .i64 (k : Int) ∧ av = .slice A (setsTo n q k).length c ∧ OLL wr w.heap.size (.slice A (setsTo n q k).length c) (setsTo n q k) ∧ Below w.heap.size w wr) (fun _ mv _ => N - (intOf mv).toNat)
  case atStart => exact ⟨0, none, 0, Nat.zero_le _, rfl, rfl, oll_nil _ _, Below.refl _ _⟩
  case round =>
    rename World => wo
    obtain ⟨k, A2, c2, hk, rfl, rfl, ho, B⟩ := hrel
    have HO := Lib.hid ho
    have HB := Lib.hid B
    by_cases hlt : k < N
    · have hk1 : (k : Int) < (N : Int) := by omega
      have hk0 : 0 ≤ (k : Int) := by omega
      have SS := setsTo_succ n q k
      clear ho B
      go_wp2_with fail
      rw [hw]
      clear hw
      go_loopw [7, 8] (fun sv iv wi => ∃ i A1 c1, i ≤ n ∧ iv = .int .i64 (i : Int) ∧ sv = .slice A1 (ints (bitsL i k)).length c1 ∧ OI wi wo.heap.size (.slice A1 (ints (bitsL i k)).length c1) (ints (bitsL i k)) ∧ (ints (bitsL i k)).length ≤ c1 ∧ Below wo.heap.size wo wi) (fun _ iv _ => n - (intOf iv).toNat)
      case atStart => exact ⟨0, none, 0, Nat.zero_le _, rfl, rfl, oi_nil _ _, Nat.le_refl _, Below.refl _ _⟩
      case round =>
        obtain ⟨i, A1, c1, hi, rfl, rfl, ho1, hc1, B1⟩ := hrel
        have HO1 := Lib.hid ho1
        have HB1 := Lib.hid B1
        by_cases hil : i < n
        · have hi1 : (i : Int) < (n : Int) := by omega
          have hi0 : 0 ≤ (i : Int) := by omega
          have LL : (ints (bitsL i k)).length ≤ 6 := by rw [len_ints]; have := bitsL_le i k; omega
          have BI := bit_and i (by omega) k (by omega)
          clear ho1 hc1 B1
          by_cases hb : k / 2 ^ i % 2 = 1
          · have I1 := Lib.hid (ints_1 hb)
            have LN := Lib.hid (show (ints (bitsL i k) ++ [(i : Int)]).length = (ints (bitsL i k)).length + 1 by simp)
            rw [hb] at BI
            have BI' : bits BinOp.and IntKind.i64 ((k : Int) / 2 ^ i) 1 = 1 := BI
            clear BI hb
            go_wp2_with (at_builtin; refine wpI rfl (.tmp 27) (.tmp 29) rfl wo.heap.size (.slice A1 (ints (bitsL i k)).length c1) (ints (bitsL i k)) rfl (World.ownsRow.alloc HO1.out _) (by have := HB1.out.size; simp; omega) (some ⟨wr.heap.size, 0, none⟩) 1 1 [(i : Int)] rfl (il_one _ _) rfl (by omega) ((ints (bitsL i k)).length + 1) LN.out ?_; intro A3 c3 w3 ho hg _; have HO3 := Lib.hid ho; have HB3 := Lib.hid (below_grown (balloc HB1.out _) hg (by have := HB1.out.size; simp; omega) (fun g hg => (HO1.out.lt g hg).1)); clear ho hg)
            go_roundw
            case rel => exact ⟨i + 1, A3, c3, by omega, by go_num, by rw [I1.out, LN.out], by rw [I1.out, LN.out]; exact HO3.out, by rw [I1.out]; exact oi_cap HO3.out, HB3.out⟩
            case measure => simp [intOf]; omega
          · have I1 := Lib.hid (ints_0 hb)
            have hb0 : k / 2 ^ i % 2 = 0 := by omega
            rw [hb0] at BI
            have BI' : bits BinOp.and IntKind.i64 ((k : Int) / 2 ^ i) 1 = 0 := BI
            clear hb0
            clear BI hb
            go_wp2_with fail
            go_roundw
            case rel => exact ⟨i + 1, A1, c1, by omega, by go_num, by rw [I1.out], by rw [I1.out]; exact HO1.out, by rw [I1.out]; exact oi_cap HO1.out, HB1.out⟩
            case measure => simp [intOf]; omega
        · obtain rfl : n = i := by omega
          have HC1 := Lib.hid hc1
          clear ho1 B1 hc1
          by_cases hz : (bitsL n k).length = q
          · have hz' : ((ints (bitsL n k)).length : Int) = (q : Int) := by rw [len_ints, hz]
            rw [if_pos hz] at SS
            have SL := setsTo_le n q k
            have LA := Lib.hid (show (setsTo n q k ++ [ints (bitsL n k)]).length = (setsTo n q k).length + 1 by simp)
            go_wp2_with (at_builtin; refine wpL rfl (.tmp 35) (.tmp 37) rfl w.heap.size (.slice A2 (setsTo n q k).length c2) (setsTo n q k) rfl (oll_alloc (oll_below HO.out HB1.out) _) (by have := HB1.out.size; have := HB.out.size; simp; omega) ⟨wr.heap.size, 0, none⟩ 1 rfl A1 (ints (bitsL n k)).length c1 (ints (bitsL n k)) (cell_one _ _ _) rfl HC1.out (il_in (oi_il HO1.out) (balloc (Below.refl _ _) _)) (oll_out HO.out (Nat.le_refl _) HO1.out) (by omega) ?_; intro A3 c3 w3 ho hg _; have HO3 := Lib.hid ho; have HB3 := Lib.hid (below_grown (balloc (bstep HB.out HB1.out) _) hg (by have := HB1.out.size; have := HB.out.size; simp; omega) (fun g hg => (oll_lt HO.out g hg).1)); clear ho hg)
            go_roundw
            case rel => exact ⟨k + 1, A3, c3, by omega, by go_num, by rw [SS, LA.out], by rw [SS, LA.out]; exact HO3.out, HB3.out⟩
            case measure => simp [intOf]; omega
          · have hz' : ((ints (bitsL n k)).length : Int) ≠ (q : Int) := by rw [len_ints]; omega
            rw [if_neg hz] at SS
            have t1 : (((ints (bitsL n k)).length : Int) == (q : Int)) = false := by simp [hz']
            go_wp2_with fail
            go_roundw
            case rel => exact ⟨k + 1, A2, c2, by omega, by go_num, by rw [SS], by rw [SS]; exact oll_below HO.out HB1.out, bstep HB.out HB1.out⟩
            case measure => simp [intOf]; omega
    · obtain rfl : k = N := by omega
      go_wp2_with fail
      go_ret
      exact ⟨A2, c2, rfl, oll_ml ho, B⟩

end Go.Proofs.Ytefmlcojbfiehaa
