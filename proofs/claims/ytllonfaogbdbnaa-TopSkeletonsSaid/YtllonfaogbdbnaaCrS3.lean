/-
  The contract of sets, in the program and in the document's answer.
-/
import Derived.Test.YtllonfaogbdbnaaCrS2
namespace Go.Proofs.Ytllonfaogbdbnaa
open Go.ChangeShapes Go.WideShapes Go.RowKit
open Cr
def ints (l : List Nat) : List Int := l.map fun (k : Nat) => (k : Int)
theorem len_ints (l : List Nat) : (ints l).length = l.length := by unfold ints; simp
/-- the sets of q numbers below n, of the masks below m -/
def setsTo (n q m : Nat) : List (List Int) := ((List.range m).filter fun k => (bitsL n k).length == q).map fun k => ints (bitsL n k)
def setsN (n q : Nat) : List (List Int) := setsTo n q (2 ^ n)
theorem setsTo_succ (n q m : Nat) : setsTo n q (m + 1) = if (bitsL n m).length = q then setsTo n q m ++ [ints (bitsL n m)] else setsTo n q m := by
  unfold setsTo
  rw [List.range_succ, List.filter_append]
  by_cases h : (bitsL n m).length = q <;> simp [h]
theorem setsTo_le (n q m : Nat) : (setsTo n q m).length ≤ m := by
  unfold setsTo
  rw [List.length_map]
  exact Nat.le_trans (List.length_filter_le _ _) (by simp)
theorem bitsL_succ (j k : Nat) : bitsL (j + 1) k = if k / 2 ^ j % 2 = 1 then bitsL j k ++ [j] else bitsL j k := by
  unfold bitsL
  rw [List.range_succ, List.filter_append]
  by_cases h : k / 2 ^ j % 2 = 1 <;> simp [h]
theorem bitsL_6 : ∀ n, n < 7 → ∀ k, k < 64 → k < 2 ^ n → bitsL 6 k = bitsL n k := by decide +kernel
theorem pow_le6 : ∀ n, n < 7 → 2 ^ n ≤ 64 := by decide
theorem wrap_pow : ∀ n, n < 7 → wrap64 ((2 : Int) ^ n) = ((2 ^ n : Nat) : Int) := by decide +kernel
theorem bit_and : ∀ i, i < 7 → ∀ k : Nat, k < 64 → bits BinOp.and IntKind.i64 ((k : Int) / 2 ^ i) 1 = ((k / 2 ^ i % 2 : Nat) : Int) := by decide +kernel
theorem ints_1 {i k : Nat} (h : k / 2 ^ i % 2 = 1) : ints (bitsL (i + 1) k) = ints (bitsL i k) ++ [(i : Int)] := by
  rw [bitsL_succ, if_pos h]; unfold ints; rw [List.map_append]; rfl
theorem ints_0 {i k : Nat} (h : ¬ k / 2 ^ i % 2 = 1) : ints (bitsL (i + 1) k) = ints (bitsL i k) := by
  rw [bitsL_succ, if_neg h]
theorem bit_int (i k : Nat) : (k : Int) / 2 ^ i % 2 = ((k / 2 ^ i % 2 : Nat) : Int) := by
  rw [Int.natCast_emod, Int.natCast_ediv, Int.natCast_pow]; rfl
theorem oi_cap {w : World} {base n c : Nat} {A : Option Addr} {l : List Int} (h : OI w base (.slice A n c) l) : l.length ≤ c := by
  obtain ⟨A', c', e, hc⟩ := oi_slice h
  injection e with _ _ e
  omega
theorem bitsL_le (j k : Nat) : (bitsL j k).length ≤ j := by
  unfold bitsL
  exact Nat.le_trans (List.length_filter_le _ _) (by simp)
theorem il_one' (w : World) (x : Int) : IL (w.alloc (.cells #[.int .i64 x] 3)) (some ⟨w.heap.size, 0, none⟩) [x] := il_one w x
theorem oll_out {w w2 : World} {base B : Nat} {v : Value} {L : List (List Int)} {A : Option Addr} {n c : Nat} {l : List Int} (h : OLL w base v L) (hB : w.heap.size ≤ B) (ho : OI w2 B (.slice A n c) l) : ∀ a, A = some a → a.block < (w2.alloc (.cells #[.slice A n c] 37)).heap.size ∧ some a.block ≠ v.ownBlock := fun a e => by
  have hl := ho.lt a.block
  rcases oi_form ho with ⟨g, c', e', _, _⟩ | ⟨e', _⟩
  · injection e' with e1 _ _
    subst e1
    injection e with e
    subst e
    obtain ⟨g1, g2⟩ := hl rfl
    have g1 : B ≤ g := g1
    have g2 : g < w2.heap.size := g2
    refine ⟨by simp; omega, fun e' => ?_⟩
    have := (oll_lt h g e'.symm).2
    omega
  · injection e' with e1 _ _
    rw [e1] at e; cases e
set_option maxHeartbeats 2000000 in
theorem sets_any (n q : Nat) (w : World) (hn : n ≤ 6) (hq : q ≤ 6) :
    Calls Try.prog 93 #[.int .i64 (n : Int), .int .i64 (q : Int)] w fun e w' => ∃ A c, e = .returned (.slice A (setsN n q).length c) ∧ ML w' A (setsN n q) ∧ Below w.heap.size w w' := by
  have OC := Lib.hid (fun (k : Nat) W (hk : k < 2 ^ n) => oc_any k W (Nat.lt_of_lt_of_le hk (pow_le6 n (by omega))))
  have BL := Lib.hid (fun (k : Nat) (hk : k < 2 ^ n) => bitsL_6 n (by omega) k (Nat.lt_of_lt_of_le hk (pow_le6 n (by omega))) hk)
  have PL := pow_le6 n (by omega)
  have hw := wrap_pow n (by omega)
  unfold setsN
  obtain ⟨N, hN⟩ : ∃ N : Nat, 2 ^ n = N := ⟨_, rfl⟩
  rw [hN] at OC BL PL hw ⊢
  have nn : (n : Int) ≤ 6 := by omega
  have n0 : 0 ≤ (n : Int) := by omega
  have NN : (N : Int) ≤ 64 := by omega
  have q0 : 0 ≤ (q : Int) := by omega
  have qq : (q : Int) ≤ 6 := by omega
  go_enter Try.func93, Try.ntmps93
  go_wp2_with fail
  rw [hw]
  clear hw
  go_loopw [5, 11] (fun av mv wr => ∃ k A c, k ≤ N ∧ mv = .int .i64 (k : Int) ∧ av = .slice A (setsTo n q k).length c ∧ OLL wr w.heap.size (.slice A (setsTo n q k).length c) (setsTo n q k) ∧ Below w.heap.size w wr) (fun _ mv _ => N - (intOf mv).toNat)
  case atStart => exact ⟨0, none, 0, Nat.zero_le _, rfl, rfl, oll_nil _ _, Below.refl _ _⟩
  case round =>
    rename World => wo
    obtain ⟨k, A2, c2, hk, rfl, rfl, ho, B⟩ := hrel
    have HO := Lib.hid ho
    have HB := Lib.hid B
    by_cases hlt : k < N
    · have hk1 : (k : Int) < (N : Int) := by omega
      have hk0 : 0 ≤ (k : Int) := by omega
      have OCk := Lib.hid (OC.out k wo hlt)
      rw [BL.out k hlt] at OCk
      have SS := setsTo_succ n q k
      clear ho B
      by_cases hz : (bitsL n k).length = q
      · rw [hz] at OCk
        rw [if_pos hz] at SS
        go_wp2_with fail
        with_reducible refine OCk.out.mono ?_
        rintro e w2 ⟨rfl, rfl⟩
        go_wp2_with fail
        go_loopw [7, 20] (fun sv iv wi => ∃ i A1 c1, i ≤ n ∧ iv = .int .i64 (i : Int) ∧ sv = .slice A1 (ints (bitsL i k)).length c1 ∧ OI wi wo.heap.size (.slice A1 (ints (bitsL i k)).length c1) (ints (bitsL i k)) ∧ (ints (bitsL i k)).length ≤ c1 ∧ Below wo.heap.size wo wi) (fun _ iv _ => n - (intOf iv).toNat)
        case atStart => exact ⟨0, none, 0, Nat.zero_le _, rfl, rfl, oi_nil _ _, Nat.le_refl _, Below.refl _ _⟩
        case round =>
          obtain ⟨i, A1, c1, hi, rfl, rfl, ho1, hc1, B1⟩ := hrel
          have HO1 := Lib.hid ho1
          have HB1 := Lib.hid B1
          by_cases hil : i < n
          · have hi1 : (i : Int) < (n : Int) := by omega
            have hi0 : 0 ≤ (i : Int) := by omega
            have LL : (ints (bitsL i k)).length ≤ 6 := by rw [len_ints]; have := bitsL_le i k; omega
            have BI := bit_and i (by omega) k (by omega)
            clear ho1 hc1 B1
            by_cases hb : k / 2 ^ i % 2 = 1
            · have I1 := Lib.hid (ints_1 hb)
              have LN := Lib.hid (show (ints (bitsL i k) ++ [(i : Int)]).length = (ints (bitsL i k)).length + 1 by simp)
              rw [hb] at BI
              have BI' : bits BinOp.and IntKind.i64 ((k : Int) / 2 ^ i) 1 = 1 := BI
              clear BI hb
              go_wp2_with (at_builtin; refine wpI rfl (.tmp 28) (.tmp 30) rfl wo.heap.size (.slice A1 (ints (bitsL i k)).length c1) (ints (bitsL i k)) rfl (World.ownsRow.alloc HO1.out _) (by have := HB1.out.size; simp; omega) (some ⟨wr.heap.size, 0, none⟩) 1 1 [(i : Int)] rfl (il_one _ _) rfl (by omega) ((ints (bitsL i k)).length + 1) LN.out ?_; intro A3 c3 w3 ho hg _; have HO3 := Lib.hid ho; have HB3 := Lib.hid (below_grown (balloc HB1.out _) hg (by have := HB1.out.size; simp; omega) (fun g hg => (HO1.out.lt g hg).1)); clear ho hg)
              go_roundw
              case rel => exact ⟨i + 1, A3, c3, by omega, by go_num, by rw [I1.out, LN.out], by rw [I1.out, LN.out]; exact HO3.out, by rw [I1.out]; exact oi_cap HO3.out, HB3.out⟩
              case measure => simp [intOf]; omega
            · have I1 := Lib.hid (ints_0 hb)
              have hb0 : k / 2 ^ i % 2 = 0 := by omega
              rw [hb0] at BI
              have BI' : bits BinOp.and IntKind.i64 ((k : Int) / 2 ^ i) 1 = 0 := BI
              clear hb0
              clear BI hb
              go_wp2_with fail
              go_roundw
              case rel => exact ⟨i + 1, A1, c1, by omega, by go_num, by rw [I1.out], by rw [I1.out]; exact HO1.out, by rw [I1.out]; exact oi_cap HO1.out, HB1.out⟩
              case measure => simp [intOf]; omega
          · obtain rfl : n = i := by omega
            have SL := setsTo_le n q k
            have LA := Lib.hid (show (setsTo n q k ++ [ints (bitsL n k)]).length = (setsTo n q k).length + 1 by simp)
            have HC1 := Lib.hid hc1
            clear ho1 B1 hc1
            go_wp2_with (at_builtin; refine wpL rfl (.tmp 33) (.tmp 35) rfl w.heap.size (.slice A2 (setsTo n q k).length c2) (setsTo n q k) rfl (oll_alloc (oll_below HO.out HB1.out) _) (by have := HB1.out.size; have := HB.out.size; simp; omega) ⟨wr.heap.size, 0, none⟩ 1 rfl A1 (ints (bitsL n k)).length c1 (ints (bitsL n k)) (cell_one _ _ _) rfl HC1.out (il_in (oi_il HO1.out) (balloc (Below.refl _ _) _)) (oll_out HO.out (Nat.le_refl _) HO1.out) (by omega) ?_; intro A3 c3 w3 ho hg _; have HO3 := Lib.hid ho; have HB3 := Lib.hid (below_grown (balloc (bstep HB.out HB1.out) _) hg (by have := HB1.out.size; have := HB.out.size; simp; omega) (fun g hg => (oll_lt HO.out g hg).1)); clear ho hg)
            go_roundw
            case rel => exact ⟨k + 1, A3, c3, by omega, by go_num, by rw [SS, LA.out], by rw [SS, LA.out]; exact HO3.out, HB3.out⟩
            case measure => simp [intOf]; omega
      · have hz' : ((bitsL n k).length : Int) ≠ (q : Int) := by omega
        have hl0 : 0 ≤ ((bitsL n k).length : Int) := by omega
        rw [if_neg hz] at SS
        generalize ((bitsL n k).length : Int) = lk at *
        have t1 : (lk != (q : Int)) = true := by simp [hz']
        go_wp2_with fail
        with_reducible refine OCk.out.mono ?_
        rintro e w2 ⟨rfl, rfl⟩
        go_wp2_with fail
        go_roundw
        case rel => exact ⟨k + 1, A2, c2, by omega, by go_num, by rw [SS], by rw [SS]; exact HO.out, HB.out⟩
        case measure => simp [intOf]; omega
    · obtain rfl : k = N := by omega
      go_wp2_with fail
      go_ret
      exact ⟨A2, c2, rfl, oll_ml ho, B⟩

end Go.Proofs.Ytllonfaogbdbnaa
