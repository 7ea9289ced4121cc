/-
  Stage 7: the small functions: ranges, sums, ValidateCharges, Work.
-/
import Derived.Test.YtbcjiigmbcfkeaaGreatHo1
import Derived.LoopTactic
import Derived.Laws.EntriesVeiled
namespace Go.Proofs.YtbcjiigmbcfkeaaGreat
open Go.ChangeShapes Go.WideShapes Go.RowKit
open Sh
/-- a list of numbers in memory -/
def RowI (w : World) (b off n : Nat) (c : Nat → Int) : Prop := b < w.heap.size ∧ ∀ k, k < n → w.cell? ⟨b, off + k, none⟩ = some (.int .i64 (c k))
def LstI (w : World) (a : Option Addr) (n : Nat) (c : Nat → Int) : Prop := 0 < n → ∃ b off, a = some ⟨b, off, none⟩ ∧ RowI w b off n c
theorem rowI_below {w w1 : World} {b off n : Nat} {c : Nat → Int} (h : RowI w b off n c) (hb : Below w.heap.size w w1) : RowI w1 b off n c :=
  ⟨Nat.lt_of_lt_of_le h.1 hb.size, fun k hk => (hb.cell (p := ⟨b, off + k, none⟩) h.1).trans (h.2 k hk)⟩
theorem lstI_below {w w1 : World} {a : Option Addr} {n : Nat} {c : Nat → Int} (h : LstI w a n c) (hb : Below w.heap.size w w1) : LstI w1 a n c := fun h0 => by
  obtain ⟨b, off, e, r⟩ := h h0
  exact ⟨b, off, e, rowI_below r hb⟩
theorem ch_sm2 {n : Nat} {c : Nat → Int} (hc : ∀ i, i < n → 0 ≤ c i ∧ c i ≤ 100) : 0 ≤ sm c n ∧ sm c n ≤ 100 * (n : Int) := by
  have a := sm_nn (f := c) (n := n) fun i hi => (hc i hi).1
  have b : sm c n ≤ sm (fun _ => (100 : Int)) n := sml fun i hi => (hc i hi).2
  rw [smc] at b
  omega
theorem chB_next {c : Nat → Int} {k : Nat} (h : chB c k = true) (x : rngB (c k) 0 100 = true) : chB c (k + 1) = true :=
  chB_iff.2 fun i hi => by
    by_cases e : i = k
    · subst e; exact rngB_iff.1 x
    · exact chB_iff.1 h i (by omega)
theorem chB_hit {c : Nat → Int} {k n : Nat} (hk : k < n) (x : rngB (c k) 0 100 = false) : chB c n = false := by
  cases e : chB c n with
  | false => rfl
  | true => exact absurd (chB_iff.1 e k hk) (rngB_not.1 x)
theorem hinr_any (n lo hi : Int) (w : World) :
    Calls Tryz.prog 102 #[.int .i64 n, .int .i64 lo, .int .i64 hi] w fun e w' => e = .returned (.bool (rngB n lo hi)) ∧ w = w' := by
  by_cases h : lo ≤ n
  · by_cases k : n ≤ hi
    · rw [rngB_iff.2 ⟨h, k⟩]
      go_enter Tryz.func102, Tryz.ntmps102
      go_wp2
      go_ret
      exact ⟨rfl, rfl⟩
    · rw [rngB_not.2 (fun x => k x.2)]
      have k' : decide (n ≤ hi) = false := decide_eq_false k
      clear k
      go_enter Tryz.func102, Tryz.ntmps102
      go_wp2
      go_ret
      exact ⟨rfl, rfl⟩
  · rw [rngB_not.2 (fun x => h x.1)]
    go_enter Tryz.func102, Tryz.ntmps102
    go_wp2
    go_ret
    exact ⟨rfl, rfl⟩
theorem hwi_any (n lo hi : Int) (w : World) :
    Calls Tryz.prog 47 #[.int .i64 n, .int .i64 lo, .int .i64 hi] w fun e w' => e = .returned (.bool (rngB n lo hi)) ∧ w = w' := by
  by_cases h : lo ≤ n
  · by_cases k : n ≤ hi
    · rw [rngB_iff.2 ⟨h, k⟩]
      go_enter Tryz.func47, Tryz.ntmps47
      go_wp2
      go_ret
      exact ⟨rfl, rfl⟩
    · rw [rngB_not.2 (fun x => k x.2)]
      have k' : decide (n ≤ hi) = false := decide_eq_false k
      clear k
      go_enter Tryz.func47, Tryz.ntmps47
      go_wp2
      go_ret
      exact ⟨rfl, rfl⟩
  · rw [rngB_not.2 (fun x => h x.1)]
    go_enter Tryz.func47, Tryz.ntmps47
    go_wp2
    go_ret
    exact ⟨rfl, rfl⟩
theorem nch_any (n : Int) (w : World) : Calls Tryz.prog 50 #[.int .i64 n] w fun e w' => e = .returned (.bool (!rngB n 0 100)) ∧ w = w' := by
  have R := Lib.hid (fun W => hinr_any n 0 100 W)
  generalize rngB n 0 100 = b at *
  go_enter Tryz.func50, Tryz.ntmps50
  go_wp2_with fail
  with_reducible refine (R.out _).mono ?_
  rintro e w1 ⟨rfl, rfl⟩
  cases b <;> (go_wp2; go_ret; exact ⟨rfl, rfl⟩)
theorem hdp_any (n : Int) (w : World) : Calls Tryz.prog 89 #[.int .i64 n] w fun e w' => e = .returned (.bool (rngB n 0 2)) ∧ w = w' := by
  have R := Lib.hid (fun W => hinr_any n 0 2 W)
  generalize rngB n 0 2 = b at *
  go_enter Tryz.func89, Tryz.ntmps89
  go_wp2_with fail
  with_reducible refine (R.out _).mono ?_
  rintro e w1 ⟨rfl, rfl⟩
  cases b <;> (go_wp2; go_ret; exact ⟨rfl, rfl⟩)
set_option maxRecDepth 100000 in
set_option maxHeartbeats 2000000 in
theorem hix_any (a : Option Addr) (n cap : Nat) (c : Nat → Int) (w : World) (rr : LstI w a n c) (hn : n ≤ 1000000) :
    Calls Tryz.prog 101 #[.slice a n cap, .func (.func 50) #[] #[]] w fun e w' => ∃ r : Int, e = .returned (.int .i64 r) ∧ -1 ≤ r ∧ r ≤ 1000000 ∧ chB c n = decide (r < 0) ∧ Below w.heap.size w w' := by
  have RR := Lib.hid rr
  have hn' : (n : Int) ≤ 1000000 := by omega
  clear rr
  go_enter Tryz.func101, Tryz.ntmps101
  go_wp2
  go_loopw [8] (fun kv wr => ∃ k : Nat, k ≤ n ∧ kv = .int .i64 k ∧ chB c k = true ∧ Below w.heap.size w wr) (fun kv _ => n - (intOf kv).toNat)
  case atStart => exact ⟨0, Nat.zero_le _, rfl, rfl, Below.refl _ _⟩
  case round =>
    obtain ⟨k, hk, rfl, good, BB⟩ := hrel
    have GOOD := Lib.hid good
    clear good
    by_cases hlt : k < n
    · have hk1 : (k : Int) < (n : Int) := by omega
      obtain ⟨b, off, rfl, rw0⟩ := RR.out (show 0 < n by omega)
      have r2 := rowI_below rw0 BB
      have c1 := r2.2 k hlt
      have l1 := r2.1
      have HIT := Lib.hid (fun h : rngB (c k) 0 100 = false => chB_hit hlt h)
      have NEXT := Lib.hid (fun h : rngB (c k) 0 100 = true => chB_next GOOD.out h)
      clear r2 rw0
      generalize c k = x at *
      have CK := Lib.hid (fun W => nch_any x W)
      go_wp2_with fail
      go_at_call 50
      with_reducible refine (CK.out _).mono ?_
      rintro e w1 ⟨rfl, rfl⟩
      cases hb : rngB x 0 100 with
      | true =>
        have A1 := Lib.hid (NEXT.out hb)
        clear HIT NEXT hb
        go_wp2
        go_roundw
        case rel => exact ⟨k + 1, by omega, by go_num, A1.out, BB⟩
        case measure => simp [intOf]; omega
      | false =>
        have A1 := Lib.hid (HIT.out hb)
        clear HIT NEXT hb
        go_wp2
        go_ret
        exact ⟨_, rfl, by omega, by omega, by rw [A1.out]; exact (decide_eq_false (by omega)).symm, BB⟩
    · obtain rfl : k = n := by omega
      go_wp2
      go_ret
      exact ⟨-1, rfl, by omega, by omega, by rw [GOOD.out]; rfl, BB⟩
theorem hcf_any (a : Option Addr) (n cap : Nat) (c : Nat → Int) (w : World) (rr : LstI w a n c) (hn : n ≤ 1000000) :
    Calls Tryz.prog 49 #[.slice a n cap, .func (.func 50) #[] #[]] w fun e w' => e = .returned (.bool (!chB c n)) ∧ Below w.heap.size w w' := by
  have CI := Lib.hid (fun W (B : Below w.heap.size w W) => hix_any a n cap c W (lstI_below rr B) hn)
  clear rr
  generalize chB c n = v at *
  go_enter Tryz.func49, Tryz.ntmps49
  go_wp2_with fail
  with_reducible refine (CI.out _ (Below.refl _ w)).mono ?_
  rintro e w1 ⟨r, rfl, r1, r2, hv, hb⟩
  by_cases z : 0 ≤ r
  · obtain rfl : v = false := by rw [hv]; exact decide_eq_false (by omega)
    clear hv
    go_wp2
    go_ret
    exact ⟨by first | rfl | simp [z], hb⟩
  · obtain rfl : v = true := by rw [hv]; exact decide_eq_true (by omega)
    clear hv
    go_wp2
    go_ret
    exact ⟨by first | rfl | simp [z], hb⟩
set_option maxRecDepth 100000 in
set_option maxHeartbeats 2000000 in
theorem hsum_any (a : Option Addr) (n cap : Nat) (c : Nat → Int) (w : World) (rr : LstI w a n c) (hn : n ≤ 1000) (hc : ∀ i, i < n → 0 ≤ c i ∧ c i ≤ 100) :
    Calls Tryz.prog 51 #[.slice a n cap] w fun e w' => e = .returned (.int .i64 (sm c n)) ∧ Below w.heap.size w w' := by
  have RR := Lib.hid rr
  have HC := Lib.hid hc
  have hn' : (n : Int) ≤ 1000 := by omega
  clear rr hc
  go_enter Tryz.func51, Tryz.ntmps51
  go_wp2
  go_loopw [3, 8] (fun sv kv wr => ∃ k : Nat, k ≤ n ∧ kv = .int .i64 k ∧ sv = .int .i64 (sm c k) ∧ Below w.heap.size w wr) (fun _ kv _ => n - (intOf kv).toNat)
  case atStart => exact ⟨0, Nat.zero_le _, rfl, rfl, Below.refl _ _⟩
  case round =>
    obtain ⟨k, hk, rfl, rfl, BB⟩ := hrel
    by_cases hlt : k < n
    · have hk1 : (k : Int) < (n : Int) := by omega
      obtain ⟨b, off, rfl, rw0⟩ := RR.out (show 0 < n by omega)
      have r2 := rowI_below rw0 BB
      have c1 := r2.2 k hlt
      have l1 := r2.1
      have bs := ch_sm2 (n := k) (fun i hi => HC.out i (by omega))
      have bc := HC.out k hlt
      have e1 := Lib.hid (show sm c (k + 1) = sm c k + c k from rfl)
      clear r2 rw0
      generalize sm c k = p at *
      generalize c k = x at *
      obtain ⟨bs1, bs2⟩ := bs
      obtain ⟨bc1, bc2⟩ := bc
      go_wp2
      go_roundw
      case rel => exact ⟨k + 1, by omega, by go_num, by rw [e1.out], BB⟩
      case measure => simp [intOf]; omega
    · obtain rfl : k = n := by omega
      go_wp2
      go_ret
      exact ⟨rfl, BB⟩
set_option maxRecDepth 100000 in
set_option maxHeartbeats 2000000 in
theorem rhsum_any (a : Option Addr) (n cap : Nat) (c : Nat → Int) (w : World) (rr : LstI w a n c) (hn : n ≤ 1000) (hc : ∀ i, i < n → 0 ≤ c i ∧ c i ≤ 100) :
    Calls Tryz.prog 52 #[.slice a n cap] w fun e w' => e = .returned (.int .i64 (sm c n)) ∧ Below w.heap.size w w' := by
  have RR := Lib.hid rr
  have HC := Lib.hid hc
  have hn' : (n : Int) ≤ 1000 := by omega
  clear rr hc
  go_enter Tryz.func52, Tryz.ntmps52
  go_wp2
  go_loopw [3, 4] (fun sv kv wr => ∃ k : Nat, k ≤ n ∧ kv = .int .i64 k ∧ sv = .int .i64 (sm c k) ∧ Below w.heap.size w wr) (fun _ kv _ => n - (intOf kv).toNat)
  case atStart => exact ⟨0, Nat.zero_le _, rfl, rfl, Below.refl _ _⟩
  case round =>
    obtain ⟨k, hk, rfl, rfl, BB⟩ := hrel
    by_cases hlt : k < n
    · have hk1 : (k : Int) < (n : Int) := by omega
      obtain ⟨b, off, rfl, rw0⟩ := RR.out (show 0 < n by omega)
      have r2 := rowI_below rw0 BB
      have c1 := r2.2 k hlt
      have l1 := r2.1
      have bs := ch_sm2 (n := k) (fun i hi => HC.out i (by omega))
      have bc := HC.out k hlt
      have e1 := Lib.hid (show sm c (k + 1) = sm c k + c k from rfl)
      clear r2 rw0
      generalize sm c k = p at *
      generalize c k = x at *
      obtain ⟨bs1, bs2⟩ := bs
      obtain ⟨bc1, bc2⟩ := bc
      go_wp2
      go_roundw
      case rel => exact ⟨k + 1, by omega, by go_num, by rw [e1.out], BB⟩
      case measure => simp [intOf]; omega
    · obtain rfl : k = n := by omega
      go_wp2
      go_ret
      exact ⟨rfl, BB⟩
end Go.Proofs.YtbcjiigmbcfkeaaGreat
