/-
  The document's distance of boxes: bounds, gap.
-/
import Derived.Test.YtjigcgpcglfjfaaFg14
namespace Go.Proofs.Ytjigcgpcglfjfaa
open Go.ChangeShapes Go.WideShapes Go.RowKit
open Sh
attribute [local go_sem 1000000] run_min_mn run_max_mx
attribute [local go_sem high] run_max3' run_min3'
/-- numbers in memory, at a block's head -/
def RwI (w : World) (b n : Nat) (f : Nat → Int) : Prop := b < w.heap.size ∧ ∀ k, k < n → w.cell? ⟨b, k, none⟩ = some (.int .i64 (f k))
theorem rwi_below {w w1 : World} {b n : Nat} {f : Nat → Int} (r : RwI w b n f) (hb : Below w.heap.size w w1) : RwI w1 b n f := ⟨Nat.lt_of_lt_of_le r.1 hb.size, fun k hk => (hb.cell (p := ⟨b, k, none⟩) r.1).trans (r.2 k hk)⟩
def mnN (f : Nat → Int) : Nat → Int
  | 0 => f 0
  | k + 1 => Sp.mn (mnN f k) (f k)
def mxN (f : Nat → Int) : Nat → Int
  | 0 => f 0
  | k + 1 => Sp.mx (mxN f k) (f k)
set_option maxRecDepth 100000 in
set_option maxHeartbeats 2000000 in
theorem rbounds_any (b n c : Nat) (f : Nat → Int) (w : World) (r : RwI w b n f) (h0 : 0 < n) (hn : n ≤ 1000) : Calls Try.prog 174 #[.slice (some ⟨b, 0, none⟩) n c] w fun e w' => e = .returned (.tuple #[.int .i64 (mnN f n), .int .i64 (mxN f n)]) ∧ Below w.heap.size w w' := by
  have hn' : (n : Int) ≤ 1000 := by omega
  have hn0 : (0 : Int) < (n : Int) := by omega
  have c0 := r.2 0 h0
  have hbl := r.1
  have R := Lib.hid r
  clear r
  go_enter Try.func174, Try.ntmps174
  go_wp2_with fail
  go_region
  all_goals
    go_wp2_with fail
    go_loopw [4, 5, 6] (fun lv hv kv wr => ∃ k : Nat, k ≤ n ∧ kv = .int .i64 k ∧ lv = .int .i64 (mnN f k) ∧ hv = .int .i64 (mxN f k) ∧ Below w.heap.size w wr) (fun _ _ kv _ => n - (intOf kv).toNat)
    case atStart => exact ⟨0, Nat.zero_le _, rfl, rfl, rfl, by (repeat' (first | exact Below.refl _ _ | refine Below.setCell ?_ (by simp <;> omega) _ | refine balloc ?_ _ | refine Below.drew ?_ | refine bdrewN ?_ _))⟩
    case round =>
      clear c0
      obtain ⟨k, hk, rfl, rfl, rfl, BB⟩ := hrel
      have B0 := Lib.hid BB
      clear BB
      by_cases hlt : k < n
      · have hk1 : (k : Int) < (n : Int) := by omega
        have hk0 : 0 ≤ (k : Int) := by omega
        have q1 := rwi_below R.out B0.out
        have c1 := q1.2 k hlt
        have s1 := q1.1
        have NL := Lib.hid (show mnN f (k + 1) = Sp.mn (mnN f k) (f k) from rfl)
        have NH := Lib.hid (show mxN f (k + 1) = Sp.mx (mxN f k) (f k) from rfl)
        clear q1
        generalize mnN f k = lo at *
        generalize mxN f k = hi at *
        generalize f k = y at *
        go_wp2_with fail
        go_region
        all_goals
          go_wp2_with fail
          go_roundw
          case rel => exact ⟨k + 1, by omega, by go_num, by rw [NL.out], by rw [NH.out], by have hB := B0.out; (repeat' (first | exact Below.refl _ _ | refine bstep ?_ hB | refine Below.setCell ?_ (by simp <;> omega) _ | refine balloc ?_ _ | refine Below.drew ?_ | refine bdrewN ?_ _))⟩
          case measure => simp [intOf]; omega
      · obtain rfl : k = n := by omega
        go_wp2
        go_ret2
        exact ⟨rfl, B0.out⟩

end Go.Proofs.Ytjigcgpcglfjfaa
