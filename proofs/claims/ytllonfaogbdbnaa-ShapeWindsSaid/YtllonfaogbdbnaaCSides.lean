/-
  The contract of countSides.
-/
import Derived.Test.YtllonfaogbdbnaaSides
namespace Go.Proofs.Ytllonfaogbdbnaa
open Go.ChangeShapes Go.WideShapes Go.RowKit
open Sh
def Counted (f : Nat → P3) (n : Nat) (w : World) (e : Ending) (w' : World) : Prop :=
  e = .returned (.map (some w.heap.size)) ∧ SdM (cntS f n) w' w.heap.size (3 * n) ∧ Below w.heap.size w w'
/-- the numbers of a face -/
def Fnr (p : P3) : Prop := Nr p.1 ∧ Nr p.2.1 ∧ Nr p.2.2
set_option maxRecDepth 100000 in
set_option maxHeartbeats 4000000 in
theorem count_row (b off n cap : Nat) (f : Nat → P3) (w : World) (r : Row3 w b off n f) (hn : n ≤ 1000) (nr : ∀ k, k < n → Fnr (f k)) :
    Calls Try.prog 99 #[.slice (some ⟨b, off, none⟩) n cap] w (Counted f n w) := by
  have hb1 : b < w.heap.size := r.1
  have R := Lib.hid r
  have NR := Lib.hid nr
  have hn' : (n : Int) ≤ 1000 := by omega
  have hmm := @run_makeMap Try.prog
  clear r nr
  go_enter Try.func99, Try.ntmps99
  go_wp2
  go_loopw [11] (fun kv wr => ∃ k : Nat, k ≤ n ∧ kv = .int .i64 k ∧ SdM (cntS f k) wr w.heap.size (3 * k) ∧ Below w.heap.size w wr) (fun kv _ => n - (intOf kv).toNat)
  case atStart => exact ⟨0, Nat.zero_le _, rfl, mapOf_eq (mapOf_made _ _ _ _ _) (fun q => rfl), by (repeat' (first | exact Below.refl _ _ | refine Below.setCell ?_ (by simp <;> omega) _ | refine balloc ?_ _ | refine Below.drew ?_ | refine bdrewN ?_ _))⟩
  case round =>
    obtain ⟨k, hk, rfl, hm, B⟩ := hrel
    by_cases hlt : k < n
    · have r2 := row3_in R.out B hb1
      obtain ⟨c1, c2, c3⟩ := r2.2 k hlt
      have r5 := r2.1
      clear r2
      have HM := Lib.hid hm
      have HB := Lib.hid B
      have S1 := Lib.hid (cntS_succ f k)
      have H0 := Lib.hid (cntS_bd f k)
      have HN := Lib.hid (show 3 * (k : Int) + 3 ≤ 1000000000 by omega)
      have FN := Lib.hid (NR.out k hlt)
      clear hm B
      have hk1 : (k : Int) < (n : Int) := by omega
      obtain ⟨g0, hg0⟩ : ∃ g, cntS f k = g := ⟨_, rfl⟩
      rw [hg0] at HM S1 H0
      clear hg0
      obtain ⟨p, hp⟩ : ∃ p, f k = p := ⟨_, rfl⟩
      rw [hp] at c1 c2 c3 S1 FN
      clear hp
      have N0 := Lib.hid (show Nr p.1 ∧ Nr p.2.1 from ⟨FN.out.1, FN.out.2.1⟩)
      have N1 := Lib.hid (show Nr p.2.1 ∧ Nr p.2.2 from ⟨FN.out.2.1, FN.out.2.2⟩)
      have N2 := Lib.hid (show Nr p.2.2 ∧ Nr p.1 from ⟨FN.out.2.2, FN.out.1⟩)
      go_wp2_with fail
      refine (sides_any p _).mono ?_
      rintro e u0 ⟨rfl, hb0⟩
      have M0 := Lib.hid (mapOf_below (mapOf_alloc HM.out _) hb0)
      have B0 := Lib.hid (bstep (balloc HB.out _) hb0)
      clear hb0 c1 c2 c3 HM
      have i0 : ∀ w, (Instr.index 131 (.agg #[.int .i64 p.1, .int .i64 p.2.1, .int .i64 p.2.1, .int .i64 p.2.2, .int .i64 p.2.2, .int .i64 p.1]) (.int .i64 0)).run Try.prog w = .ok (.agg #[.int .i64 p.1, .int .i64 p.2.1]) w := fun _ => by kernel_rfl
      have i1 : ∀ w, (Instr.index 131 (.agg #[.int .i64 p.1, .int .i64 p.2.1, .int .i64 p.2.1, .int .i64 p.2.2, .int .i64 p.2.2, .int .i64 p.1]) (.int .i64 1)).run Try.prog w = .ok (.agg #[.int .i64 p.2.1, .int .i64 p.2.2]) w := fun _ => by kernel_rfl
      have i2 : ∀ w, (Instr.index 131 (.agg #[.int .i64 p.1, .int .i64 p.2.1, .int .i64 p.2.1, .int .i64 p.2.2, .int .i64 p.2.2, .int .i64 p.1]) (.int .i64 2)).run Try.prog w = .ok (.agg #[.int .i64 p.2.2, .int .i64 p.1]) w := fun _ => by kernel_rfl
      go_wp2
      refine wp_loop_rounds 4 ?_
      have m0 : SdM g0 (u0.alloc (.cells #[.int .i64 p.1, .int .i64 p.2.1] 130)).drew w.heap.size (3 * k + 0) := sd_drew (mapOf_alloc M0.out _)
      obtain ⟨lk0, v0_0, st0, x0, u1, en0, lx0, es0, mm0, ga0, gb0⟩ := sd_step (t := ((p.1, p.2.1) : Int × Int)) m0 (by unfold maxLen; omega) N0.out.1 N0.out.2 (fun s => by have := H0.out s; have := HN.out; omega)
      have M1 := Lib.hid mm0
      have GB0 := Lib.hid gb0
      have H1 := Lib.hid (bump_bd H0.out ((p.1, p.2.1) : Int × Int))
      have bd0 := H0.out ((p.1, p.2.1) : Int × Int)
      have B1 := Lib.hid ((Below.drew (balloc B0.out (.cells #[.int .i64 p.1, .int .i64 p.2.1] 130))).grown GB0.out (Nat.le_trans B0.out.size (by simp)) (fun i hi => by cases hi; exact Nat.le_refl _))
      clear m0 mm0 ga0 gb0
      have wr0 : IntKind.i64.wrap (g0 ((p.1, p.2.1) : Int × Int) + 1) = g0 ((p.1, p.2.1) : Int × Int) + 1 := IntWalk.i64_in _ (by have := HN.out; omega)
      rw [rounds_succ]
      go_wp2
      go_region
      go_wp2
      clear lk0 en0 lx0 es0 wr0
      have m1 : SdM (bump g0 ((p.1, p.2.1) : Int × Int)) (u1.alloc (.cells #[.int .i64 p.2.1, .int .i64 p.2.2] 130)).drew w.heap.size (3 * k + 1) := sd_drew (mapOf_alloc M1.out _)
      obtain ⟨lk1, v0_1, st1, x1, u2, en1, lx1, es1, mm1, ga1, gb1⟩ := sd_step (t := ((p.2.1, p.2.2) : Int × Int)) m1 (by unfold maxLen; omega) N1.out.1 N1.out.2 (fun s => by have := H1.out s; have := HN.out; omega)
      have M2 := Lib.hid mm1
      have GB1 := Lib.hid gb1
      have H2 := Lib.hid (bump_bd H1.out ((p.2.1, p.2.2) : Int × Int))
      have bd1 := H1.out ((p.2.1, p.2.2) : Int × Int)
      have B2 := Lib.hid ((Below.drew (balloc B1.out (.cells #[.int .i64 p.2.1, .int .i64 p.2.2] 130))).grown GB1.out (Nat.le_trans B1.out.size (by simp)) (fun i hi => by cases hi; exact Nat.le_refl _))
      clear m1 mm1 ga1 gb1
      have wr1 : IntKind.i64.wrap ((bump g0 ((p.1, p.2.1) : Int × Int)) ((p.2.1, p.2.2) : Int × Int) + 1) = (bump g0 ((p.1, p.2.1) : Int × Int)) ((p.2.1, p.2.2) : Int × Int) + 1 := IntWalk.i64_in _ (by have := HN.out; omega)
      rw [rounds_succ]
      go_wp2
      go_region
      go_wp2
      clear lk1 en1 lx1 es1 wr1
      have m2 : SdM (bump (bump g0 ((p.1, p.2.1) : Int × Int)) ((p.2.1, p.2.2) : Int × Int)) (u2.alloc (.cells #[.int .i64 p.2.2, .int .i64 p.1] 130)).drew w.heap.size (3 * k + 2) := sd_drew (mapOf_alloc M2.out _)
      obtain ⟨lk2, v0_2, st2, x2, u3, en2, lx2, es2, mm2, ga2, gb2⟩ := sd_step (t := ((p.2.2, p.1) : Int × Int)) m2 (by unfold maxLen; omega) N2.out.1 N2.out.2 (fun s => by have := H2.out s; have := HN.out; omega)
      have M3 := Lib.hid mm2
      have GB2 := Lib.hid gb2
      have H3 := Lib.hid (bump_bd H2.out ((p.2.2, p.1) : Int × Int))
      have bd2 := H2.out ((p.2.2, p.1) : Int × Int)
      have B3 := Lib.hid ((Below.drew (balloc B2.out (.cells #[.int .i64 p.2.2, .int .i64 p.1] 130))).grown GB2.out (Nat.le_trans B2.out.size (by simp)) (fun i hi => by cases hi; exact Nat.le_refl _))
      clear m2 mm2 ga2 gb2
      have wr2 : IntKind.i64.wrap ((bump (bump g0 ((p.1, p.2.1) : Int × Int)) ((p.2.1, p.2.2) : Int × Int)) ((p.2.2, p.1) : Int × Int) + 1) = (bump (bump g0 ((p.1, p.2.1) : Int × Int)) ((p.2.1, p.2.2) : Int × Int)) ((p.2.2, p.1) : Int × Int) + 1 := IntWalk.i64_in _ (by have := HN.out; omega)
      rw [rounds_succ]
      go_wp2
      go_region
      go_wp2
      clear lk2 en2 lx2 es2 wr2
      rw [rounds_succ]
      go_wp2
      go_roundw
      case rel => exact ⟨k + 1, by omega, by go_num, mapOf_mono (mapOf_eq M3.out (fun q => by rw [S1.out])) (by omega), B3.out⟩
      case measure => simp [intOf]; omega
    · obtain rfl : k = n := by omega
      go_wp2
      go_ret
      exact ⟨rfl, hm, B⟩

end Go.Proofs.Ytllonfaogbdbnaa
