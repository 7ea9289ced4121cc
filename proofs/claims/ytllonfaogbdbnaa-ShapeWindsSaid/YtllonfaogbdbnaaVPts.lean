/-
  The contract of validPoints.
-/
import Derived.Test.YtllonfaogbdbnaaVec3
import Derived.Test.YtllonfaogbdbnaaMaps
import Derived.Deep.DeepFit
namespace Go.Proofs.Ytllonfaogbdbnaa
open Go.ChangeShapes Go.WideShapes Go.RowKit
open Sh
/-- n points in memory, from off on -/
def Row3 (w : World) (b off n : Nat) (f : Nat → P3) : Prop :=
  b < w.heap.size ∧ ∀ k, k < n → w.cell? ⟨b, off + k * 3, none⟩ = some (.int .i64 (f k).1) ∧ w.cell? ⟨b, off + k * 3 + 1, none⟩ = some (.int .i64 (f k).2.1) ∧ w.cell? ⟨b, off + k * 3 + 2, none⟩ = some (.int .i64 (f k).2.2)
theorem row3_below {w w1 : World} {b off n : Nat} {f : Nat → P3} (r : Row3 w b off n f) (hb : Below w.heap.size w w1) : Row3 w1 b off n f :=
  ⟨Nat.lt_of_lt_of_le r.1 hb.size, fun k hk => ⟨(hb.cell (p := ⟨b, off + k * 3, none⟩) r.1).trans (r.2 k hk).1, (hb.cell (p := ⟨b, off + k * 3 + 1, none⟩) r.1).trans (r.2 k hk).2.1, (hb.cell (p := ⟨b, off + k * 3 + 2, none⟩) r.1).trans (r.2 k hk).2.2⟩⟩
theorem row3_in {w wr : World} {B b off n : Nat} {f : Nat → P3} (r : Row3 w b off n f) (hb : Below B w wr) (h : b < B) : Row3 wr b off n f :=
  ⟨Nat.lt_of_lt_of_le r.1 hb.size, fun k hk => ⟨(hb.cell (p := ⟨b, off + k * 3, none⟩) h).trans (r.2 k hk).1, (hb.cell (p := ⟨b, off + k * 3 + 1, none⟩) h).trans (r.2 k hk).2.1, (hb.cell (p := ⟨b, off + k * 3 + 2, none⟩) h).trans (r.2 k hk).2.2⟩⟩
/-- is the point one of the first k? -/
def anyP (f : Nat → P3) (k : Nat) (p : P3) : Bool := (List.range k).any fun i => decide (f i = p)
theorem anyP_succ (f : Nat → P3) (k : Nat) (p : P3) : anyP f (k + 1) p = if p = f k then true else anyP f k p := by
  unfold anyP
  rw [List.range_succ, List.any_append]
  by_cases h : p = f k
  · simp [h]
  · rw [if_neg h]; simp [Ne.symm h]
theorem ptB_of (f : Nat → P3) (k : Nat) : ptB f k = (inP 64 (f k) && !anyP f k (f k)) := by
  unfold ptB anyP
  congr 1
  rw [Bool.eq_iff_iff]
  simp
theorem ptsB_bad {f : Nat → P3} {n k : Nat} (h : k < n) (b : ptB f k = false) : ptsB f n = false := by
  unfold ptsB
  rw [List.all_eq_false]
  exact ⟨k, List.mem_range.2 h, by simp [b]⟩
theorem ptsB_good {f : Nat → P3} {n : Nat} (h : ∀ k, k < n → ptB f k = true) : ptsB f n = true := by
  unfold ptsB
  rw [List.all_eq_true]
  exact fun k hk => h k (List.mem_range.1 hk)
theorem bdp_wf {p : P3} (h : inP 64 p = true) : ∃ kl, keyOf Try.prog 27 (ptv p) = some kl := by
  obtain ⟨h1, h2, h3, h4, h5, h6⟩ := inP_iff.1 h
  exact keyPt (WalkArith.wf_i64 (by omega)) (WalkArith.wf_i64 (by omega)) (WalkArith.wf_i64 (by omega))
abbrev PtsM (g : P3 → Bool) (w : World) (b n : Nat) : Prop := MapOf 27 4 ptv (.bool false) (fun p => .bool (g p)) w b n
theorem pts_store {g : P3 → Bool} {w : World} {b n : Nat} (h : PtsM g w b n) (hn : n < maxLen) {p : P3} (hp : inP 64 p = true) :
    ∃ w', (Instr.mapUpdate 125 (.map (some b)) (ptv p) (.bool true)).run Try.prog w = .ok () w' ∧ PtsM (fun q => if q = p then true else g q) w' b (n + 1) ∧ w.grownBy w' (some b) := by
  obtain ⟨kl, hkey⟩ := bdp_wf hp
  obtain ⟨w', h1, h2, h3⟩ := store_of (fun _ _ => ptv_inj) lawPt Try.underlying125 h hn hkey (plainElem_bool Try.underlying4 true)
  exact ⟨w', h1, mapOf_eq h2 (fun q => by by_cases c : q = p <;> simp [c]), h3⟩
theorem pts_look {g : P3 → Bool} {w : World} {b n : Nat} (h : PtsM g w b n) {p : P3} (hp : inP 64 p = true) :
    (Instr.lookup 125 (.map (some b)) (ptv p) false).run Try.prog w = .ok (.bool (g p)) w := by
  obtain ⟨kl, hkey⟩ := bdp_wf hp
  exact look_bool lawPt Try.underlying125 h hkey
theorem vpts_zero (a : Option Addr) (cap : Nat) (w : World) :
    Calls Try.prog 71 #[.slice a 0 cap] w fun e w' => e = .returned (.bool true) ∧ Below w.heap.size w w' := by
  have hmm := @run_makeMap Try.prog
  go_enter Try.func71, Try.ntmps71
  go_wp2
  refine wp_loop_rounds 1 ?_
  rw [rounds_succ]
  go_wp2
  go_ret
  exact ⟨rfl, by (repeat' (first | exact Below.refl _ _ | refine Below.setCell ?_ (by simp <;> omega) _ | refine balloc ?_ _ | refine Below.drew ?_ | refine bdrewN ?_ _))⟩
set_option maxHeartbeats 1000000 in
theorem vpts_row (b off n cap : Nat) (f : Nat → P3) (w : World) (r : Row3 w b off n f) (hn : n ≤ 1000000) :
    Calls Try.prog 71 #[.slice (some ⟨b, off, none⟩) n cap] w fun e w' => e = .returned (.bool (ptsB f n)) ∧ Below w.heap.size w w' := by
  have hb1 : b < w.heap.size := r.1
  have R := Lib.hid r
  have hn' : (n : Int) ≤ 1000000 := by omega
  have hmm := @run_makeMap Try.prog
  obtain ⟨res, hres⟩ : ∃ res, ptsB f n = res := ⟨_, rfl⟩
  have RES := Lib.hid hres
  rw [hres]
  clear r hres
  go_enter Try.func71, Try.ntmps71
  go_wp2
  go_loopw [9] (fun kv wr => ∃ k : Nat, k ≤ n ∧ kv = .int .i64 k ∧ (∀ i, i < k → ptB f i = true) ∧ PtsM (anyP f k) wr w.heap.size k ∧ Below w.heap.size w wr) (fun kv _ => n - (intOf kv).toNat)
  case atStart => exact ⟨0, Nat.zero_le _, rfl, fun i hi => absurd hi (Nat.not_lt_zero i), mapOf_made _ _ _ _ _, by (repeat' (first | exact Below.refl _ _ | refine Below.setCell ?_ (by simp <;> omega) _ | refine balloc ?_ _ | refine Below.drew ?_ | refine bdrewN ?_ _))⟩
  case round =>
    obtain ⟨k, hk, rfl, good, hm, B⟩ := hrel
    have GOOD := Lib.hid good
    clear good
    by_cases hlt : k < n
    · have r2 := row3_in R.out B hb1
      obtain ⟨c1, c2, c3⟩ := r2.2 k hlt
      have r5 := r2.1
      clear r2
      have HM := Lib.hid hm
      have HB := Lib.hid B
      have S1 := Lib.hid (anyP_succ f k)
      have PB := Lib.hid (ptB_of f k)
      have PBAD := Lib.hid (fun h : ptB f k = false => ptsB_bad hlt h)
      clear hm B
      have hk1 : (k : Int) < (n : Int) := by omega
      obtain ⟨p, hp⟩ : ∃ p, f k = p := ⟨_, rfl⟩
      rw [hp] at c1 c2 c3 S1 PB
      have HP := Lib.hid hp
      clear hp
      cases hin : inP 64 p with
      | false =>
        have W := Lib.hid (fun W => (hin ▸ within_any p 64 W (by decide) (by decide) : Calls Try.prog 32 #[ptv p, .int .i64 64] W fun e w' => e = .returned (.bool false) ∧ Below W.heap.size W w'))
        have hf : res = false := by rw [← RES.out]; exact PBAD.out (by rw [PB.out, hin]; rfl)
        subst hf
        clear hin
        go_wp2_with fail
        with_reducible refine (W.out _).mono ?_
        rintro e w2 ⟨rfl, hb2⟩
        go_wp2
        go_ret
        exact ⟨rfl, by have hB := HB.out; (repeat' (first | exact Below.refl _ _ | refine bstep ?_ hb2 | refine bstep ?_ hB | refine Below.setCell ?_ (by simp <;> omega) _ | refine balloc ?_ _ | refine Below.drew ?_ | refine bdrewN ?_ _))⟩
      | true =>
        have W := Lib.hid (fun W => (hin ▸ within_any p 64 W (by decide) (by decide) : Calls Try.prog 32 #[ptv p, .int .i64 64] W fun e w' => e = .returned (.bool true) ∧ Below W.heap.size W w'))
        cases hg : anyP f k p with
        | true =>
          have hf : res = false := by rw [← RES.out]; exact PBAD.out (by rw [PB.out, hin, hg]; rfl)
          subst hf
          have HIN := Lib.hid hin
          have HG := Lib.hid hg
          clear hin hg
          go_wp2_with fail
          with_reducible refine (W.out _).mono ?_
          rintro e w2 ⟨rfl, hb2⟩
          have lk := pts_look (mapOf_below (mapOf_alloc HM.out _) hb2) HIN.out
          rw [HG.out] at lk
          obtain ⟨o1, o2, o3, o4, o5, o6, o7⟩ := own_below (own_new wr p _) hb2
          go_wp2
          go_ret
          exact ⟨rfl, by have hB := HB.out; (repeat' (first | exact Below.refl _ _ | refine bstep ?_ hb2 | refine bstep ?_ hB | refine Below.setCell ?_ (by simp <;> omega) _ | refine balloc ?_ _ | refine Below.drew ?_ | refine bdrewN ?_ _))⟩
        | false =>
          have HIN := Lib.hid hin
          have HG := Lib.hid hg
          clear hin hg
          go_wp2_with fail
          with_reducible refine (W.out _).mono ?_
          rintro e w2 ⟨rfl, hb2⟩
          have hm2 := mapOf_below (mapOf_alloc HM.out (.cells #[.int .i64 p.1, .int .i64 p.2.1, .int .i64 p.2.2] 27)) hb2
          have lk := pts_look hm2 HIN.out
          rw [HG.out] at lk
          obtain ⟨w3, st, hm3, gr⟩ := pts_store hm2 (by unfold maxLen; omega) HIN.out
          have HM3 := Lib.hid hm3
          have GR := Lib.hid gr
          clear hm2 hm3 gr
          obtain ⟨o1, o2, o3, o4, o5, o6, o7⟩ := own_below (own_new wr p _) hb2
          go_wp2
          go_roundw
          case rel => exact ⟨k + 1, by omega, by go_num, fun i hi => by
              by_cases c : i = k
              · subst c; rw [PB.out, HIN.out, HG.out]; rfl
              · exact GOOD.out i (by omega), mapOf_eq HM3.out (fun q => by rw [S1.out]), by
              have hB := HB.out
              have b2 : Below w.heap.size w w2 := by (repeat' (first | exact Below.refl _ _ | refine bstep ?_ hb2 | refine bstep ?_ hB | refine Below.setCell ?_ (by simp <;> omega) _ | refine balloc ?_ _ | refine Below.drew ?_ | refine bdrewN ?_ _))
              exact b2.grown GR.out b2.size (fun j hj => by cases hj; exact Nat.le_refl _)⟩
          case measure => simp [intOf]; omega
    · obtain rfl : k = n := by omega
      have hf : res = true := by rw [← RES.out]; exact ptsB_good GOOD.out
      subst hf
      go_wp2
      go_ret
      exact ⟨rfl, B⟩

end Go.Proofs.Ytllonfaogbdbnaa
