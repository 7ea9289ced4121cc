/-
  The contracts of sides, back and countSides.
-/
import Derived.Test.YtllonfaogbdbnaaVPts
import Derived.RegionTactic
import Derived.ChangeAlike
import Derived.BigRegion
import Derived.IntWalk
namespace Go.Proofs.Ytllonfaogbdbnaa
open Go.ChangeShapes Go.WideShapes Go.RowKit
open Sh
/-- the sides of a face as a value -/
abbrev sds (f : P3) : Value := .agg #[.int .i64 f.1, .int .i64 f.2.1, .int .i64 f.2.1, .int .i64 f.2.2, .int .i64 f.2.2, .int .i64 f.1]
theorem sides_any (f : P3) (w : World) :
    Calls Try.prog 100 #[ptv f] w fun e w' => e = .returned (sds f) ∧ Below w.heap.size w w' := by
  go_enter Try.func100, Try.ntmps100
  go_wp2
  refine bodyPost_ret (v := sds f) (by rw [results_cell rfl]; go_simp) rfl ⟨rfl, ?_⟩
  (repeat' (first | exact Below.refl _ _ | refine Below.setCell ?_ (by simp <;> omega) _ | refine balloc ?_ _ | refine Below.drew ?_ | refine bdrewN ?_ _))
theorem back_any (s : Int × Int) (w : World) :
    Calls Try.prog 101 #[sdv s] w fun e w' => e = .returned (sdv (s.2, s.1)) ∧ Below w.heap.size w w' := by
  go_enter Try.func101, Try.ntmps101
  go_wp2
  refine bodyPost_ret (v := sdv (s.2, s.1)) (by rw [results_cell rfl]; go_simp) rfl ⟨rfl, ?_⟩
  (repeat' (first | exact Below.refl _ _ | refine Below.setCell ?_ (by simp <;> omega) _ | refine balloc ?_ _ | refine Below.drew ?_ | refine bdrewN ?_ _))
abbrev SdM (g : Int × Int → Int) (w : World) (b n : Nat) : Prop := MapOf 130 3 sdv (.int .i64 0) (fun p => .int .i64 (g p)) w b n
/-- one more at t -/
def bump (g : Int × Int → Int) (t : Int × Int) (s : Int × Int) : Int := if s = t then g t + 1 else g s
def cntS (f : Nat → P3) (k : Nat) (s : Int × Int) : Int := (cnt f k s.1 s.2 : Nat)
theorem cnt1_bd (f : P3) (p q : Int) : cnt1 f p q ≤ 3 := by unfold cnt1; split <;> split <;> split <;> omega
theorem cnt_bd (f : Nat → P3) (k : Nat) (p q : Int) : cnt f k p q ≤ 3 * k := by
  induction k with
  | zero => simp [cnt]
  | succ k ih => have := cnt1_bd (f k) p q; show cnt f k p q + cnt1 (f k) p q ≤ _; omega
theorem bump_bd {g : Int × Int → Int} {N : Int} (h : ∀ s, 0 ≤ g s ∧ g s ≤ N) (t : Int × Int) : ∀ s, 0 ≤ bump g t s ∧ bump g t s ≤ N + 1 := by
  intro s
  unfold bump
  have := h s
  have := h t
  split <;> omega
theorem bump_is (g : Int × Int → Int) (t s : Int × Int) : bump g t s = g s + if t.1 = s.1 ∧ t.2 = s.2 then 1 else 0 := by
  unfold bump
  by_cases c : s = t
  · subst c; rw [if_pos rfl, if_pos ⟨rfl, rfl⟩]
  · rw [if_neg c, if_neg (fun h => c (Prod.ext h.1.symm h.2.symm))]; omega
theorem cntS_succ (f : Nat → P3) (k : Nat) (s : Int × Int) : bump (bump (bump (cntS f k) ((f k).1, (f k).2.1)) ((f k).2.1, (f k).2.2)) ((f k).2.2, (f k).1) s = cntS f (k + 1) s := by
  rw [bump_is, bump_is, bump_is]
  show _ = ((cnt f k s.1 s.2 + cnt1 (f k) s.1 s.2 : Nat) : Int)
  unfold cnt1 cntS
  split <;> split <;> split <;> simp_all <;> omega
theorem cntS_bd (f : Nat → P3) (k : Nat) : ∀ s, 0 ≤ cntS f k s ∧ cntS f k s ≤ 3 * (k : Int) := by
  intro s
  have := cnt_bd f k s.1 s.2
  unfold cntS
  omega
/-- a number that a face may bear -/
def Nr (x : Int) : Prop := 0 ≤ x ∧ x ≤ 1000000
theorem nr_wf {x : Int} (h : Nr x) : (Lit.int .i64 x).wf = true := WalkArith.wf_i64 (by unfold Nr at h; omega)
theorem sd_step {g : Int × Int → Int} {w : World} {b n : Nat} (h : SdM g w b n) (hn : n < maxLen) {t : Int × Int} (h1 : Nr t.1) (h2 : Nr t.2) (hb : ∀ s, 0 ≤ g s ∧ g s ≤ 1000000000) :
    (Instr.lookup 127 (.map (some b)) (sdv t) false).run Try.prog w = .ok (.int .i64 (g t)) w ∧
    ∃ (v0 : Value) (st : Nat) (w1 w2 : World), (Instr.mapEntry 127 (.map (some b)) (sdv t)).run Try.prog w = .ok (.tuple #[v0, .int .i64 (st : Int)]) w1 ∧
      (Instr.lookup 127 (.map (some b)) (sdv t) false).run Try.prog w1 = .ok (.int .i64 (g t)) w1 ∧ (Instr.entryStore 127 (.map (some b)) (.int .i64 (st : Int)) (.int .i64 (g t + 1))).run Try.prog w1 = .ok () w2 ∧ SdM (bump g t) w2 b (n + 1) ∧ w.grownBy w1 (some b) ∧ w.grownBy w2 (some b) := by
  obtain ⟨kl, hkey⟩ := keySd (s := t) (nr_wf h1) (nr_wf h2)
  refine ⟨look_int lawSd Try.underlying127 h hkey, ?_⟩
  obtain ⟨v0, st, w1, e1, e2, e3⟩ := entry_of (fun _ _ => sdv_inj) lawSd Try.underlying127 zeroI h hn hkey
  have := hb t
  obtain ⟨w2, e4, e5, e6⟩ := e3 (.int .i64 (g t + 1)) _ _ (plainElem_int Try.underlying3 (WalkArith.wf_i64 (by omega)))
  exact ⟨v0, st, w1, w2, e1, entry_look lawSd Try.underlying127 h hkey e1, e4, mapOf_eq e5 (fun q => by unfold bump; by_cases c : q = t <;> simp [c]), e2, e6⟩
theorem sd_drew {g : Int × Int → Int} {w : World} {b n : Nat} (h : SdM g w b n) : SdM g w.drew b n := h

end Go.Proofs.Ytllonfaogbdbnaa
