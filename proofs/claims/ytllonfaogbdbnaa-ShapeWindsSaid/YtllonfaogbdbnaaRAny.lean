/-
  What the document's Validate, both Panels and both Box answer for every mesh.
-/
import Derived.Test.YtllonfaogbdbnaaRVal
import Derived.Test.YtllonfaogbdbnaaPanels2
import Derived.Test.YtllonfaogbdbnaaBoxes
import Derived.Test.YtllonfaogbdbnaaKnown2
namespace Go.Proofs.Ytllonfaogbdbnaa
open Go.ChangeShapes Go.WideShapes Go.RowKit
open Sh
set_option maxRecDepth 100000 in
set_option maxHeartbeats 1000000 in
theorem rval_zero (a : Option Addr) (c b' off' nf c' : Nat) (F : Nat → P3) (w : World) (rf : Row3 w b' off' nf F) (h3 : 0 < nf) (h4 : nf ≤ 96) :
    Calls Try.prog 81 #[msv a 0 c (some ⟨b', off', none⟩) nf c'] w fun e w' => e = .returned (.int .i64 5) ∧ Below w.heap.size w w' := by
  obtain ⟨w1, hmk, hB, hg⟩ := bools_make (w.alloc (msc a 0 c (some ⟨b', off', none⟩) nf c' 25)) 0 (by omega)
  have B1 := Lib.hid (((Below.refl w.heap.size w).alloc (Nat.le_refl _) (msc a 0 c (some ⟨b', off', none⟩) nf c' 25)).grown hg (by simp) (fun k hk => by cases hk))
  have ME := (mes_in (mes_new w a 0 c (some ⟨b', off', none⟩) nf c' 25) (((Below.refl (w.heap.size + 1) _).grown hg (by simp) (fun k hk => by cases hk)) : Below (w.heap.size + 1) _ w1) (by omega))
  obtain ⟨c1, c2, c3⟩ := (row3_in rf B1.out rf.1).2 0 h3
  have r5 := (row3_in rf B1.out rf.1).1
  simp only [Nat.zero_mul, Nat.add_zero] at c1 c2 c3
  simp only [World.size_alloc] at hmk
  have hmk : (Instr.makeSlice 134 (.int .i64 0) (.int .i64 0)).run Try.prog (w.alloc (msc a 0 c (some ⟨b', off', none⟩) nf c' 25)) = .ok (.slice (some ⟨w.heap.size + 1, 0, none⟩) 0 0) w1 := hmk
  obtain ⟨m1, m2, m3⟩ := ME
  have p0 : (0 : Int) < (nf : Int) := by omega
  have mm : (nf : Int) ≤ 96 := by omega
  have WI := Lib.hid (fun W => ((show decide ((1 : Int) ≤ (nf : Int) ∧ (nf : Int) ≤ 96) = true from decide_eq_true (by omega)) ▸ rwithin_any (nf : Int) 1 96 W : Calls Try.prog 102 #[.int .i64 (nf : Int), .int .i64 1, .int .i64 96] W fun e w' => e = .returned (.bool true) ∧ W = w'))
  generalize F 0 = p at *
  clear rf hB hg h3 h4
  rcases Int.lt_or_le p.1 0 with g | g
  · have g' := g
    go_enter Try.func81, Try.ntmps81
    go_wp2_with fail
    refine (WI.out _).mono ?_
    rintro e w' ⟨rfl, rfl⟩
    go_wp2
    refine wp_loop_rounds 1 ?_
    rw [rounds_succ]
    go_wp2
    clear hmk
    refine wp_loop_rounds 1 ?_
    rw [rounds_succ]
    go_wp2
    refine wp_loop_rounds 1 ?_
    rw [rounds_succ]
    go_wp2
    go_ret
    exact ⟨rfl, B1.out⟩
  · have g' : decide (p.1 < 0) = false := decide_eq_false (by omega)
    go_enter Try.func81, Try.ntmps81
    go_wp2_with fail
    refine (WI.out _).mono ?_
    rintro e w' ⟨rfl, rfl⟩
    go_wp2
    refine wp_loop_rounds 1 ?_
    rw [rounds_succ]
    go_wp2
    clear hmk
    refine wp_loop_rounds 1 ?_
    rw [rounds_succ]
    go_wp2
    refine wp_loop_rounds 1 ?_
    rw [rounds_succ]
    go_wp2
    go_ret
    exact ⟨rfl, B1.out⟩
theorem rval_any (a : Option Addr) (np c : Nat) (a' : Option Addr) (nf c' : Nat) (P F : Nat → P3) (w : World) (rp : Lst w a np P) (rf : Lst w a' nf F) (hn : np ≤ 1000000) (hm : nf ≤ 1000000) :
    Calls Try.prog 81 #[msv a np c a' nf c'] w fun e w' => e = .returned (.int .i64 (vcode ⟨np, nf, P, F⟩)) ∧ Below w.heap.size w w' := by
  by_cases g : 64 < np ∨ nf = 0 ∨ 96 < nf
  · have e : vcode ⟨np, nf, P, F⟩ = 4 := by unfold vcode; exact if_pos g
    rw [e]
    by_cases h : 64 < np
    · exact rval_big1 a np c a' nf c' w h hn
    · exact rval_big2 a np c a' nf c' w (by omega) (by omega) hm
  · obtain ⟨b', off', rfl, rF⟩ := rf (by omega)
    by_cases h : np = 0
    · subst h
      have nf0 : 0 < nf := by omega
      have no : ¬ Fok 0 (F 0) := fun x => by unfold Fok at x; omega
      have e : vcode ⟨0, nf, P, F⟩ = 5 := (vc_face (P := P) (F := F) g rfl nf0 (fun i hi => absurd hi (Nat.not_lt_zero i)) (by rw [fcode_no no]; decide)).trans (fcode_no no)
      rw [e]
      exact rval_zero a c b' off' nf c' F w rF nf0 (by omega)
    · obtain ⟨b, off, rfl, rP⟩ := rp (by omega)
      exact rval_row b off np c b' off' nf c' P F w rP rF (by omega) (by omega) (by omega) (by omega)
theorem vcode_rows {np nf : Nat} {P F : Nat → P3} (z : vcode ⟨np, nf, P, F⟩ = 0) : 0 < np ∧ np ≤ 64 ∧ 0 < nf ∧ nf ≤ 96 ∧ (∀ k, k < nf → Fok np (F k)) ∧ TrB P F nf := by
  obtain ⟨h1, h2, h3, h4, h5⟩ := vcode_ok z
  have fo : ∀ k, k < nf → Fok np (F k) := fun k hk => fcode_ok (h5 k hk)
  have hnp : 0 < np := by have := fo 0 h2; unfold Fok at this; omega
  exact ⟨hnp, h1, h2, h3, fo, trB_of (fun i hi => inP_iff.1 (pts_in h4 i hi)) fo⟩
end Go.Proofs.Ytllonfaogbdbnaa
