/-
  The contract of sourceOf.
-/
import Derived.Test.YtjigcgpcglfjfaaFg45
namespace Go.Proofs.Ytjigcgpcglfjfaa
open Go.ChangeShapes Go.WideShapes Go.RowKit
open Sh
theorem rowgs_set {w : World} {q n b i : Nat} {gs : List (Nat × P9)} {v : Value} (r : RowGs w q n gs) (n1 : ¬ b = q) (n2 : ∀ k, k < n → ¬ (gA gs k).1 = b) : RowGs (w.setCell ⟨b, i, none⟩ v) q n gs := by
  refine ⟨by simpa using r.1, fun k hk => ?_⟩
  obtain ⟨⟨h0, h1, h2, h3, h4, h5, h6⟩, hp⟩ := r.2 k hk
  exact ⟨⟨by go_simp, by go_simp, by go_simp, by go_simp, by go_simp, by go_simp, by go_simp⟩, ptb_set hp (n2 k hk)⟩
/-- an empty source: a block of the call's own -/
def OwS (w : World) (b : Nat) : Prop := w.cell? ⟨b, 0, none⟩ = some (.slice none 0 0) ∧ w.cell? ⟨b, 1, none⟩ = some (.int .i64 0) ∧ w.cell? ⟨b, 2, none⟩ = some (.int .i64 0) ∧ w.frozen? ⟨b, 0, none⟩ = false ∧ w.frozen? ⟨b, 1, none⟩ = false ∧ w.frozen? ⟨b, 2, none⟩ = false ∧ b < w.heap.size
theorem ows_new (w : World) (t : TypeId) : OwS (w.alloc (.cells #[.slice none 0 0, .int .i64 0, .int .i64 0] t)) w.heap.size := ⟨by go_simp, by go_simp, by go_simp, by go_simp, by go_simp, by go_simp, by simp⟩
theorem ows_below {w w1 : World} {b : Nat} (h : OwS w b) (hb : Below w.heap.size w w1) : OwS w1 b := by
  obtain ⟨h1, h2, h3, f1, f2, f3, h5⟩ := h
  exact ⟨(hb.cell (p := ⟨b, 0, none⟩) h5).trans h1, (hb.cell (p := ⟨b, 1, none⟩) h5).trans h2, (hb.cell (p := ⟨b, 2, none⟩) h5).trans h3, (hb.frozen (p := ⟨b, 0, none⟩) h5).trans f1, (hb.frozen (p := ⟨b, 1, none⟩) h5).trans f2, (hb.frozen (p := ⟨b, 2, none⟩) h5).trans f3, Nat.lt_of_lt_of_le h5 hb.size⟩
theorem rowgs_ne {w : World} {q n b : Nat} {gs : List (Nat × P9)} (r : RowGs w q n gs) (h : OwS w b) (n0 : 0 < n) : ¬ b = q ∧ ∀ k, k < n → ¬ (gA gs k).1 = b := by
  refine ⟨fun e => ?_, fun k hk e => ?_⟩
  · subst e
    have z := (r.2 0 n0).1.1
    rw [Nat.zero_mul] at z
    rw [h.1] at z
    cases z
  · subst e
    have z := (r.2 k hk).2
    have c : w.cell? ⟨(gA gs k).1, 0, none⟩ = some (.int .i64 (gA gs k).2.1.1) := by
      unfold PtB at z
      simp [World.cell?, z]
    rw [h.1] at c
    cases c
set_option maxRecDepth 100000 in
set_option maxHeartbeats 4000000 in
theorem src_any (t : P9) (D : Int) (w : World) (h : pcode t.1 t.2.1 t.2.2 = 0) (hB : BdT 64 t) (d0 : 0 ≤ D) (d3 : D ≤ 3) :
    Calls Try.prog 68 #[p9v t, .int .i64 D] w fun e w' => ∃ q cp gs, e = .returned (.tuple #[.agg #[.slice (some ⟨q, 0, none⟩) gs.length cp, .int .i64 (scl D), .int .i64 ((rimN (rS t) (scl D) : Nat) : Int)], .int .i64 0]) ∧ gs.map Prod.snd = cutP D.toNat t ∧ RowGs w' q gs.length gs ∧ Below w.heap.size w w' := by
  have RI := Lib.hid (fun W => frim_any t D W h d0 d3)
  have PG := Lib.hid (fun W => (callsIn_wide (n := 6)).1 (pgroups_in 6 (by decide) t.1 t.2.1 t.2.2 D W hB d0 d3))
  have SW := Lib.hid (scl_vals d0 d3).1
  have pn := (ptn_vals d0 d3).1
  have s8 := (scl_vals d0 d3).2.2
  have s1 := (scl_vals d0 d3).2.1
  clear h hB
  obtain ⟨a, b, c⟩ := t
  generalize ((rimN (rS (a, b, c)) (scl D) : Nat) : Int) = rm at *
  generalize scl D = sc at *
  have P0 := Lib.hid (pan_alloc (pan_new w a b c 25) (.cells #[.slice none 0 0, .int .i64 0, .int .i64 0] 96))
  have R0 := Lib.hid (ows_new (w.alloc (pnc a b c 25)) 96)
  have B0 := Lib.hid (show Below w.heap.size w ((w.alloc (pnc a b c 25)).alloc (.cells #[.slice none 0 0, .int .i64 0, .int .i64 0] 96)) by (repeat' (first | exact Below.refl _ _ | refine Below.setCell ?_ (by simp <;> omega) _ | refine balloc ?_ _ | refine Below.drew ?_ | refine bdrewN ?_ _)))
  simp only [World.size_alloc] at R0
  go_enter Try.func68, Try.ntmps68
  go_wp2_with fail
  refine (RI.out _).mono ?_
  rintro e w1 ⟨rfl, hb1⟩
  have P1 := Lib.hid (pan_below P0.out hb1)
  have R1 := Lib.hid (ows_below R0.out hb1)
  have B1 := Lib.hid (bstep B0.out hb1)
  clear P0 R0 B0 hb1
  obtain ⟨k0, k1, k2, k3, k4, k5, k6, k7, k8, k9⟩ := id P1.out
  have sh := SW.out
  have P1d : OwS w1.drew (w.heap.size + 1) := R1.out
  have B1d : Below w.heap.size w w1.drew := Below.drew B1.out
  go_wp2_with fail
  go_region_with (go_at_call 106; (with_reducible refine (PG.out _).mono ?_); rintro e v0 ⟨v, gs, rfl, hgs, hrow, hpt, hv0⟩; have hl := gs_len hgs; obtain ⟨q, cp, rfl, hr⟩ := rowgs_of hrow (by omega) hpt; have R2 := ows_below P1d hv0; have b2 := bstep B1d hv0; have ne := rowgs_ne hr R2 (by omega); obtain ⟨o0, o1, o2, f0, f1, f2, o9⟩ := R2)
  all_goals
    go_wp2
    refine bodyPost_ret (v := .tuple #[.agg #[.slice (some ⟨q, 0, none⟩) gs.length cp, .int .i64 sc, .int .i64 rm], .int .i64 0]) (by rw [results_cell_tmp rfl]; go_simp; first | done | (rw [IntWalk.i64_left]; exact sh)) rfl ⟨q, cp, gs, rfl, hgs, ?_, ?_⟩
    · exact rowgs_set (rowgs_set (rowgs_set hr ne.1 ne.2) ne.1 ne.2) ne.1 ne.2
    · (repeat' (first | with_reducible exact b2 | (with_reducible refine Below.setCell ?_ (by simp <;> omega) _)))

end Go.Proofs.Ytjigcgpcglfjfaa
