/-
  The contract of field.Between.
-/
import Derived.Test.YtjigcgpcglfjfaaFg46
namespace Go.Proofs.Ytjigcgpcglfjfaa
open Go.ChangeShapes Go.WideShapes Go.RowKit
open Sh
def tm9 (k : Int) (u : P9) : P9 := (tim k u.1, tim k u.2.1, tim k u.2.2)
/-- the rim of a panel at a depth -/
def rmF (t : P9) (D : Int) : Int := ((rimN (rS t) (scl D) : Nat) : Int)
/-- what Between answers -/
def betF (t u : P9) (D : Int) : Sp.R := if prc t u D = 0 then (vSee t D (tm9 (scl D) u) (rmF t D), 0) else ((0, 0), prc t u D)
theorem pcode_ok9 {t : P9} (h : pcode t.1 t.2.1 t.2.2 = 0) : BdT 64 t := pcode_64 h
theorem prc_ok {t u : P9} {D : Int} (h : prc t u D = 0) : pcode t.1 t.2.1 t.2.2 = 0 ∧ pcode u.1 u.2.1 u.2.2 = 0 ∧ 0 ≤ D ∧ D ≤ 2 := by
  unfold prc at h
  by_cases h1 : pcode t.1 t.2.1 t.2.2 = 0
  · rw [if_pos h1] at h
    by_cases h2 : pcode u.1 u.2.1 u.2.2 = 0
    · rw [if_pos h2] at h
      cases r : rngB D 0 2 with
      | true =>
        have r' : 0 ≤ D ∧ D ≤ 2 := by simpa [rngB] using r
        exact ⟨h1, h2, r'⟩
      | false => rw [r] at h; simp at h
    · rw [if_neg h2] at h; exact absurd h h2
  · rw [if_neg h1] at h; exact absurd h h1
theorem tim_bd5 {x : P3} {s : Int} (hx : BdP 64 x) (s1 : 1 ≤ s) (s2 : s ≤ 8) : BdP 512 (tim s x) := by
  obtain ⟨a1, a2, a3, a4, a5, a6⟩ := hx
  have x1 := mul_bd (A := 8) (B := 64) (by omega) s2 a1 a2
  have x2 := mul_bd (A := 8) (B := 64) (by omega) s2 a3 a4
  have x3 := mul_bd (A := 8) (B := 64) (by omega) s2 a5 a6
  simp only [BdP, tim]
  omega
theorem tm9_bd {u : P9} {s : Int} (hx : BdT 64 u) (s1 : 1 ≤ s) (s2 : s ≤ 8) : BdT 512 (tm9 s u) := ⟨tim_bd5 hx.1 s1 s2, tim_bd5 hx.2.1 s1 s2, tim_bd5 hx.2.2 s1 s2⟩
theorem rmF_bd {t : P9} {D : Int} (h : pcode t.1 t.2.1 t.2.2 = 0) (d0 : 0 ≤ D) (d3 : D ≤ 3) : 0 ≤ rmF t D ∧ rmF t D ≤ 67108864 := by
  obtain ⟨_, s1, s2⟩ := scl_vals d0 d3
  obtain ⟨S1, S2, _⟩ := rS_bd h
  have := rimN_le S1 S2 s1 s2
  unfold rmF
  omega
set_option maxRecDepth 100000 in
set_option maxHeartbeats 4000000 in
theorem bet_no (t u : P9) (D pc : Int) (w : World) (C1 : Hid (∀ W, Calls Try.prog 67 #[p9v t, p9v u, .int .i64 D] W fun e w' => e = .returned (.int .i64 pc) ∧ Below W.heap.size W w')) (zz : (pc != 0) = true) : Calls Try.prog 26 #[p9v t, p9v u, .int .i64 D] w fun e w' => e = .returned (spr ((0, 0), pc)) ∧ Below w.heap.size w w' := by
  obtain ⟨a, b, c⟩ := t
  obtain ⟨x, y, z⟩ := u
  have P0 := Lib.hid (pan_alloc (pan_alloc (pan_new w a b c 25) (pnc x y z 25)) (.cells #[.int .i64 0, .int .i64 0] 35))
  have U0 := Lib.hid (pan_alloc (pan_new (w.alloc (pnc a b c 25)) x y z 25) (.cells #[.int .i64 0, .int .i64 0] 35))
  have R0 := Lib.hid (owp_new ((w.alloc (pnc a b c 25)).alloc (pnc x y z 25)) (0, 0) 35)
  simp only [World.size_alloc] at R0 U0
  have B0 := Lib.hid (show Below w.heap.size w (((w.alloc (pnc a b c 25)).alloc (pnc x y z 25)).alloc (.cells #[.int .i64 0, .int .i64 0] 35)) by (repeat' (first | exact Below.refl _ _ | refine Below.setCell ?_ (by simp <;> omega) _ | refine balloc ?_ _ | refine Below.drew ?_ | refine bdrewN ?_ _)))
  go_enter Try.func26, Try.ntmps26
  go_wp2_with fail
  with_reducible refine (C1.out _).mono ?_
  rintro e w1 ⟨rfl, hb1⟩
  obtain ⟨o0, o1, o2, o3, o4⟩ := owp_below R0.out hb1
  have hB := bstep B0.out hb1
  clear R0 B0
  go_wp2
  refine bodyPost_ret (v := spr ((0, 0), pc)) (by rw [results_cell_tmp rfl]; go_simp) rfl ⟨rfl, ?_⟩
  (repeat' (first | with_reducible exact hB | (with_reducible refine Below.setCell ?_ (by simp <;> omega) _)))
set_option maxRecDepth 100000 in
set_option maxHeartbeats 4000000 in
theorem bet_yes (t u v : P9) (D sc rm p r : Int) (lo hi : P3) (w : World) (C1 : Hid (∀ W, Calls Try.prog 67 #[p9v t, p9v u, .int .i64 D] W fun e w' => e = .returned (.int .i64 0) ∧ Below W.heap.size W w')) (C2 : Hid (∀ W, Calls Try.prog 68 #[p9v t, .int .i64 D] W fun e w' => ∃ q cp gs, e = .returned (.tuple #[.agg #[.slice (some ⟨q, 0, none⟩) gs.length cp, .int .i64 sc, .int .i64 rm], .int .i64 0]) ∧ gs.map Prod.snd = cutP D.toNat t ∧ RowGs w' q gs.length gs ∧ Below W.heap.size W w')) (C3 : Hid (∀ W, Calls Try.prog 70 #[p9v u, .int .i64 sc] W fun e w' => ∃ g, e = .returned (grv g 3 3 lo hi) ∧ PtB w' g v ∧ Below W.heap.size W w')) (C4 : Hid (∀ W (q cp g : Nat) (gs : List (Nat × P9)), gs.map Prod.snd = cutP D.toNat t → RowGs W q gs.length gs → PtB W g v → Calls Try.prog 69 #[.agg #[.slice (some ⟨q, 0, none⟩) gs.length cp, .int .i64 sc, .int .i64 rm], grv g 3 3 lo hi] W fun e w' => e = .returned (.agg #[.int .i64 p, .int .i64 r]) ∧ Below W.heap.size W w')) : Calls Try.prog 26 #[p9v t, p9v u, .int .i64 D] w fun e w' => e = .returned (spr ((p, r), 0)) ∧ Below w.heap.size w w' := by
  obtain ⟨a, b, c⟩ := t
  obtain ⟨x, y, z⟩ := u
  have P0 := Lib.hid (pan_alloc (pan_alloc (pan_new w a b c 25) (pnc x y z 25)) (.cells #[.int .i64 0, .int .i64 0] 35))
  have U0 := Lib.hid (pan_alloc (pan_new (w.alloc (pnc a b c 25)) x y z 25) (.cells #[.int .i64 0, .int .i64 0] 35))
  have R0 := Lib.hid (owp_new ((w.alloc (pnc a b c 25)).alloc (pnc x y z 25)) (0, 0) 35)
  simp only [World.size_alloc] at R0 U0
  have B0 := Lib.hid (show Below w.heap.size w (((w.alloc (pnc a b c 25)).alloc (pnc x y z 25)).alloc (.cells #[.int .i64 0, .int .i64 0] 35)) by (repeat' (first | exact Below.refl _ _ | refine Below.setCell ?_ (by simp <;> omega) _ | refine balloc ?_ _ | refine Below.drew ?_ | refine bdrewN ?_ _)))
  go_enter Try.func26, Try.ntmps26
  go_wp2_with fail
  with_reducible refine (C1.out _).mono ?_
  rintro e w1 ⟨rfl, hb1⟩
  have P1 := Lib.hid (pan_below P0.out hb1)
  have U1 := Lib.hid (pan_below U0.out hb1)
  have R1 := Lib.hid (owp_below R0.out hb1)
  have B1 := Lib.hid (bstep B0.out hb1)
  clear P0 U0 R0 B0 hb1
  obtain ⟨k0, k1, k2, k3, k4, k5, k6, k7, k8, k9⟩ := id P1.out
  go_wp2_with fail
  with_reducible refine (C2.out _).mono ?_
  rintro e w2 ⟨q, cp, gs, rfl, hgs, hr2, hb2⟩
  have U2 := Lib.hid (pan_alloc (pan_below U1.out hb2) (.cells #[.slice (some ⟨q, 0, none⟩) gs.length cp, .int .i64 sc, .int .i64 rm] 96))
  have R2 := Lib.hid (owp_alloc (owp_below R1.out hb2) (.cells #[.slice (some ⟨q, 0, none⟩) gs.length cp, .int .i64 sc, .int .i64 rm] 96))
  have B2 := Lib.hid (balloc (bstep B1.out hb2) (.cells #[.slice (some ⟨q, 0, none⟩) gs.length cp, .int .i64 sc, .int .i64 rm] 96))
  have S2 := Lib.hid (srB_new w2 (.slice (some ⟨q, 0, none⟩) gs.length cp) sc rm 96)
  have G2 := Lib.hid (rowgs_in hr2 ((Below.refl _ _).alloc (Nat.le_refl _) (.cells #[.slice (some ⟨q, 0, none⟩) gs.length cp, .int .i64 sc, .int .i64 rm] 96)))
  have HG := Lib.hid hgs
  have N2 := Lib.hid (Nat.lt_of_lt_of_le R1.out.2.2.2.2 hb2.size)
  clear P1 U1 R1 B1 hb2 hr2 hgs k0 k1 k2 k3 k4 k5 k6 k7 k8 k9
  obtain ⟨u0, u1, u2, u3, u4, u5, u6, u7, u8, u9⟩ := id U2.out
  obtain ⟨⟨m0, m1, m2⟩, m9⟩ := id S2.out
  have N3 := N2.out
  have ne3 : ¬ (w2.heap.size = w.heap.size + 1 + 1) := by omega
  have ne4 : ¬ (w.heap.size + 1 + 1 = w2.heap.size) := by omega
  have S2d : SrB (w2.alloc (.cells #[.slice (some ⟨q, 0, none⟩) gs.length cp, .int .i64 sc, .int .i64 rm] 96)).drew w2.heap.size (.slice (some ⟨q, 0, none⟩) gs.length cp) sc rm := S2.out
  have G2d : RowGs (w2.alloc (.cells #[.slice (some ⟨q, 0, none⟩) gs.length cp, .int .i64 sc, .int .i64 rm] 96)).drew q gs.length gs := G2.out
  have R2d : OwP (w2.alloc (.cells #[.slice (some ⟨q, 0, none⟩) gs.length cp, .int .i64 sc, .int .i64 rm] 96)).drew (w.heap.size + 1 + 1) (0, 0) := R2.out
  have B2d : Below w.heap.size w (w2.alloc (.cells #[.slice (some ⟨q, 0, none⟩) gs.length cp, .int .i64 sc, .int .i64 rm] 96)).drew := Below.drew B2.out
  go_wp2_with fail
  go_region_with (first
    | (go_at_call 70; (refine (C3.out _).mono ?_); rintro e v0 ⟨g, rfl, hpg, hv0⟩; have S3 := srB_below S2d hv0; have G3 := rowgs_in G2d hv0; have R3 := owp_below R2d hv0; have b3 := bstep B2d hv0; obtain ⟨⟨n0, n1, n2⟩, n9⟩ := id S3)
    | (go_at_call 69; (with_reducible refine (C4.out _ q cp g gs HG.out G3 hpg).mono ?_); rintro e v1 ⟨rfl, hv1⟩; obtain ⟨o0, o1, o2, o3, o4⟩ := owp_below R3 hv1; have b4 := bstep b3 hv1))
  all_goals
    go_wp2
    refine bodyPost_ret (v := spr ((p, r), 0)) (by rw [results_cell_tmp rfl]; go_simp) rfl ⟨rfl, ?_⟩
    (repeat' (first | with_reducible exact b4 | (with_reducible refine Below.setCell ?_ (by simp <;> omega) _)))
theorem bet_any (t u : P9) (D : Int) (w : World) : Calls Try.prog 26 #[p9v t, p9v u, .int .i64 D] w fun e w' => e = .returned (spr (betF t u D)) ∧ Below w.heap.size w w' := by
  have C1 := fun W => cpr_any t u D W
  unfold betF
  by_cases h : prc t u D = 0
  · rw [if_pos h]
    rw [h] at C1
    obtain ⟨ht, hu, d0, d2⟩ := prc_ok h
    have d3 : D ≤ 3 := by omega
    have hB := pcode_ok9 ht
    have hU := pcode_ok9 hu
    obtain ⟨_, s1, s2⟩ := scl_vals d0 d3
    have hv := tm9_bd hU s1 s2
    obtain ⟨r0, r1⟩ := rmF_bd ht d0 d3
    exact bet_yes t u (tm9 (scl D) u) D (scl D) (rmF t D) _ _ _ _ w (Lib.hid C1) (Lib.hid fun W => src_any t D W ht hB d0 d3)
      (Lib.hid fun W => (corners_any u.1 u.2.1 u.2.2 (scl D) W (hv.1.mono (by decide)) (hv.2.1.mono (by decide)) (hv.2.2.mono (by decide))).mono (by rintro e w' ⟨g, he, _, hp, hb⟩; exact ⟨g, he, hp, hb⟩))
      (Lib.hid fun W q cp g gs hgs hr hp => sfr_any t (tm9 (scl D) u) D (rmF t D) q cp g gs W hB hv d0 d3 hr hgs hp r0 r1)
  · rw [if_neg h]
    exact bet_no t u D _ w (Lib.hid C1) (bne_iff_ne.2 h)

end Go.Proofs.Ytjigcgpcglfjfaa
