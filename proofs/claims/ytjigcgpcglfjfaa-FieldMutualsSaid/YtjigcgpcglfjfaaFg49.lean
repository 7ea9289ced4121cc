/-
  The document's paired and Between.
-/
import Derived.Test.YtjigcgpcglfjfaaFg48
namespace Go.Proofs.Ytjigcgpcglfjfaa
open Go.ChangeShapes Go.WideShapes Go.RowKit
open Sh
set_option maxRecDepth 100000 in
set_option maxHeartbeats 4000000 in
theorem rpr_no0 (pc : Int) (t u : P9) (D : Int) (w : World) (V : Hid (∀ W, Calls Try.prog 46 #[p9v t] W fun e w' => e = .returned (.int .i64 pc) ∧ Below W.heap.size W w')) (zz : (pc != 0) = true) : Calls Try.prog 71 #[p9v t, p9v u, .int .i64 D] w fun e w' => e = .returned (.int .i64 pc) ∧ Below w.heap.size w w' := by
  obtain ⟨a, b, c⟩ := t
  obtain ⟨x, y, z⟩ := u
  have U0 := Lib.hid (pan_new (w.alloc (pnc a b c 25)) x y z 25)
  simp only [World.size_alloc] at U0
  go_enter Try.func71, Try.ntmps71
  go_wp2_with fail
  refine (V.out _).mono ?_
  rintro e w1 ⟨rfl, hb1⟩
  go_wp2
  go_ret
  exact ⟨rfl, by (repeat' (first | exact Below.refl _ _ | refine bstep ?_ hb1 | refine Below.setCell ?_ (by simp <;> omega) _ | refine balloc ?_ _ | refine Below.drew ?_ | refine bdrewN ?_ _))⟩
set_option maxRecDepth 100000 in
set_option maxHeartbeats 4000000 in
theorem rpr_no1 (pc : Int) (t u : P9) (D : Int) (w : World) (V : Hid (∀ W, Calls Try.prog 46 #[p9v t] W fun e w' => e = .returned (.int .i64 0) ∧ Below W.heap.size W w')) (U : Hid (∀ W, Calls Try.prog 46 #[p9v u] W fun e w' => e = .returned (.int .i64 pc) ∧ Below W.heap.size W w')) (zz : (pc != 0) = true) : Calls Try.prog 71 #[p9v t, p9v u, .int .i64 D] w fun e w' => e = .returned (.int .i64 pc) ∧ Below w.heap.size w w' := by
  obtain ⟨a, b, c⟩ := t
  obtain ⟨x, y, z⟩ := u
  have U0 := Lib.hid (pan_new (w.alloc (pnc a b c 25)) x y z 25)
  simp only [World.size_alloc] at U0
  go_enter Try.func71, Try.ntmps71
  go_wp2_with fail
  refine (V.out _).mono ?_
  rintro e w1 ⟨rfl, hb1⟩
  obtain ⟨k0, k1, k2, k3, k4, k5, k6, k7, k8, k9⟩ := pan_below U0.out hb1
  go_wp2_with fail
  refine (U.out _).mono ?_
  rintro e w2 ⟨rfl, hb2⟩
  go_wp2
  go_ret
  exact ⟨rfl, by (repeat' (first | exact Below.refl _ _ | refine bstep ?_ hb2 | refine bstep ?_ hb1 | refine Below.setCell ?_ (by simp <;> omega) _ | refine balloc ?_ _ | refine Below.drew ?_ | refine bdrewN ?_ _))⟩
set_option maxRecDepth 100000 in
set_option maxHeartbeats 4000000 in
theorem rpr_true (t u : P9) (D : Int) (w : World) (V : Hid (∀ W, Calls Try.prog 46 #[p9v t] W fun e w' => e = .returned (.int .i64 0) ∧ Below W.heap.size W w')) (U : Hid (∀ W, Calls Try.prog 46 #[p9v u] W fun e w' => e = .returned (.int .i64 0) ∧ Below W.heap.size W w')) (I : Hid (∀ W, Calls Try.prog 47 #[.int .i64 D, .int .i64 0, .int .i64 2] W fun e w' => e = .returned (.bool true) ∧ W = w')) : Calls Try.prog 71 #[p9v t, p9v u, .int .i64 D] w fun e w' => e = .returned (.int .i64 0) ∧ Below w.heap.size w w' := by
  obtain ⟨a, b, c⟩ := t
  obtain ⟨x, y, z⟩ := u
  have U0 := Lib.hid (pan_new (w.alloc (pnc a b c 25)) x y z 25)
  simp only [World.size_alloc] at U0
  go_enter Try.func71, Try.ntmps71
  go_wp2_with fail
  refine (V.out _).mono ?_
  rintro e w1 ⟨rfl, hb1⟩
  obtain ⟨k0, k1, k2, k3, k4, k5, k6, k7, k8, k9⟩ := pan_below U0.out hb1
  go_wp2_with fail
  refine (U.out _).mono ?_
  rintro e w2 ⟨rfl, hb2⟩
  go_wp2_with fail
  refine (I.out _).mono ?_
  rintro e w3 ⟨rfl, rfl⟩
  go_wp2
  go_ret
  exact ⟨rfl, by (repeat' (first | exact Below.refl _ _ | refine bstep ?_ hb2 | refine bstep ?_ hb1 | refine Below.setCell ?_ (by simp <;> omega) _ | refine balloc ?_ _ | refine Below.drew ?_ | refine bdrewN ?_ _))⟩
set_option maxRecDepth 100000 in
set_option maxHeartbeats 4000000 in
theorem rpr_false (t u : P9) (D : Int) (w : World) (V : Hid (∀ W, Calls Try.prog 46 #[p9v t] W fun e w' => e = .returned (.int .i64 0) ∧ Below W.heap.size W w')) (U : Hid (∀ W, Calls Try.prog 46 #[p9v u] W fun e w' => e = .returned (.int .i64 0) ∧ Below W.heap.size W w')) (I : Hid (∀ W, Calls Try.prog 47 #[.int .i64 D, .int .i64 0, .int .i64 2] W fun e w' => e = .returned (.bool false) ∧ W = w')) : Calls Try.prog 71 #[p9v t, p9v u, .int .i64 D] w fun e w' => e = .returned (.int .i64 1) ∧ Below w.heap.size w w' := by
  obtain ⟨a, b, c⟩ := t
  obtain ⟨x, y, z⟩ := u
  have U0 := Lib.hid (pan_new (w.alloc (pnc a b c 25)) x y z 25)
  simp only [World.size_alloc] at U0
  go_enter Try.func71, Try.ntmps71
  go_wp2_with fail
  refine (V.out _).mono ?_
  rintro e w1 ⟨rfl, hb1⟩
  obtain ⟨k0, k1, k2, k3, k4, k5, k6, k7, k8, k9⟩ := pan_below U0.out hb1
  go_wp2_with fail
  refine (U.out _).mono ?_
  rintro e w2 ⟨rfl, hb2⟩
  go_wp2_with fail
  refine (I.out _).mono ?_
  rintro e w3 ⟨rfl, rfl⟩
  go_wp2
  go_ret
  exact ⟨rfl, by (repeat' (first | exact Below.refl _ _ | refine bstep ?_ hb2 | refine bstep ?_ hb1 | refine Below.setCell ?_ (by simp <;> omega) _ | refine balloc ?_ _ | refine Below.drew ?_ | refine bdrewN ?_ _))⟩
theorem rpr_any (t u : P9) (D : Int) (w : World) : Calls Try.prog 71 #[p9v t, p9v u, .int .i64 D] w fun e w' => e = .returned (.int .i64 (prc t u D)) ∧ Below w.heap.size w w' := by
  have V := fun W => rvp_any t.1 t.2.1 t.2.2 W
  have U := fun W => rvp_any u.1 u.2.1 u.2.2 W
  have I := fun W => rfinr_any D 0 2 W
  unfold prc
  by_cases h : pcode t.1 t.2.1 t.2.2 = 0
  · rw [if_pos h]
    rw [h] at V
    by_cases k : pcode u.1 u.2.1 u.2.2 = 0
    · rw [if_pos k]
      rw [k] at U
      cases r : rngB D 0 2 with
      | true => rw [r] at I; exact rpr_true t u D w (Lib.hid V) (Lib.hid U) (Lib.hid I)
      | false => rw [r] at I; exact rpr_false t u D w (Lib.hid V) (Lib.hid U) (Lib.hid I)
    · rw [if_neg k]
      exact rpr_no1 _ t u D w (Lib.hid V) (Lib.hid U) (bne_iff_ne.2 k)
  · rw [if_neg h]
    exact rpr_no0 _ t u D w (Lib.hid V) (bne_iff_ne.2 h)
theorem rsee_any (t u : P9) (D : Int) (w : World) (ht : pcode t.1 t.2.1 t.2.2 = 0) (hu : BdT 512 u) (d0 : 0 ≤ D) (d3 : D ≤ 3) :
    Calls Try.prog 72 #[p9v t, .int .i64 D, p9v u] w fun e w' => e = .returned (.agg #[.int .i64 (vSee t D u (rmF t D)).1, .int .i64 (vSee t D u (rmF t D)).2]) ∧ Below w.heap.size w w' := by
  obtain ⟨sw, s1, s2⟩ := scl_vals d0 d3
  obtain ⟨n0, n1⟩ := ptn_vals d0 d3
  have hB := pcode_ok9 ht
  obtain ⟨r0, r1⟩ := rmF_bd ht d0 d3
  have z := rsee_walk t.1 t.2.1 t.2.2 u.1 u.2.1 u.2.2 D (scl D) (rmF t D) (ptn D) (ptk t D) (vNear t D u) (vFar t D u) (vLo t D u) (vHi t D u (rmF t D)) w (Lib.hid sw) ⟨d0, d3, by omega, s2⟩ n0 n1
    (Lib.hid fun W => (rcut_any D.toNat D t W (by omega) (by omega) hB).mono (by
      rintro e w' ⟨v, rfl, ho, hb⟩
      obtain ⟨g, off, cap, rfl, hr⟩ := rparts_row ho
      exact ⟨g, off, cap, rfl, hr, hb⟩))
    (Lib.hid fun W => rrim_any t D W ht d0 d3)
    (Lib.hid fun k hk W q r => by
      have hb := ptk_bd9 hB d0 d3 hk
      exact rclose_any (ptk t D k).1 (ptk t D k).2.1 (ptk t D k).2.2 q 3 3 (P3F u) W r (by decide) (by decide) (hb.mono (by decide)) (fun j hj => p3f_bd (hu.mono (by decide)) hj))
    (Lib.hid fun k hk W q r => by
      have hb := ptk_bd9 hB d0 d3 hk
      have z := rfar_any (ptk t D k).1 (ptk t D k).2.1 (ptk t D k).2.2 q 3 3 (P3F u) W r (by decide) (fun i hi j hj => sub_bd5 (p3f_bd hb hi) (p3f_bd hu hj))
      rw [show ((ptk t D k).1, (ptk t D k).2.1, (ptk t D k).2.2) = ptk t D k from rfl, cf_eq] at z
      exact z)
    (Lib.hid fun m W => rinv_any m _ W) (Lib.hid fun k => rfl) (Lib.hid fun k => ⟨fun h => by unfold vHi; rw [if_pos h], fun h => by unfold vHi; rw [if_neg (by omega)]⟩)
    (Lib.hid fun k hk => by
      have a := kVf_bd (vFar t D u k) s1 s2
      have b := vHi_bd t D u k d0 d3 r0 r1
      exact ⟨sq_nn _, ⟨a.1, a.2.1⟩, b⟩)
  rw [(fl_ptn d0 d3).1, (fl_ptn d0 d3).2] at z
  exact z
/-- what a call has in memory: two panels, a result -/
def TwP (w : World) (a b c x y z : P3) (W : World) : Prop := Pan W w.heap.size a b c ∧ Pan W (w.heap.size + 1) x y z ∧ OwP W (w.heap.size + 1 + 1) (0, 0) ∧ Below w.heap.size w W
theorem twp_new (w : World) (a b c x y z : P3) : TwP w a b c x y z (((w.alloc (pnc a b c 25)).alloc (pnc x y z 25)).alloc (.cells #[.int .i64 0, .int .i64 0] 35)) := by
  have U0 := pan_alloc (pan_new (w.alloc (pnc a b c 25)) x y z 25) (.cells #[.int .i64 0, .int .i64 0] 35)
  have R0 := owp_new ((w.alloc (pnc a b c 25)).alloc (pnc x y z 25)) (0, 0) 35
  simp only [World.size_alloc] at U0 R0
  exact ⟨pan_alloc (pan_alloc (pan_new w a b c 25) (pnc x y z 25)) (.cells #[.int .i64 0, .int .i64 0] 35), U0, R0, by (repeat' (first | exact Below.refl _ _ | refine Below.setCell ?_ (by simp <;> omega) _ | refine balloc ?_ _ | refine Below.drew ?_ | refine bdrewN ?_ _))⟩
theorem twp_below {w W W' : World} {a b c x y z : P3} (h : TwP w a b c x y z W) (hb : Below W.heap.size W W') : TwP w a b c x y z W' := ⟨pan_below h.1 hb, pan_below h.2.1 hb, owp_below h.2.2.1 hb, bstep h.2.2.2 hb⟩
theorem twp_cells {w W : World} {a b c x y z : P3} (h : TwP w a b c x y z W) : W.cell? ⟨w.heap.size, 0, none⟩ = some (.int .i64 a.1) ∧ W.cell? ⟨w.heap.size, 1, none⟩ = some (.int .i64 a.2.1) ∧ W.cell? ⟨w.heap.size, 2, none⟩ = some (.int .i64 a.2.2) ∧ W.cell? ⟨w.heap.size, 3, none⟩ = some (.int .i64 b.1) ∧ W.cell? ⟨w.heap.size, 4, none⟩ = some (.int .i64 b.2.1) ∧ W.cell? ⟨w.heap.size, 5, none⟩ = some (.int .i64 b.2.2) ∧ W.cell? ⟨w.heap.size, 6, none⟩ = some (.int .i64 c.1) ∧ W.cell? ⟨w.heap.size, 7, none⟩ = some (.int .i64 c.2.1) ∧ W.cell? ⟨w.heap.size, 8, none⟩ = some (.int .i64 c.2.2) ∧ W.cell? ⟨w.heap.size + 1, 0, none⟩ = some (.int .i64 x.1) ∧ W.cell? ⟨w.heap.size + 1, 1, none⟩ = some (.int .i64 x.2.1) ∧ W.cell? ⟨w.heap.size + 1, 2, none⟩ = some (.int .i64 x.2.2) ∧ W.cell? ⟨w.heap.size + 1, 3, none⟩ = some (.int .i64 y.1) ∧ W.cell? ⟨w.heap.size + 1, 4, none⟩ = some (.int .i64 y.2.1) ∧ W.cell? ⟨w.heap.size + 1, 5, none⟩ = some (.int .i64 y.2.2) ∧ W.cell? ⟨w.heap.size + 1, 6, none⟩ = some (.int .i64 z.1) ∧ W.cell? ⟨w.heap.size + 1, 7, none⟩ = some (.int .i64 z.2.1) ∧ W.cell? ⟨w.heap.size + 1, 8, none⟩ = some (.int .i64 z.2.2) := by
  obtain ⟨⟨k0, k1, k2, k3, k4, k5, k6, k7, k8, k9⟩, ⟨u0, u1, u2, u3, u4, u5, u6, u7, u8, u9⟩, _⟩ := h
  exact ⟨k0, k1, k2, k3, k4, k5, k6, k7, k8, u0, u1, u2, u3, u4, u5, u6, u7, u8⟩
theorem twp_set {w W : World} {a b c x y z : P3} (h : TwP w a b c x y z W) (p r : Value) : ((W.setCell ⟨w.heap.size + 1 + 1, 0, none⟩ p).setCell ⟨w.heap.size + 1 + 1, 1, none⟩ r).cell? ⟨w.heap.size, 0, none⟩ = some (.int .i64 a.1) ∧ ((W.setCell ⟨w.heap.size + 1 + 1, 0, none⟩ p).setCell ⟨w.heap.size + 1 + 1, 1, none⟩ r).cell? ⟨w.heap.size, 1, none⟩ = some (.int .i64 a.2.1) ∧ ((W.setCell ⟨w.heap.size + 1 + 1, 0, none⟩ p).setCell ⟨w.heap.size + 1 + 1, 1, none⟩ r).cell? ⟨w.heap.size, 2, none⟩ = some (.int .i64 a.2.2) ∧ ((W.setCell ⟨w.heap.size + 1 + 1, 0, none⟩ p).setCell ⟨w.heap.size + 1 + 1, 1, none⟩ r).cell? ⟨w.heap.size, 3, none⟩ = some (.int .i64 b.1) ∧ ((W.setCell ⟨w.heap.size + 1 + 1, 0, none⟩ p).setCell ⟨w.heap.size + 1 + 1, 1, none⟩ r).cell? ⟨w.heap.size, 4, none⟩ = some (.int .i64 b.2.1) ∧ ((W.setCell ⟨w.heap.size + 1 + 1, 0, none⟩ p).setCell ⟨w.heap.size + 1 + 1, 1, none⟩ r).cell? ⟨w.heap.size, 5, none⟩ = some (.int .i64 b.2.2) ∧ ((W.setCell ⟨w.heap.size + 1 + 1, 0, none⟩ p).setCell ⟨w.heap.size + 1 + 1, 1, none⟩ r).cell? ⟨w.heap.size, 6, none⟩ = some (.int .i64 c.1) ∧ ((W.setCell ⟨w.heap.size + 1 + 1, 0, none⟩ p).setCell ⟨w.heap.size + 1 + 1, 1, none⟩ r).cell? ⟨w.heap.size, 7, none⟩ = some (.int .i64 c.2.1) ∧ ((W.setCell ⟨w.heap.size + 1 + 1, 0, none⟩ p).setCell ⟨w.heap.size + 1 + 1, 1, none⟩ r).cell? ⟨w.heap.size, 8, none⟩ = some (.int .i64 c.2.2) ∧ ((W.setCell ⟨w.heap.size + 1 + 1, 0, none⟩ p).setCell ⟨w.heap.size + 1 + 1, 1, none⟩ r).cell? ⟨w.heap.size + 1, 0, none⟩ = some (.int .i64 x.1) ∧ ((W.setCell ⟨w.heap.size + 1 + 1, 0, none⟩ p).setCell ⟨w.heap.size + 1 + 1, 1, none⟩ r).cell? ⟨w.heap.size + 1, 1, none⟩ = some (.int .i64 x.2.1) ∧ ((W.setCell ⟨w.heap.size + 1 + 1, 0, none⟩ p).setCell ⟨w.heap.size + 1 + 1, 1, none⟩ r).cell? ⟨w.heap.size + 1, 2, none⟩ = some (.int .i64 x.2.2) ∧ ((W.setCell ⟨w.heap.size + 1 + 1, 0, none⟩ p).setCell ⟨w.heap.size + 1 + 1, 1, none⟩ r).cell? ⟨w.heap.size + 1, 3, none⟩ = some (.int .i64 y.1) ∧ ((W.setCell ⟨w.heap.size + 1 + 1, 0, none⟩ p).setCell ⟨w.heap.size + 1 + 1, 1, none⟩ r).cell? ⟨w.heap.size + 1, 4, none⟩ = some (.int .i64 y.2.1) ∧ ((W.setCell ⟨w.heap.size + 1 + 1, 0, none⟩ p).setCell ⟨w.heap.size + 1 + 1, 1, none⟩ r).cell? ⟨w.heap.size + 1, 5, none⟩ = some (.int .i64 y.2.2) ∧ ((W.setCell ⟨w.heap.size + 1 + 1, 0, none⟩ p).setCell ⟨w.heap.size + 1 + 1, 1, none⟩ r).cell? ⟨w.heap.size + 1, 6, none⟩ = some (.int .i64 z.1) ∧ ((W.setCell ⟨w.heap.size + 1 + 1, 0, none⟩ p).setCell ⟨w.heap.size + 1 + 1, 1, none⟩ r).cell? ⟨w.heap.size + 1, 7, none⟩ = some (.int .i64 z.2.1) ∧ ((W.setCell ⟨w.heap.size + 1 + 1, 0, none⟩ p).setCell ⟨w.heap.size + 1 + 1, 1, none⟩ r).cell? ⟨w.heap.size + 1, 8, none⟩ = some (.int .i64 z.2.2) := by
  obtain ⟨h0, h1, h2, h3, h4, h5, h6, h7, h8, g0, g1, g2, g3, g4, g5, g6, g7, g8⟩ := twp_cells h
  exact ⟨by go_simp, by go_simp, by go_simp, by go_simp, by go_simp, by go_simp, by go_simp, by go_simp, by go_simp, by go_simp, by go_simp, by go_simp, by go_simp, by go_simp, by go_simp, by go_simp, by go_simp, by go_simp⟩
set_option maxRecDepth 100000 in
set_option maxHeartbeats 4000000 in
theorem rbet_no (t u : P9) (D pc : Int) (w : World) (V : Hid (∀ W, Calls Try.prog 71 #[p9v t, p9v u, .int .i64 D] W fun e w' => e = .returned (.int .i64 pc) ∧ Below W.heap.size W w')) (zz : (pc != 0) = true) : Calls Try.prog 27 #[p9v t, p9v u, .int .i64 D] w fun e w' => e = .returned (spr ((0, 0), pc)) ∧ Below w.heap.size w w' := by
  obtain ⟨a, b, c⟩ := t
  obtain ⟨x, y, z⟩ := u
  have T0 := Lib.hid (twp_new w a b c x y z)
  obtain ⟨⟨k0, k1, k2, k3, k4, k5, k6, k7, k8⟩, u0, u1, u2, u3, u4, u5, u6, u7, u8⟩ : ((((w.alloc (pnc a b c 25)).alloc (pnc x y z 25)).alloc (.cells #[.int .i64 0, .int .i64 0] 35)).cell? ⟨w.heap.size, 0, none⟩ = some (.int .i64 a.1) ∧ (((w.alloc (pnc a b c 25)).alloc (pnc x y z 25)).alloc (.cells #[.int .i64 0, .int .i64 0] 35)).cell? ⟨w.heap.size, 1, none⟩ = some (.int .i64 a.2.1) ∧ (((w.alloc (pnc a b c 25)).alloc (pnc x y z 25)).alloc (.cells #[.int .i64 0, .int .i64 0] 35)).cell? ⟨w.heap.size, 2, none⟩ = some (.int .i64 a.2.2) ∧ (((w.alloc (pnc a b c 25)).alloc (pnc x y z 25)).alloc (.cells #[.int .i64 0, .int .i64 0] 35)).cell? ⟨w.heap.size, 3, none⟩ = some (.int .i64 b.1) ∧ (((w.alloc (pnc a b c 25)).alloc (pnc x y z 25)).alloc (.cells #[.int .i64 0, .int .i64 0] 35)).cell? ⟨w.heap.size, 4, none⟩ = some (.int .i64 b.2.1) ∧ (((w.alloc (pnc a b c 25)).alloc (pnc x y z 25)).alloc (.cells #[.int .i64 0, .int .i64 0] 35)).cell? ⟨w.heap.size, 5, none⟩ = some (.int .i64 b.2.2) ∧ (((w.alloc (pnc a b c 25)).alloc (pnc x y z 25)).alloc (.cells #[.int .i64 0, .int .i64 0] 35)).cell? ⟨w.heap.size, 6, none⟩ = some (.int .i64 c.1) ∧ (((w.alloc (pnc a b c 25)).alloc (pnc x y z 25)).alloc (.cells #[.int .i64 0, .int .i64 0] 35)).cell? ⟨w.heap.size, 7, none⟩ = some (.int .i64 c.2.1) ∧ (((w.alloc (pnc a b c 25)).alloc (pnc x y z 25)).alloc (.cells #[.int .i64 0, .int .i64 0] 35)).cell? ⟨w.heap.size, 8, none⟩ = some (.int .i64 c.2.2)) ∧ (((w.alloc (pnc a b c 25)).alloc (pnc x y z 25)).alloc (.cells #[.int .i64 0, .int .i64 0] 35)).cell? ⟨w.heap.size + 1, 0, none⟩ = some (.int .i64 x.1) ∧ (((w.alloc (pnc a b c 25)).alloc (pnc x y z 25)).alloc (.cells #[.int .i64 0, .int .i64 0] 35)).cell? ⟨w.heap.size + 1, 1, none⟩ = some (.int .i64 x.2.1) ∧ (((w.alloc (pnc a b c 25)).alloc (pnc x y z 25)).alloc (.cells #[.int .i64 0, .int .i64 0] 35)).cell? ⟨w.heap.size + 1, 2, none⟩ = some (.int .i64 x.2.2) ∧ (((w.alloc (pnc a b c 25)).alloc (pnc x y z 25)).alloc (.cells #[.int .i64 0, .int .i64 0] 35)).cell? ⟨w.heap.size + 1, 3, none⟩ = some (.int .i64 y.1) ∧ (((w.alloc (pnc a b c 25)).alloc (pnc x y z 25)).alloc (.cells #[.int .i64 0, .int .i64 0] 35)).cell? ⟨w.heap.size + 1, 4, none⟩ = some (.int .i64 y.2.1) ∧ (((w.alloc (pnc a b c 25)).alloc (pnc x y z 25)).alloc (.cells #[.int .i64 0, .int .i64 0] 35)).cell? ⟨w.heap.size + 1, 5, none⟩ = some (.int .i64 y.2.2) ∧ (((w.alloc (pnc a b c 25)).alloc (pnc x y z 25)).alloc (.cells #[.int .i64 0, .int .i64 0] 35)).cell? ⟨w.heap.size + 1, 6, none⟩ = some (.int .i64 z.1) ∧ (((w.alloc (pnc a b c 25)).alloc (pnc x y z 25)).alloc (.cells #[.int .i64 0, .int .i64 0] 35)).cell? ⟨w.heap.size + 1, 7, none⟩ = some (.int .i64 z.2.1) ∧ (((w.alloc (pnc a b c 25)).alloc (pnc x y z 25)).alloc (.cells #[.int .i64 0, .int .i64 0] 35)).cell? ⟨w.heap.size + 1, 8, none⟩ = some (.int .i64 z.2.2) := by
    obtain ⟨h0, h1, h2, h3, h4, h5, h6, h7, h8, h9⟩ := twp_cells T0.out
    exact ⟨⟨h0, h1, h2, h3, h4, h5, h6, h7, h8⟩, h9⟩
  go_enter Try.func27, Try.ntmps27
  go_wp2_with fail
  refine (V.out _).mono ?_
  rintro e w1 ⟨rfl, hb1⟩
  clear k0 k1 k2 k3 k4 k5 k6 k7 k8 u0 u1 u2 u3 u4 u5 u6 u7 u8
  have T1 := Lib.hid (twp_below T0.out hb1)
  clear T0 hb1
  obtain ⟨o0, o1, o2, o3, o4⟩ := T1.out.2.2.1
  go_wp2
  refine bodyPost_ret (v := spr ((0, 0), pc)) (by rw [results_cell_tmp rfl]; go_simp) rfl ⟨rfl, ?_⟩
  have hB := T1.out.2.2.2
  (repeat' (first | with_reducible exact hB | (with_reducible refine Below.setCell ?_ (by simp <;> omega) _)))
set_option maxRecDepth 100000 in
set_option maxHeartbeats 4000000 in
theorem rbet_yes (t u : P9) (x' y' z' : P3) (D sc p r : Int) (w : World) (SH : Hid (wrap64 (2 ^ D.toNat) = sc)) (d0 : 0 ≤ D) (d3 : D ≤ 3) (V : Hid (∀ W, Calls Try.prog 71 #[p9v t, p9v u, .int .i64 D] W fun e w' => e = .returned (.int .i64 0) ∧ Below W.heap.size W w'))
    (T1' : Hid (∀ W, Calls Try.prog 73 #[ptv u.1, .int .i64 sc] W fun e w' => e = .returned (ptv x') ∧ Below W.heap.size W w')) (T2' : Hid (∀ W, Calls Try.prog 73 #[ptv u.2.1, .int .i64 sc] W fun e w' => e = .returned (ptv y') ∧ Below W.heap.size W w')) (T3' : Hid (∀ W, Calls Try.prog 73 #[ptv u.2.2, .int .i64 sc] W fun e w' => e = .returned (ptv z') ∧ Below W.heap.size W w'))
    (S' : Hid (∀ W, Calls Try.prog 72 #[p9v t, .int .i64 D, pnv x' y' z'] W fun e w' => e = .returned (.agg #[.int .i64 p, .int .i64 r]) ∧ Below W.heap.size W w')) : Calls Try.prog 27 #[p9v t, p9v u, .int .i64 D] w fun e w' => e = .returned (spr ((p, r), 0)) ∧ Below w.heap.size w w' := by
  obtain rfl := SH.out
  obtain ⟨a, b, c⟩ := t
  obtain ⟨x, y, z⟩ := u
  have T0 := Lib.hid (twp_new w a b c x y z)
  obtain ⟨⟨k0, k1, k2, k3, k4, k5, k6, k7, k8⟩, u0, u1, u2, u3, u4, u5, u6, u7, u8⟩ : ((((w.alloc (pnc a b c 25)).alloc (pnc x y z 25)).alloc (.cells #[.int .i64 0, .int .i64 0] 35)).cell? ⟨w.heap.size, 0, none⟩ = some (.int .i64 a.1) ∧ (((w.alloc (pnc a b c 25)).alloc (pnc x y z 25)).alloc (.cells #[.int .i64 0, .int .i64 0] 35)).cell? ⟨w.heap.size, 1, none⟩ = some (.int .i64 a.2.1) ∧ (((w.alloc (pnc a b c 25)).alloc (pnc x y z 25)).alloc (.cells #[.int .i64 0, .int .i64 0] 35)).cell? ⟨w.heap.size, 2, none⟩ = some (.int .i64 a.2.2) ∧ (((w.alloc (pnc a b c 25)).alloc (pnc x y z 25)).alloc (.cells #[.int .i64 0, .int .i64 0] 35)).cell? ⟨w.heap.size, 3, none⟩ = some (.int .i64 b.1) ∧ (((w.alloc (pnc a b c 25)).alloc (pnc x y z 25)).alloc (.cells #[.int .i64 0, .int .i64 0] 35)).cell? ⟨w.heap.size, 4, none⟩ = some (.int .i64 b.2.1) ∧ (((w.alloc (pnc a b c 25)).alloc (pnc x y z 25)).alloc (.cells #[.int .i64 0, .int .i64 0] 35)).cell? ⟨w.heap.size, 5, none⟩ = some (.int .i64 b.2.2) ∧ (((w.alloc (pnc a b c 25)).alloc (pnc x y z 25)).alloc (.cells #[.int .i64 0, .int .i64 0] 35)).cell? ⟨w.heap.size, 6, none⟩ = some (.int .i64 c.1) ∧ (((w.alloc (pnc a b c 25)).alloc (pnc x y z 25)).alloc (.cells #[.int .i64 0, .int .i64 0] 35)).cell? ⟨w.heap.size, 7, none⟩ = some (.int .i64 c.2.1) ∧ (((w.alloc (pnc a b c 25)).alloc (pnc x y z 25)).alloc (.cells #[.int .i64 0, .int .i64 0] 35)).cell? ⟨w.heap.size, 8, none⟩ = some (.int .i64 c.2.2)) ∧ (((w.alloc (pnc a b c 25)).alloc (pnc x y z 25)).alloc (.cells #[.int .i64 0, .int .i64 0] 35)).cell? ⟨w.heap.size + 1, 0, none⟩ = some (.int .i64 x.1) ∧ (((w.alloc (pnc a b c 25)).alloc (pnc x y z 25)).alloc (.cells #[.int .i64 0, .int .i64 0] 35)).cell? ⟨w.heap.size + 1, 1, none⟩ = some (.int .i64 x.2.1) ∧ (((w.alloc (pnc a b c 25)).alloc (pnc x y z 25)).alloc (.cells #[.int .i64 0, .int .i64 0] 35)).cell? ⟨w.heap.size + 1, 2, none⟩ = some (.int .i64 x.2.2) ∧ (((w.alloc (pnc a b c 25)).alloc (pnc x y z 25)).alloc (.cells #[.int .i64 0, .int .i64 0] 35)).cell? ⟨w.heap.size + 1, 3, none⟩ = some (.int .i64 y.1) ∧ (((w.alloc (pnc a b c 25)).alloc (pnc x y z 25)).alloc (.cells #[.int .i64 0, .int .i64 0] 35)).cell? ⟨w.heap.size + 1, 4, none⟩ = some (.int .i64 y.2.1) ∧ (((w.alloc (pnc a b c 25)).alloc (pnc x y z 25)).alloc (.cells #[.int .i64 0, .int .i64 0] 35)).cell? ⟨w.heap.size + 1, 5, none⟩ = some (.int .i64 y.2.2) ∧ (((w.alloc (pnc a b c 25)).alloc (pnc x y z 25)).alloc (.cells #[.int .i64 0, .int .i64 0] 35)).cell? ⟨w.heap.size + 1, 6, none⟩ = some (.int .i64 z.1) ∧ (((w.alloc (pnc a b c 25)).alloc (pnc x y z 25)).alloc (.cells #[.int .i64 0, .int .i64 0] 35)).cell? ⟨w.heap.size + 1, 7, none⟩ = some (.int .i64 z.2.1) ∧ (((w.alloc (pnc a b c 25)).alloc (pnc x y z 25)).alloc (.cells #[.int .i64 0, .int .i64 0] 35)).cell? ⟨w.heap.size + 1, 8, none⟩ = some (.int .i64 z.2.2) := by
    obtain ⟨h0, h1, h2, h3, h4, h5, h6, h7, h8, h9⟩ := twp_cells T0.out
    exact ⟨⟨h0, h1, h2, h3, h4, h5, h6, h7, h8⟩, h9⟩
  go_enter Try.func27, Try.ntmps27
  go_wp2_with fail
  refine (V.out _).mono ?_
  rintro e w1 ⟨rfl, hb1⟩
  clear k0 k1 k2 k3 k4 k5 k6 k7 k8 u0 u1 u2 u3 u4 u5 u6 u7 u8
  have T1 := Lib.hid (twp_below T0.out hb1)
  clear T0 hb1
  have i0 : TwP w a b c x y z w1.drew := ⟨T1.out.1, T1.out.2.1, T1.out.2.2.1, Below.drew T1.out.2.2.2⟩
  have TA : Hid (∀ W, Calls Try.prog 73 #[ptv x, .int .i64 (wrap64 (2 ^ D.toNat))] W fun e w' => e = .returned (ptv x') ∧ Below W.heap.size W w') := T1'
  have TB : Hid (∀ W, Calls Try.prog 73 #[ptv y, .int .i64 (wrap64 (2 ^ D.toNat))] W fun e w' => e = .returned (ptv y') ∧ Below W.heap.size W w') := T2'
  have TC : Hid (∀ W, Calls Try.prog 73 #[ptv z, .int .i64 (wrap64 (2 ^ D.toNat))] W fun e w' => e = .returned (ptv z') ∧ Below W.heap.size W w') := T3'
  have SA : Hid (∀ W, Calls Try.prog 72 #[pnv a b c, .int .i64 D, pnv x' y' z'] W fun e w' => e = .returned (.agg #[.int .i64 p, .int .i64 r]) ∧ Below W.heap.size W w') := S'
  clear T1' T2' T3' S' T1
  go_wp2_with fail
  go_region_held3 (fun w' => w'.cell? ⟨w.heap.size, 0, none⟩ = some (.int .i64 a.1) ∧ w'.cell? ⟨w.heap.size, 1, none⟩ = some (.int .i64 a.2.1) ∧ w'.cell? ⟨w.heap.size, 2, none⟩ = some (.int .i64 a.2.2) ∧ w'.cell? ⟨w.heap.size, 3, none⟩ = some (.int .i64 b.1) ∧ w'.cell? ⟨w.heap.size, 4, none⟩ = some (.int .i64 b.2.1) ∧ w'.cell? ⟨w.heap.size, 5, none⟩ = some (.int .i64 b.2.2) ∧ w'.cell? ⟨w.heap.size, 6, none⟩ = some (.int .i64 c.1) ∧ w'.cell? ⟨w.heap.size, 7, none⟩ = some (.int .i64 c.2.1) ∧ w'.cell? ⟨w.heap.size, 8, none⟩ = some (.int .i64 c.2.2) ∧ w'.cell? ⟨w.heap.size + 1, 0, none⟩ = some (.int .i64 x.1) ∧ w'.cell? ⟨w.heap.size + 1, 1, none⟩ = some (.int .i64 x.2.1) ∧ w'.cell? ⟨w.heap.size + 1, 2, none⟩ = some (.int .i64 x.2.2) ∧ w'.cell? ⟨w.heap.size + 1, 3, none⟩ = some (.int .i64 y.1) ∧ w'.cell? ⟨w.heap.size + 1, 4, none⟩ = some (.int .i64 y.2.1) ∧ w'.cell? ⟨w.heap.size + 1, 5, none⟩ = some (.int .i64 y.2.2) ∧ w'.cell? ⟨w.heap.size + 1, 6, none⟩ = some (.int .i64 z.1) ∧ w'.cell? ⟨w.heap.size + 1, 7, none⟩ = some (.int .i64 z.2.1) ∧ w'.cell? ⟨w.heap.size + 1, 8, none⟩ = some (.int .i64 z.2.2))
    (first | (with_reducible exact twp_cells i0) | (with_reducible exact twp_cells i1) | (with_reducible exact twp_cells i2) | (with_reducible exact twp_cells i3) | (with_reducible exact twp_cells i4) | (with_reducible exact twp_set i4 _ _) | fail)
    (first
      | (go_at_call 73; (first | (with_reducible refine (TA.out _).mono ?_) | (with_reducible refine (TB.out _).mono ?_) | (with_reducible refine (TC.out _).mono ?_)); rintro e v ⟨rfl, hv⟩; (first | (with_reducible have i1 := twp_below i0 hv) | (with_reducible have i2 := twp_below i1 hv) | (with_reducible have i3 := twp_below i2 hv)); clear hv)
      | (go_at_call 72; (with_reducible refine (SA.out _).mono ?_); rintro e v ⟨rfl, hv⟩; have i4 := twp_below i3 hv; have hB := i4.2.2.2; obtain ⟨o0, o1, o2, o3, o4⟩ := i4.2.2.1; clear hv)
      | fail)
  all_goals
    go_wp2
    refine bodyPost_ret (v := spr ((p, r), 0)) (by rw [results_cell_tmp rfl]; go_simp) rfl ⟨rfl, ?_⟩
    (repeat' (first | with_reducible exact hB | (with_reducible refine Below.setCell ?_ (by simp <;> omega) _)))
theorem rbet_any (t u : P9) (D : Int) (w : World) : Calls Try.prog 27 #[p9v t, p9v u, .int .i64 D] w fun e w' => e = .returned (spr (betF t u D)) ∧ Below w.heap.size w w' := by
  have C1 := fun W => rpr_any t u D W
  unfold betF
  by_cases h : prc t u D = 0
  · rw [if_pos h]
    rw [h] at C1
    obtain ⟨ht, hu, d0, d2⟩ := prc_ok h
    have d3 : D ≤ 3 := by omega
    have hU := pcode_ok9 hu
    obtain ⟨sw, s1, s2⟩ := scl_vals d0 d3
    have hv := tm9_bd hU s1 s2
    exact rbet_yes t u _ _ _ D (scl D) _ _ w (Lib.hid sw) d0 d3 (Lib.hid C1)
      (Lib.hid fun W => rtimes_any (scl D) u.1 W (hv.1.mono (by decide))) (Lib.hid fun W => rtimes_any (scl D) u.2.1 W (hv.2.1.mono (by decide))) (Lib.hid fun W => rtimes_any (scl D) u.2.2 W (hv.2.2.mono (by decide)))
      (Lib.hid fun W => rsee_any t (tm9 (scl D) u) D W ht hv d0 d3)
  · rw [if_neg h]
    exact rbet_no t u D _ w (Lib.hid C1) (bne_iff_ne.2 h)

end Go.Proofs.Ytjigcgpcglfjfaa
