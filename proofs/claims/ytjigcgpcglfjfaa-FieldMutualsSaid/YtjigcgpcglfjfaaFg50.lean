/-
  The law of Between.
-/
import Derived.Test.YtjigcgpcglfjfaaFg49
namespace Go.Proofs.Ytjigcgpcglfjfaa
open Go.ChangeShapes Go.WideShapes Go.RowKit
open Sh
/-- two panels in memory -/
def TwQ (w : World) (a b c x y z : P3) (W : World) : Prop := Pan W w.heap.size a b c ∧ Pan W (w.heap.size + 1) x y z ∧ Below w.heap.size w W
theorem twq_new (w : World) (a b c x y z : P3) : TwQ w a b c x y z ((w.alloc (pnc a b c 25)).alloc (pnc x y z 25)) := by
  have U0 := pan_new (w.alloc (pnc a b c 25)) x y z 25
  simp only [World.size_alloc] at U0
  exact ⟨pan_alloc (pan_new w a b c 25) (pnc x y z 25), U0, by (repeat' (first | exact Below.refl _ _ | refine Below.setCell ?_ (by simp <;> omega) _ | refine balloc ?_ _ | refine Below.drew ?_ | refine bdrewN ?_ _))⟩
theorem twq_below {w W W' : World} {a b c x y z : P3} (h : TwQ w a b c x y z W) (hb : Below W.heap.size W W') : TwQ w a b c x y z W' := ⟨pan_below h.1 hb, pan_below h.2.1 hb, bstep h.2.2 hb⟩
theorem twq_alloc {w W : World} {a b c x y z : P3} (h : TwQ w a b c x y z W) (o : Obj) : TwQ w a b c x y z (W.alloc o) := twq_below h ((Below.refl _ _).alloc (Nat.le_refl _) _)
set_option maxRecDepth 100000 in
set_option maxHeartbeats 4000000 in
theorem fbet_walk0 (t u : P9) (D : Int) (r : Sp.R) (w : World) (M1 : Hid (∀ W, Calls Try.prog 26 #[p9v t, p9v u, .int .i64 D] W fun e w' => e = .returned (spr r) ∧ Below W.heap.size W w')) (M2 : Hid (∀ W, Calls Try.prog 27 #[p9v t, p9v u, .int .i64 D] W fun e w' => e = .returned (spr r) ∧ Below W.heap.size W w')) (K : Hid (∀ W, Calls Try.prog 15 #[] W fun e w' => e = .returned (.bool true) ∧ Below W.heap.size W w')) : Calls Try.prog 8 #[p9v t, p9v u, .int .i64 D] w fun e w' => e = .returned (.bool true) ∧ Below w.heap.size w w' := by
  obtain ⟨a, b, c⟩ := t
  obtain ⟨x, y, z⟩ := u
  have T0 := Lib.hid (twq_new w a b c x y z)
  obtain ⟨⟨k0, k1, k2, k3, k4, k5, k6, k7, k8, k9⟩, ⟨u0, u1, u2, u3, u4, u5, u6, u7, u8, u9⟩, _⟩ := T0.out
  go_enter Try.func8, Try.ntmps8
  go_wp2_with fail
  refine (M1.out _).mono ?_
  rintro e w1 ⟨rfl, hb1⟩
  have T1 := Lib.hid (twq_alloc (twq_below T0.out hb1) (.cells #[.int .i64 r.1.1, .int .i64 r.1.2] 35))
  have V1 := Lib.hid (owp_new w1 r.1 35)
  clear k0 k1 k2 k3 k4 k5 k6 k7 k8 k9 u0 u1 u2 u3 u4 u5 u6 u7 u8 u9
  clear T0 hb1
  obtain ⟨⟨k0, k1, k2, k3, k4, k5, k6, k7, k8, k9⟩, ⟨u0, u1, u2, u3, u4, u5, u6, u7, u8, u9⟩, _⟩ := T1.out
  go_wp2_with fail
  refine (M2.out _).mono ?_
  rintro e w2 ⟨rfl, hb2⟩
  have T2 := Lib.hid (twq_alloc (twq_below T1.out hb2) (.cells #[.int .i64 r.1.1, .int .i64 r.1.2] 35))
  have V2 := Lib.hid (owp_alloc (owp_below V1.out hb2) (.cells #[.int .i64 r.1.1, .int .i64 r.1.2] 35))
  have V3 := Lib.hid (owp_new w2 r.1 35)
  clear k0 k1 k2 k3 k4 k5 k6 k7 k8 k9 u0 u1 u2 u3 u4 u5 u6 u7 u8 u9
  clear T1 hb2 V1
  obtain ⟨v00, v01, v02, v03, v04⟩ := V2.out
  obtain ⟨v10, v11, v12, v13, v14⟩ := V3.out
  go_wp2_with fail
  refine (K.out _).mono ?_
  rintro e w5 ⟨rfl, hb5⟩
  clear v00 v01 v02 v03 v04 v10 v11 v12 v13 v14
  go_wp2
  go_ret
  exact ⟨rfl, bstep T2.out.2.2 hb5⟩
theorem fbet_walk (t u : P9) (D : Int) (w : World) : Calls Try.prog 8 #[p9v t, p9v u, .int .i64 D] w fun e w' => e = .returned (.bool true) ∧ Below w.heap.size w w' :=
  fbet_walk0 t u D _ w (Lib.hid fun W => bet_any t u D W) (Lib.hid fun W => rbet_any t u D W) (Lib.hid fun W => fkn_any W)

end Go.Proofs.Ytjigcgpcglfjfaa
