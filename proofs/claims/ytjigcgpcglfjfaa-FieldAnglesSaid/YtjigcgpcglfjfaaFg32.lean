/-
  The law FieldAngles: its walk.
-/
import Derived.Test.YtjigcgpcglfjfaaFg31
import Derived.Test.YtjigcgpcglfjfaaFg26
namespace Go.Proofs.Ytjigcgpcglfjfaa
open Go.ChangeShapes Go.WideShapes Go.RowKit
open Sh
set_option maxRecDepth 100000 in
set_option maxHeartbeats 4000000 in
theorem fangles_walk0 (t : P9) (x : P3) (d a b c : Int) (w : World) (ha : -1099511627776 ≤ a ∧ a ≤ 1099511627776) (hb : -1099511627776 ≤ b ∧ b ≤ 1099511627776) (M1 : Hid (∀ W, Calls Try.prog 20 #[pnv t.1 t.2.1 t.2.2, ptv x, .int .i64 d] W fun e w' => e = .returned (spr ((a, b), c)) ∧ Below W.heap.size W w')) (M2 : Hid (∀ W, Calls Try.prog 21 #[pnv t.1 t.2.1 t.2.2, ptv x, .int .i64 d] W fun e w' => e = .returned (spr ((a, b), c)) ∧ Below W.heap.size W w')) (M3 : Hid (∀ W, Calls Try.prog 20 #[pnv t.1 t.2.2 t.2.1, ptv x, .int .i64 d] W fun e w' => e = .returned (spr ((-b, -a), c)) ∧ Below W.heap.size W w')) (K : Hid (∀ W, Calls Try.prog 15 #[] W fun e w' => e = .returned (.bool true) ∧ Below W.heap.size W w')) : Calls Try.prog 5 #[senv t x d] w fun e w' => e = .returned (.bool true) ∧ Below w.heap.size w w' := by
  obtain ⟨a1, a2⟩ := ha
  obtain ⟨b1, b2⟩ := hb
  have S0 := Lib.hid (sen_new w t x d 33)
  have B0 := Lib.hid (show Below w.heap.size w (w.alloc (senb t x d 33)) from (Below.refl _ w).alloc (Nat.le_refl _) _)
  obtain ⟨⟨g0, g1, g2, g3, g4, g5, g6, g7, g8, g9, g10, g11, g12⟩, gl⟩ := S0.out
  go_enter Try.func5, Try.ntmps5
  go_wp2_with fail
  with_reducible refine (M1.out _).mono ?_
  rintro e w1 ⟨rfl, hb1⟩
  have S1 := Lib.hid (sen_alloc (sen_below S0.out hb1) (.cells #[.int .i64 a, .int .i64 b] 35))
  have B1 := Lib.hid (balloc (bstep B0.out hb1) (.cells #[.int .i64 a, .int .i64 b] 35))
  have V1 := Lib.hid (owp_new w1 (a, b) 35)
  clear g0 g1 g2 g3 g4 g5 g6 g7 g8 g9 g10 g11 g12 gl hb1 S0 B0
  obtain ⟨⟨g0, g1, g2, g3, g4, g5, g6, g7, g8, g9, g10, g11, g12⟩, gl⟩ := S1.out
  go_wp2_with fail
  with_reducible refine (M2.out _).mono ?_
  rintro e w2 ⟨rfl, hb2⟩
  have S2 := Lib.hid (sen_alloc (sen_below S1.out hb2) (.cells #[.int .i64 a, .int .i64 b] 35))
  have B2 := Lib.hid (balloc (bstep B1.out hb2) (.cells #[.int .i64 a, .int .i64 b] 35))
  have V2 := Lib.hid (owp_alloc (owp_below V1.out hb2) (.cells #[.int .i64 a, .int .i64 b] 35))
  have U2 := Lib.hid (owp_new w2 (a, b) 35)
  clear g0 g1 g2 g3 g4 g5 g6 g7 g8 g9 g10 g11 g12 gl hb2 S1 B1 V1
  obtain ⟨⟨g0, g1, g2, g3, g4, g5, g6, g7, g8, g9, g10, g11, g12⟩, gl⟩ := S2.out
  obtain ⟨v0, v1, v2, v3, v4⟩ := V2.out
  obtain ⟨u0, u1, u2, u3, u4⟩ := U2.out
  have S3 := Lib.hid (sen_alloc S2.out (pnc t.1 t.2.2 t.2.1 25))
  have B3 := Lib.hid (balloc B2.out (pnc t.1 t.2.2 t.2.1 25))
  have V3 := Lib.hid (owp_alloc V2.out (pnc t.1 t.2.2 t.2.1 25))
  obtain ⟨⟨h0, h1, h2, h3, h4, h5, h6, h7, h8, h9, h10, h11, h12⟩, hl⟩ := S3.out
  go_wp2_with fail
  with_reducible refine (M3.out _).mono ?_
  rintro e w3 ⟨rfl, hb3⟩
  have B4 := Lib.hid (balloc (bstep B3.out hb3) (.cells #[.int .i64 (-b), .int .i64 (-a)] 35))
  have V4 := Lib.hid (owp_alloc (owp_below V3.out hb3) (.cells #[.int .i64 (-b), .int .i64 (-a)] 35))
  have U4 := Lib.hid (owp_new w3 (-b, -a) 35)
  clear g0 g1 g2 g3 g4 g5 g6 g7 g8 g9 g10 g11 g12 gl hb3 S2 B2 V2 U2 S3 B3 V3 v0 v1 v2 v3 v4 u0 u1 u2 u3 u4 h0 h1 h2 h3 h4 h5 h6 h7 h8 h9 h10 h11 h12 hl
  obtain ⟨v0, v1, v2, v3, v4⟩ := V4.out
  obtain ⟨u0, u1, u2, u3, u4⟩ := U4.out
  go_wp2_with fail
  refine (K.out _).mono ?_
  rintro e w5 ⟨rfl, hb5⟩
  clear v0 v1 v2 v3 v4 u0 u1 u2 u3 u4
  go_wp2
  go_ret
  exact ⟨rfl, bstep B4.out hb5⟩
theorem fangles_walk (t : P9) (x : P3) (d : Int) (w : World) : Calls Try.prog 5 #[senv t x d] w fun e w' => e = .returned (.bool true) ∧ Below w.heap.size w w' := by
  have M3 := fun W => fsa_any (exT2 t) x d W
  rw [angF_exch] at M3
  have bd := angF_bd t x d
  have M1 := fun W => fsa_any t x d W
  have M2 := fun W => rsa_any t x d W
  generalize angF t x d = r at *
  obtain ⟨⟨a, b⟩, c⟩ := r
  exact fangles_walk0 t x d a b c w bd.1 bd.2 (Lib.hid M1) (Lib.hid M2) (Lib.hid M3) (Lib.hid fun W => fkn_any W)

end Go.Proofs.Ytjigcgpcglfjfaa
