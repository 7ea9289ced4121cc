/-
  The law SoundHears: its walk.
-/
import Derived.Test.YtemchbdlckcmkaaSoMc
import Derived.Test.YtemchbdlckcmkaaSoE
namespace Go.Proofs.Ytemchbdlckcmkaa
open Go.ChangeShapes Go.WideShapes Go.RowKit
open Sh
set_option maxRecDepth 100000 in
set_option maxHeartbeats 4000000 in
theorem hears_walk0 (p : Pu) (x : P3) (s t d : Int) (r : Sp.R) (w : World) (C1 : Hid (∀ W, Calls Try.prog 8 #[puv p, ptv x, .int .i64 s, .int .i64 t, .int .i64 d] W fun e w' => e = .returned (spr r) ∧ Below W.heap.size W w')) (C2 : Hid (∀ W, Calls Try.prog 9 #[puv p, ptv x, .int .i64 s, .int .i64 t, .int .i64 d] W fun e w' => e = .returned (spr r) ∧ Below W.heap.size W w')) (K : Hid (∀ W, Calls Try.prog 10 #[] W fun e w' => e = .returned (.bool true) ∧ Below W.heap.size W w')) : Calls Try.prog 3 #[puv p, earv x s t d] w fun e w' => e = .returned (.bool true) ∧ Below w.heap.size w w' := by
  have P0 := Lib.hid (ownPu_alloc (ownPu_new w p 27) (earb x s t d 29))
  have E0 := Lib.hid (ownE_new (w.alloc (pub p 27)) x s t d 29)
  simp only [World.size_alloc] at E0
  obtain ⟨⟨u, v⟩, c⟩ := r
  (try dsimp only at C1 C2)
  go_enter Try.func3, Try.ntmps3
  obtain ⟨⟨d0, d1, d2, d3, d4, d5, d6, d7, d8, d9, d10⟩, dl⟩ := P0.out
  obtain ⟨⟨h0, h1, h2, h3, h4, h5⟩, el⟩ := E0.out
  go_wp2_with fail
  refine (C1.out _).mono ?_
  rintro e w1 ⟨rfl, hb1⟩
  clear d0 d1 d2 d3 d4 d5 d6 d7 d8 d9 d10 dl h0 h1 h2 h3 h4 h5 el
  have P1 := Lib.hid (ownPu_alloc (ownPu_below P0.out hb1) (.cells #[.int .i64 u, .int .i64 v] 31))
  have E1 := Lib.hid (ownE_alloc (ownE_below E0.out hb1) (.cells #[.int .i64 u, .int .i64 v] 31))
  have S1 := Lib.hid (pair_new w1 u v 31)
  obtain ⟨⟨d0, d1, d2, d3, d4, d5, d6, d7, d8, d9, d10⟩, dl⟩ := P1.out
  obtain ⟨⟨h0, h1, h2, h3, h4, h5⟩, el⟩ := E1.out
  go_wp2_with fail
  refine (C2.out _).mono ?_
  rintro e w2 ⟨rfl, hb2⟩
  clear d0 d1 d2 d3 d4 d5 d6 d7 d8 d9 d10 dl h0 h1 h2 h3 h4 h5 el
  obtain ⟨s0, s1, s2, s3, sl⟩ := pair_alloc (pair_below S1.out hb2) (.cells #[.int .i64 u, .int .i64 v] 31)
  obtain ⟨z0, z1, z2, z3, zl⟩ := pair_new w2 u v 31
  have BB := Lib.hid (show Below w.heap.size w w2 by (repeat' (first | exact Below.refl _ _ | refine bstep ?_ hb2 | refine bstep ?_ hb1 | refine Below.setCell ?_ (by simp <;> omega) _ | refine balloc ?_ _ | refine Below.drew ?_ | refine bdrewN ?_ _)))
  go_wp2_with fail
  refine (K.out _).mono ?_
  rintro e w3 ⟨rfl, hb3⟩
  go_wp2
  go_ret
  exact ⟨rfl, by have hB := BB.out; (repeat' (first | exact Below.refl _ _ | refine bstep ?_ hb3 | refine bstep ?_ hB | refine Below.setCell ?_ (by simp <;> omega) _ | refine balloc ?_ _ | refine Below.drew ?_ | refine bdrewN ?_ _))⟩
theorem hears_walk (p : Pu) (x : P3) (s t d : Int) (w : World) : Calls Try.prog 3 #[puv p, earv x s t d] w fun e w' => e = .returned (.bool true) ∧ Below w.heap.size w w' :=
  hears_walk0 p x s t d _ w (Lib.hid fun W => hea_any p x s t d W) (Lib.hid fun W => rhea_any p x s t d W) (Lib.hid fun W => sane_any W)

end Go.Proofs.Ytemchbdlckcmkaa
