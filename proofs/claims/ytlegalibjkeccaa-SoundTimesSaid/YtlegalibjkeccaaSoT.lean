/-
  The laws SoundTravels and SoundTimes: their walks.
-/
import Derived.Test.YtlegalibjkeccaaSo9
namespace Go.Proofs.Ytlegalibjkeccaa
open Go.ChangeShapes Go.WideShapes Go.RowKit
open Sh
set_option maxRecDepth 100000 in
set_option maxHeartbeats 2000000 in
theorem travels_walk0 (a b : P3) (s r c : Int) (w : World) (C1 : Hid (∀ W, Calls Try.prog 12 #[ptv a, ptv b, .int .i64 s] W fun e w' => e = .returned (.tuple #[.int .i64 r, .int .i64 c]) ∧ Below W.heap.size W w')) (C2 : Hid (∀ W, Calls Try.prog 13 #[ptv a, ptv b, .int .i64 s] W fun e w' => e = .returned (.tuple #[.int .i64 r, .int .i64 c]) ∧ Below W.heap.size W w')) (C3 : Hid (∀ W, Calls Try.prog 12 #[ptv b, ptv a, .int .i64 s] W fun e w' => e = .returned (.tuple #[.int .i64 r, .int .i64 c]) ∧ Below W.heap.size W w')) (K : Hid (∀ W, Calls Try.prog 11 #[] W fun e w' => e = .returned (.bool true) ∧ Below W.heap.size W w')) : Calls Try.prog 4 #[ptv a, ptv b, .int .i64 s] w fun e w' => e = .returned (.bool true) ∧ Below w.heap.size w w' := by
  have X0 := Lib.hid (own_alloc (own_new w a 23) (ptc b 23))
  have Y0 := Lib.hid (own_new (w.alloc (ptc a 23)) b 23)
  simp only [World.size_alloc] at Y0
  go_enter Try.func4, Try.ntmps4
  go_wp2_with fail
  refine (C1.out _).mono ?_
  rintro e w1 ⟨rfl, hb1⟩
  have X1 := Lib.hid (own_below X0.out hb1)
  have Y1 := Lib.hid (own_below Y0.out hb1)
  obtain ⟨x0, x1, x2⟩ := own_cells X1.out
  obtain ⟨y0, y1, y2⟩ := own_cells Y1.out
  go_wp2_with fail
  refine (C2.out _).mono ?_
  rintro e w2 ⟨rfl, hb2⟩
  clear x0 x1 x2 y0 y1 y2
  have X2 := Lib.hid (own_below X1.out hb2)
  have Y2 := Lib.hid (own_below Y1.out hb2)
  obtain ⟨x0, x1, x2⟩ := own_cells X2.out
  obtain ⟨y0, y1, y2⟩ := own_cells Y2.out
  go_wp2_with fail
  refine (C3.out _).mono ?_
  rintro e w3 ⟨rfl, hb3⟩
  clear x0 x1 x2 y0 y1 y2
  go_wp2_with fail
  refine (K.out _).mono ?_
  rintro e w4 ⟨rfl, hb4⟩
  go_wp2
  go_ret
  exact ⟨rfl, by (repeat' (first | exact Below.refl _ _ | refine bstep ?_ hb4 | refine bstep ?_ hb3 | refine bstep ?_ hb2 | refine bstep ?_ hb1 | refine Below.setCell ?_ (by simp <;> omega) _ | refine balloc ?_ _ | refine Below.drew ?_ | refine bdrewN ?_ _))⟩
theorem travels_walk (a b : P3) (s : Int) (w : World) : Calls Try.prog 4 #[ptv a, ptv b, .int .i64 s] w fun e w' => e = .returned (.bool true) ∧ Below w.heap.size w w' := by
  have C3 := fun W => trv_any b a s W
  rw [trvR_sym, trcode_sym] at C3
  exact travels_walk0 a b s _ _ w (Lib.hid fun W => trv_any a b s W) (Lib.hid fun W => rtrv_any a b s W) (Lib.hid C3) (Lib.hid fun W => sane_any W)
set_option maxRecDepth 100000 in
set_option maxHeartbeats 2000000 in
theorem times_walk0 (p : Pu) (x : P3) (s r q c : Int) (w : World) (C1 : Hid (∀ W, Calls Try.prog 7 #[puv p, ptv x, .int .i64 s] W fun e w' => e = .returned (.tuple #[.int .i64 r, .int .i64 c]) ∧ Below W.heap.size W w')) (C2 : Hid (∀ W, Calls Try.prog 8 #[puv p, ptv x, .int .i64 s] W fun e w' => e = .returned (.tuple #[.int .i64 r, .int .i64 c]) ∧ Below W.heap.size W w')) (C3 : Hid (∀ W, Calls Try.prog 9 #[puv p, ptv x, .int .i64 s] W fun e w' => e = .returned (.tuple #[.int .i64 q, .int .i64 c]) ∧ Below W.heap.size W w')) (C4 : Hid (∀ W, Calls Try.prog 10 #[puv p, ptv x, .int .i64 s] W fun e w' => e = .returned (.tuple #[.int .i64 q, .int .i64 c]) ∧ Below W.heap.size W w')) (K : Hid (∀ W, Calls Try.prog 11 #[] W fun e w' => e = .returned (.bool true) ∧ Below W.heap.size W w')) : Calls Try.prog 3 #[puv p, ptv x, .int .i64 s] w fun e w' => e = .returned (.bool true) ∧ Below w.heap.size w w' := by
  have P0 := Lib.hid (ownPu_alloc (ownPu_new w p 27) (ptc x 23))
  have Y0 := Lib.hid (own_new (w.alloc (pub p 27)) x 23)
  simp only [World.size_alloc] at Y0
  go_enter Try.func3, Try.ntmps3
  go_wp2_with fail
  refine (C1.out _).mono ?_
  rintro e w1 ⟨rfl, hb1⟩
  have P1 := Lib.hid (ownPu_below P0.out hb1)
  have Y1 := Lib.hid (own_below Y0.out hb1)
  obtain ⟨⟨d0, d1, d2, d3, d4, d5, d6, d7, d8, d9, d10⟩, dl⟩ := P1.out
  obtain ⟨y0, y1, y2⟩ := own_cells Y1.out
  go_wp2_with fail
  refine (C2.out _).mono ?_
  rintro e w2 ⟨rfl, hb2⟩
  clear d0 d1 d2 d3 d4 d5 d6 d7 d8 d9 d10 dl y0 y1 y2
  have P2 := Lib.hid (ownPu_below P1.out hb2)
  have Y2 := Lib.hid (own_below Y1.out hb2)
  obtain ⟨⟨d0, d1, d2, d3, d4, d5, d6, d7, d8, d9, d10⟩, dl⟩ := P2.out
  obtain ⟨y0, y1, y2⟩ := own_cells Y2.out
  go_wp2_with fail
  refine (C3.out _).mono ?_
  rintro e w3 ⟨rfl, hb3⟩
  clear d0 d1 d2 d3 d4 d5 d6 d7 d8 d9 d10 dl y0 y1 y2
  have P3 := Lib.hid (ownPu_below P2.out hb3)
  have Y3 := Lib.hid (own_below Y2.out hb3)
  obtain ⟨⟨d0, d1, d2, d3, d4, d5, d6, d7, d8, d9, d10⟩, dl⟩ := P3.out
  obtain ⟨y0, y1, y2⟩ := own_cells Y3.out
  go_wp2_with fail
  refine (C4.out _).mono ?_
  rintro e w4 ⟨rfl, hb4⟩
  clear d0 d1 d2 d3 d4 d5 d6 d7 d8 d9 d10 dl y0 y1 y2
  go_wp2_with fail
  refine (K.out _).mono ?_
  rintro e w5 ⟨rfl, hb5⟩
  go_wp2
  go_ret
  exact ⟨rfl, by (repeat' (first | exact Below.refl _ _ | refine bstep ?_ hb5 | refine bstep ?_ hb4 | refine bstep ?_ hb3 | refine bstep ?_ hb2 | refine bstep ?_ hb1 | refine Below.setCell ?_ (by simp <;> omega) _ | refine balloc ?_ _ | refine Below.drew ?_ | refine bdrewN ?_ _))⟩
theorem times_walk (p : Pu) (x : P3) (s : Int) (w : World) : Calls Try.prog 3 #[puv p, ptv x, .int .i64 s] w fun e w' => e = .returned (.bool true) ∧ Below w.heap.size w w' :=
  times_walk0 p x s _ _ _ w (Lib.hid fun W => fst_any p x s W) (Lib.hid fun W => rfst_any p x s W) (Lib.hid fun W => lst8_any p x s W) (Lib.hid fun W => rlst8_any p x s W) (Lib.hid fun W => sane_any W)

end Go.Proofs.Ytlegalibjkeccaa
