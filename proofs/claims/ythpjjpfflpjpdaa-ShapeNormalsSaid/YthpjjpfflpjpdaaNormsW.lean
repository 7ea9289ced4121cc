/-
  The law ShapeNormals: its walk, for any answers of its callees that belong together.
-/
import Derived.Test.YthpjjpfflpjpdaaVPanel
namespace Go.Proofs.Ythpjjpfflpjpdaa
open Go.ChangeShapes Go.WideShapes Go.RowKit
open Sh
theorem keep15 {w : World} {q t u : Nat} {a b c d e : P3} (h : Pan w q a b c) (k : Own w t d) (l : Own w u e) : w.cell? ⟨q, 0, none⟩ = some (.int .i64 a.1) ∧ w.cell? ⟨q, 1, none⟩ = some (.int .i64 a.2.1) ∧ w.cell? ⟨q, 2, none⟩ = some (.int .i64 a.2.2) ∧
  w.cell? ⟨q, 3, none⟩ = some (.int .i64 b.1) ∧ w.cell? ⟨q, 4, none⟩ = some (.int .i64 b.2.1) ∧ w.cell? ⟨q, 5, none⟩ = some (.int .i64 b.2.2) ∧
  w.cell? ⟨q, 6, none⟩ = some (.int .i64 c.1) ∧ w.cell? ⟨q, 7, none⟩ = some (.int .i64 c.2.1) ∧ w.cell? ⟨q, 8, none⟩ = some (.int .i64 c.2.2) ∧
  w.cell? ⟨t, 0, none⟩ = some (.int .i64 d.1) ∧ w.cell? ⟨t, 1, none⟩ = some (.int .i64 d.2.1) ∧ w.cell? ⟨t, 2, none⟩ = some (.int .i64 d.2.2) ∧
  w.cell? ⟨u, 0, none⟩ = some (.int .i64 e.1) ∧ w.cell? ⟨u, 1, none⟩ = some (.int .i64 e.2.1) ∧ w.cell? ⟨u, 2, none⟩ = some (.int .i64 e.2.2) := by
  obtain ⟨h1, h2, h3, h4, h5, h6, h7, h8, h9, _⟩ := h
  exact ⟨h1, h2, h3, h4, h5, h6, h7, h8, h9, k.1, k.2.1, k.2.2.1, l.1, l.2.1, l.2.2.1⟩
theorem keep6 {w : World} {t u : Nat} {d e : P3} (k : Own w t d) (l : Own w u e) : w.cell? ⟨t, 0, none⟩ = some (.int .i64 d.1) ∧ w.cell? ⟨t, 1, none⟩ = some (.int .i64 d.2.1) ∧ w.cell? ⟨t, 2, none⟩ = some (.int .i64 d.2.2) ∧
  w.cell? ⟨u, 0, none⟩ = some (.int .i64 e.1) ∧ w.cell? ⟨u, 1, none⟩ = some (.int .i64 e.2.1) ∧ w.cell? ⟨u, 2, none⟩ = some (.int .i64 e.2.2) := ⟨k.1, k.2.1, k.2.2.1, l.1, l.2.1, l.2.2.1⟩
set_option maxRecDepth 100000 in
set_option maxHeartbeats 2000000 in
theorem norms_walk0 (a b c n o : P3) (e : Int) (w : World) (hN : Hid (∀ W : World, Calls Try.prog 22 #[pnv a b c] W fun e' w' => e' = .returned (.tuple #[ptv n, .int .i64 e]) ∧ Below W.heap.size W w')) (hR : Hid (∀ W : World, Calls Try.prog 23 #[pnv a b c] W fun e' w' => e' = .returned (.tuple #[ptv n, .int .i64 e]) ∧ Below W.heap.size W w')) (hV : Hid (∀ W : World, Calls Try.prog 24 #[pnv a b c] W fun e' w' => e' = .returned (.int .i64 e) ∧ Below W.heap.size W w')) (hW : Hid (∀ W : World, Calls Try.prog 25 #[pnv a b c] W fun e' w' => e' = .returned (.int .i64 e) ∧ Below W.heap.size W w')) (hO : Hid (∀ W : World, Calls Try.prog 22 #[pnv a c b] W fun e' w' => e' = .returned (.tuple #[ptv o, .int .i64 e]) ∧ Below W.heap.size W w')) (hT : Hid (∀ W : World, Calls Try.prog 26 #[ptv n, .int .i64 (-1)] W fun e' w' => e' = .returned (ptv o) ∧ Below W.heap.size W w')) (hK : Hid (∀ W : World, Calls Try.prog 14 #[] W fun e' w' => e' = .returned (.bool true) ∧ Below W.heap.size W w')) :
    Calls Try.prog 4 #[pnv a b c] w fun e w' => e = .returned (.bool true) ∧ Below w.heap.size w w' := by
  go_enter Try.func4, Try.ntmps4
  go_wp2_with fail
  refine (hN.out _).mono ?_
  rintro e' w1 ⟨rfl, hb1⟩
  have p1 := pan_below (pan_new w a b c _) hb1
  have k1 := p1
  obtain ⟨y1, y2, y3, y4, y5, y6, y7, y8, y9, y10⟩ := k1
  go_wp2_with fail
  refine (hR.out _).mono ?_
  rintro e' w2 ⟨rfl, hb2⟩
  have p2 := pan_below (pan_alloc p1 _) hb2
  have n2 := own_below (own_new w1 n _) hb2
  clear y1 y2 y3 y4 y5 y6 y7 y8 y9 y10 p1
  have B2 : Below w.heap.size w w2 := by (repeat' (first | exact Below.refl _ _ | refine bstep ?_ hb1 | refine bstep ?_ hb2 | refine Below.setCell ?_ (by simp <;> omega) _ | refine balloc ?_ _ | refine Below.drew ?_ | refine bdrewN ?_ _))
  have i0 := pan_drew (pan_alloc p2 (.cells #[.int .i64 n.1, .int .i64 n.2.1, .int .i64 n.2.2] 33))
  have i1 := own_drew (own_alloc n2 (.cells #[.int .i64 n.1, .int .i64 n.2.1, .int .i64 n.2.2] 33))
  have i2 := own_drew (own_new w2 n 33)
  have BB := Lib.hid (balloc B2 (.cells #[.int .i64 n.1, .int .i64 n.2.1, .int .i64 n.2.2] 33))
  clear hb1 hb2 p2 n2 B2
  go_wp2_with fail
  go_region_held3 (fun w' => w'.cell? ⟨w.heap.size, 0, none⟩ = some (.int .i64 a.1) ∧ w'.cell? ⟨w.heap.size, 1, none⟩ = some (.int .i64 a.2.1) ∧ w'.cell? ⟨w.heap.size, 2, none⟩ = some (.int .i64 a.2.2) ∧ w'.cell? ⟨w.heap.size, 3, none⟩ = some (.int .i64 b.1) ∧ w'.cell? ⟨w.heap.size, 4, none⟩ = some (.int .i64 b.2.1) ∧ w'.cell? ⟨w.heap.size, 5, none⟩ = some (.int .i64 b.2.2) ∧ w'.cell? ⟨w.heap.size, 6, none⟩ = some (.int .i64 c.1) ∧ w'.cell? ⟨w.heap.size, 7, none⟩ = some (.int .i64 c.2.1) ∧ w'.cell? ⟨w.heap.size, 8, none⟩ = some (.int .i64 c.2.2) ∧ w'.cell? ⟨w1.heap.size, 0, none⟩ = some (.int .i64 n.1) ∧ w'.cell? ⟨w1.heap.size, 1, none⟩ = some (.int .i64 n.2.1) ∧ w'.cell? ⟨w1.heap.size, 2, none⟩ = some (.int .i64 n.2.2) ∧ w'.cell? ⟨w2.heap.size, 0, none⟩ = some (.int .i64 n.1) ∧ w'.cell? ⟨w2.heap.size, 1, none⟩ = some (.int .i64 n.2.1) ∧ w'.cell? ⟨w2.heap.size, 2, none⟩ = some (.int .i64 n.2.2))
    (first | exact keep15 i0 i1 i2 | exact keep15 j0 j1 j2 | exact keep15 k0 k1 k2 | fail)
    (first | (go_at_call 24; (with_reducible refine (hV.out _).mono ?_); rintro e' w3 ⟨rfl, hb3⟩; have j0 := pan_below i0 hb3; have j1 := own_below i1 hb3; have j2 := own_below i2 hb3) | (go_at_call 25; (with_reducible refine (hW.out _).mono ?_); rintro e' w4 ⟨rfl, hb4⟩; have k0 := pan_below j0 hb4; have k1 := own_below j1 hb4; have k2 := own_below j2 hb4) | fail)
  all_goals
    have B4 := Lib.hid (bstep (bstep (Below.drew BB.out) hb3) hb4)
    have K0 := Lib.hid k0
    have K1 := Lib.hid k1
    obtain ⟨y1, y2, y3, y4, y5, y6, y7, y8, y9, y10⟩ := k0
    obtain ⟨z1, z2, z3, z4, z5, z6, z7⟩ := k1
    clear i0 i1 i2 j0 j1 j2 hb3 hb4
    go_wp2_with fail
    refine (hO.out _).mono ?_
    rintro e' w5 ⟨rfl, hb5⟩
    have m1 := own_drew (own_alloc (own_below K1.out hb5) (.cells #[.int .i64 o.1, .int .i64 o.2.1, .int .i64 o.2.2] 33))
    have m2 := own_drew (own_new w5 o 33)
    have B5 := Lib.hid (balloc (bstep B4.out hb5) (.cells #[.int .i64 o.1, .int .i64 o.2.1, .int .i64 o.2.2] 33))
    clear y1 y2 y3 y4 y5 y6 y7 y8 y9 y10 z1 z2 z3 z4 z5 z6 z7 k2 hb5
    go_wp2_with fail
    go_region_held3 (fun w' => w'.cell? ⟨w5.heap.size, 0, none⟩ = some (.int .i64 o.1) ∧ w'.cell? ⟨w5.heap.size, 1, none⟩ = some (.int .i64 o.2.1) ∧ w'.cell? ⟨w5.heap.size, 2, none⟩ = some (.int .i64 o.2.2) ∧ w'.cell? ⟨w1.heap.size, 0, none⟩ = some (.int .i64 n.1) ∧ w'.cell? ⟨w1.heap.size, 1, none⟩ = some (.int .i64 n.2.1) ∧ w'.cell? ⟨w1.heap.size, 2, none⟩ = some (.int .i64 n.2.2))
      (first | exact keep6 m2 m1 | exact keep6 q2 q1 | exact keep6 r2 r1 | fail)
      (first | (go_at_call 26; (with_reducible refine (hT.out _).mono ?_); rintro e' w6 ⟨rfl, hb6⟩; have q1 := own_below m1 hb6; have q2 := own_below m2 hb6) | (go_at_call 14; (with_reducible refine (hK.out _).mono ?_); rintro e' w7 ⟨rfl, hb7⟩; have r1 := own_below q1 hb7; have r2 := own_below q2 hb7) | fail)
    all_goals
      go_wp2
      go_ret
      exact ⟨rfl, bstep (bstep (Below.drew B5.out) hb6) hb7⟩

end Go.Proofs.Ythpjjpfflpjpdaa
