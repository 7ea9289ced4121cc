/-
  The contracts of the shell around a microphone, and of what a part of a panel gives in it.
-/
import Derived.Test.YtlegalibjkeccaaSo4
import Derived.Test.YtlegalibjkeccaaInverse
import Derived.Test.YtlegalibjkeccaaSumm
namespace Go.Proofs.Ytlegalibjkeccaa
open Go.ChangeShapes Go.WideShapes Go.RowKit
open Sh
attribute [local go_sem 1000000] run_min_mn run_max_mx
theorem results_cell8 {fn : Func} {p : Tmp} {ty : TypeId} (h : fn.results = #[.cell p ty]) (tmps : Array Value) (P : Program) (w : World) :
    (results fn tmps).run P w =
      ((asAddr (tmps.getD p undef)).run P w).andThen fun a w₁ => (loadVar ty a).run P w₁ := by
  simp only [results, h]
  simp [Sem.run_bind, Result.andThen]
/-- a shell as a value, as a block -/
abbrev shv (c : P3) (i o k : Int) : Value := .agg #[.int .i64 c.1, .int .i64 c.2.1, .int .i64 c.2.2, .int .i64 i, .int .i64 o, .int .i64 k]
abbrev shb (c : P3) (i o k : Int) (t : TypeId) : Obj := .cells #[.int .i64 c.1, .int .i64 c.2.1, .int .i64 c.2.2, .int .i64 i, .int .i64 o, .int .i64 k] t
def OwnSh (w : World) (b : Nat) (c : P3) (i o k : Int) : Prop := (w.cell? ⟨b, 0, none⟩ = some (.int .i64 c.1) ∧ w.cell? ⟨b, 1, none⟩ = some (.int .i64 c.2.1) ∧ w.cell? ⟨b, 2, none⟩ = some (.int .i64 c.2.2) ∧ w.cell? ⟨b, 3, none⟩ = some (.int .i64 i) ∧ w.cell? ⟨b, 4, none⟩ = some (.int .i64 o) ∧ w.cell? ⟨b, 5, none⟩ = some (.int .i64 k)) ∧ b < w.heap.size
theorem ownSh_new (w : World) (c : P3) (i o k : Int) (t : TypeId) : OwnSh (w.alloc (shb c i o k t)) w.heap.size c i o k := ⟨⟨by go_simp, by go_simp, by go_simp, by go_simp, by go_simp, by go_simp⟩, by simp⟩
theorem ownSh_in {w w1 : World} {b B : Nat} {c : P3} {i o k : Int} (h : OwnSh w b c i o k) (hb : Below B w w1) (l : b < B) : OwnSh w1 b c i o k := by
  obtain ⟨⟨h0, h1, h2, h3, h4, h5⟩, l2⟩ := h
  exact ⟨⟨(hb.cell (p := ⟨b, 0, none⟩) l).trans h0, (hb.cell (p := ⟨b, 1, none⟩) l).trans h1, (hb.cell (p := ⟨b, 2, none⟩) l).trans h2, (hb.cell (p := ⟨b, 3, none⟩) l).trans h3, (hb.cell (p := ⟨b, 4, none⟩) l).trans h4, (hb.cell (p := ⟨b, 5, none⟩) l).trans h5⟩, Nat.lt_of_lt_of_le l2 hb.size⟩
theorem ownSh_below {w w1 : World} {b : Nat} {c : P3} {i o k : Int} (h : OwnSh w b c i o k) (hb : Below w.heap.size w w1) : OwnSh w1 b c i o k := ownSh_in h hb h.2
theorem ownSh_alloc {w : World} {b : Nat} {c : P3} {i o k : Int} (h : OwnSh w b c i o k) (ob : Obj) : OwnSh (w.alloc ob) b c i o k := ownSh_below h ((Below.refl _ _).alloc (Nat.le_refl _) _)
theorem ownSh_drew {w : World} {b : Nat} {c : P3} {i o k : Int} (h : OwnSh w b c i o k) : OwnSh w.drew b c i o k := h
theorem pair_drew' {w : World} {b : Nat} {x y : Int} (h : Pair w b x y) : Pair w.drew b x y := h
theorem below_put6 {N : Nat} {u w : World} {b : Nat} {v0 v1 v2 v3 v4 v5 : Value} (h : Below N u w) (k : N ≤ b) : Below N u ((((((w.setCell ⟨b, 0, none⟩ v0).setCell ⟨b, 1, none⟩ v1).setCell ⟨b, 2, none⟩ v2).setCell ⟨b, 3, none⟩ v3).setCell ⟨b, 4, none⟩ v4).setCell ⟨b, 5, none⟩ v5) :=
  (Below.setCell (Below.setCell (Below.setCell (Below.setCell (Below.setCell (Below.setCell h k _) k _) k _) k _) k _) k _)
/-- how much finer the grid is -/
def scl (d : Int) : Int := 2 ^ d.toNat
def inn (s d q : Int) : Int := scl d * s * (q - 1) * (scl d * s * (q - 1))
def out8 (s d q : Int) : Int := scl d * s * q * (scl d * s * q)
theorem sh_bd {K s q : Int} (k1 : 1 ≤ K) (k2 : K ≤ 8) (s1 : 1 ≤ s) (s2 : s ≤ 16) (q1 : 1 ≤ q) (q2 : q ≤ 2000) : (1 ≤ K * s ∧ K * s ≤ 128) ∧ (0 ≤ K * s * (q - 1) ∧ K * s * (q - 1) ≤ 256000) ∧ (0 ≤ K * s * q ∧ K * s * q ≤ 256000) ∧ (0 ≤ K * s * (q - 1) * (K * s * (q - 1)) ∧ K * s * (q - 1) * (K * s * (q - 1)) ≤ 65536000000) ∧ (0 ≤ K * s * q * (K * s * q) ∧ K * s * q * (K * s * q) ≤ 65536000000) := by
  have a := mul_bd (x := K) (y := s) (A := 8) (B := 16) (by omega) k2 (by omega) s2
  have a1 : 1 * 1 ≤ K * s := Int.mul_le_mul k1 s1 (by decide) (by omega)
  have b := mul_bd (x := K * s) (y := q - 1) (A := 128) (B := 2000) (by omega) (by omega) (by omega) (by omega)
  have b1 : 0 ≤ K * s * (q - 1) := Int.mul_nonneg (by omega) (by omega)
  have c := mul_bd (x := K * s) (y := q) (A := 128) (B := 2000) (by omega) (by omega) (by omega) (by omega)
  have c1 : 0 ≤ K * s * q := Int.mul_nonneg (by omega) (by omega)
  have e := mul_bd (x := K * s * (q - 1)) (y := K * s * (q - 1)) (A := 256000) (B := 256000) (by omega) (by omega) (by omega) (by omega)
  have f := mul_bd (x := K * s * q) (y := K * s * q) (A := 256000) (B := 256000) (by omega) (by omega) (by omega) (by omega)
  exact ⟨⟨by omega, by omega⟩, ⟨b1, by omega⟩, ⟨c1, by omega⟩, ⟨sq_pos' _, by omega⟩, ⟨sq_pos' _, by omega⟩⟩
/-- what a part gives -/
def giR (c : P3) (i o k : Int) (t : P9) : Sp.R :=
  if farN t c ≤ i ∨ o < nearN t c then ((0, 0), 0) else
  if Sp.mx (nearN t c) i = 0 then ((0, 0), 10) else
  if nearN t c ≤ i ∨ o < farN t c then ((0, (invR (Sp.mx (nearN t c) i) k).1.2), 0) else (((invR (farN t c) k).1.1, (invR (Sp.mx (nearN t c) i) k).1.2), 0)
theorem sg_keep {W : World} {b0 b1 : Nat} {c : P3} {i o k : Int} {x y z : P3} (h : OwnSh W b0 c i o k) (g : Pan W b1 x y z) : W.cell? ⟨b0, 0, none⟩ = some (.int .i64 c.1) ∧ W.cell? ⟨b0, 1, none⟩ = some (.int .i64 c.2.1) ∧ W.cell? ⟨b0, 2, none⟩ = some (.int .i64 c.2.2) ∧ W.cell? ⟨b1, 0, none⟩ = some (.int .i64 x.1) ∧ W.cell? ⟨b1, 1, none⟩ = some (.int .i64 x.2.1) ∧ W.cell? ⟨b1, 2, none⟩ = some (.int .i64 x.2.2) ∧ W.cell? ⟨b1, 3, none⟩ = some (.int .i64 y.1) ∧ W.cell? ⟨b1, 4, none⟩ = some (.int .i64 y.2.1) ∧ W.cell? ⟨b1, 5, none⟩ = some (.int .i64 y.2.2) ∧ W.cell? ⟨b1, 6, none⟩ = some (.int .i64 z.1) ∧ W.cell? ⟨b1, 7, none⟩ = some (.int .i64 z.2.1) ∧ W.cell? ⟨b1, 8, none⟩ = some (.int .i64 z.2.2) := by
  obtain ⟨⟨h0, h1, h2, h3, h4, h5⟩, _⟩ := h
  obtain ⟨k0, k1, k2, k3, k4, k5, k6, k7, k8, _⟩ := g
  exact ⟨h0, h1, h2, k0, k1, k2, k3, k4, k5, k6, k7, k8⟩
set_option maxRecDepth 100000 in
set_option maxHeartbeats 2000000 in
theorem giv_1 (c : P3) (i o k : Int) (x y z : P3) (n f : Int) (w : World) (NN : Hid (∀ W, Calls Try.prog 45 #[pnv x y z, ptv c] W fun e w' => e = .returned (.int .i64 n) ∧ Below W.heap.size W w')) (FF : Hid (∀ W, Calls Try.prog 48 #[pnv x y z, ptv c] W fun e w' => e = .returned (.int .i64 f) ∧ Below W.heap.size W w')) (h1 : f ≤ i) : Calls Try.prog 73 #[shv c i o k, pnv x y z] w fun e w' => e = .returned (spr ((0, 0), 0)) ∧ Below w.heap.size w w' := by
  go_enter Try.func73, Try.ntmps73
  go_wp2_with fail
  have i0 := ownSh_drew (ownSh_alloc (ownSh_alloc (ownSh_new w c i o k 87) (pnc x y z 25)) (.cells #[.int .i64 0, .int .i64 0] 52))
  have i1 := pan_drew (pan_alloc (pan_new (w.alloc (shb c i o k 87)) x y z 25) (.cells #[.int .i64 0, .int .i64 0] 52))
  have i2 := pair_drew' (pair_new ((w.alloc (shb c i o k 87)).alloc (pnc x y z 25)) 0 0 52)
  simp only [World.size_alloc] at i1 i2
  go_region_held3 (fun w' => w'.cell? ⟨w.heap.size, 0, none⟩ = some (.int .i64 c.1) ∧ w'.cell? ⟨w.heap.size, 1, none⟩ = some (.int .i64 c.2.1) ∧ w'.cell? ⟨w.heap.size, 2, none⟩ = some (.int .i64 c.2.2) ∧ w'.cell? ⟨w.heap.size + 1, 0, none⟩ = some (.int .i64 x.1) ∧ w'.cell? ⟨w.heap.size + 1, 1, none⟩ = some (.int .i64 x.2.1) ∧ w'.cell? ⟨w.heap.size + 1, 2, none⟩ = some (.int .i64 x.2.2) ∧ w'.cell? ⟨w.heap.size + 1, 3, none⟩ = some (.int .i64 y.1) ∧ w'.cell? ⟨w.heap.size + 1, 4, none⟩ = some (.int .i64 y.2.1) ∧ w'.cell? ⟨w.heap.size + 1, 5, none⟩ = some (.int .i64 y.2.2) ∧ w'.cell? ⟨w.heap.size + 1, 6, none⟩ = some (.int .i64 z.1) ∧ w'.cell? ⟨w.heap.size + 1, 7, none⟩ = some (.int .i64 z.2.1) ∧ w'.cell? ⟨w.heap.size + 1, 8, none⟩ = some (.int .i64 z.2.2))
    (first | (refine sg_keep i0 i1) | (refine sg_keep q0 q1) | (refine sg_keep r0 r1))
    (first | (go_at_call 45; (with_reducible refine (NN.out _).mono ?_); rintro e v0 ⟨rfl, hv0⟩; have q0 := ownSh_below i0 hv0; have q1 := pan_below i1 hv0; have q2 := pair_below i2 hv0) | (go_at_call 48; (with_reducible refine (FF.out _).mono ?_); rintro e v1 ⟨rfl, hv1⟩; have r0 := ownSh_below q0 hv1; have r1 := pan_below q1 hv1; have r2 := pair_below q2 hv1))
  have BB := Lib.hid (show Below w.heap.size w v1 by (repeat' (first | exact Below.refl _ _ | refine bstep ?_ hv1 | refine bstep ?_ hv0 | refine Below.setCell ?_ (by simp <;> omega) _ | refine balloc ?_ _ | refine Below.drew ?_ | refine bdrewN ?_ _)))
  have R0 := Lib.hid r0
  have R2 := Lib.hid r2
  clear i0 i1 i2 q0 q1 q2 r0 r1 r2 hv0 hv1 NN FF
  obtain ⟨⟨c0, c1, c2, c3, c4, c5⟩, cl⟩ := R0.out
  obtain ⟨g0, g1, g2, g3, gl⟩ := R2.out
  go_wp2
  refine bodyPost_ret (v := spr ((0, 0), 0)) (by rw [results_cell_tmp rfl]; go_simp) rfl ⟨rfl, ?_⟩
  have hB := BB.out
  (repeat' (first | exact Below.refl _ _ | refine bstep ?_ hB | refine Below.setCell ?_ (by simp <;> omega) _ | refine balloc ?_ _ | refine Below.drew ?_ | refine bdrewN ?_ _))
set_option maxRecDepth 100000 in
set_option maxHeartbeats 2000000 in
theorem giv_2 (c : P3) (i o k : Int) (x y z : P3) (n f : Int) (w : World) (NN : Hid (∀ W, Calls Try.prog 45 #[pnv x y z, ptv c] W fun e w' => e = .returned (.int .i64 n) ∧ Below W.heap.size W w')) (FF : Hid (∀ W, Calls Try.prog 48 #[pnv x y z, ptv c] W fun e w' => e = .returned (.int .i64 f) ∧ Below W.heap.size W w')) (h1 : decide (f ≤ i) = false) (h2 : o < n) : Calls Try.prog 73 #[shv c i o k, pnv x y z] w fun e w' => e = .returned (spr ((0, 0), 0)) ∧ Below w.heap.size w w' := by
  go_enter Try.func73, Try.ntmps73
  go_wp2_with fail
  have i0 := ownSh_drew (ownSh_alloc (ownSh_alloc (ownSh_new w c i o k 87) (pnc x y z 25)) (.cells #[.int .i64 0, .int .i64 0] 52))
  have i1 := pan_drew (pan_alloc (pan_new (w.alloc (shb c i o k 87)) x y z 25) (.cells #[.int .i64 0, .int .i64 0] 52))
  have i2 := pair_drew' (pair_new ((w.alloc (shb c i o k 87)).alloc (pnc x y z 25)) 0 0 52)
  simp only [World.size_alloc] at i1 i2
  go_region_held3 (fun w' => w'.cell? ⟨w.heap.size, 0, none⟩ = some (.int .i64 c.1) ∧ w'.cell? ⟨w.heap.size, 1, none⟩ = some (.int .i64 c.2.1) ∧ w'.cell? ⟨w.heap.size, 2, none⟩ = some (.int .i64 c.2.2) ∧ w'.cell? ⟨w.heap.size + 1, 0, none⟩ = some (.int .i64 x.1) ∧ w'.cell? ⟨w.heap.size + 1, 1, none⟩ = some (.int .i64 x.2.1) ∧ w'.cell? ⟨w.heap.size + 1, 2, none⟩ = some (.int .i64 x.2.2) ∧ w'.cell? ⟨w.heap.size + 1, 3, none⟩ = some (.int .i64 y.1) ∧ w'.cell? ⟨w.heap.size + 1, 4, none⟩ = some (.int .i64 y.2.1) ∧ w'.cell? ⟨w.heap.size + 1, 5, none⟩ = some (.int .i64 y.2.2) ∧ w'.cell? ⟨w.heap.size + 1, 6, none⟩ = some (.int .i64 z.1) ∧ w'.cell? ⟨w.heap.size + 1, 7, none⟩ = some (.int .i64 z.2.1) ∧ w'.cell? ⟨w.heap.size + 1, 8, none⟩ = some (.int .i64 z.2.2))
    (first | (refine sg_keep i0 i1) | (refine sg_keep q0 q1) | (refine sg_keep r0 r1))
    (first | (go_at_call 45; (with_reducible refine (NN.out _).mono ?_); rintro e v0 ⟨rfl, hv0⟩; have q0 := ownSh_below i0 hv0; have q1 := pan_below i1 hv0; have q2 := pair_below i2 hv0) | (go_at_call 48; (with_reducible refine (FF.out _).mono ?_); rintro e v1 ⟨rfl, hv1⟩; have r0 := ownSh_below q0 hv1; have r1 := pan_below q1 hv1; have r2 := pair_below q2 hv1))
  have BB := Lib.hid (show Below w.heap.size w v1 by (repeat' (first | exact Below.refl _ _ | refine bstep ?_ hv1 | refine bstep ?_ hv0 | refine Below.setCell ?_ (by simp <;> omega) _ | refine balloc ?_ _ | refine Below.drew ?_ | refine bdrewN ?_ _)))
  have R0 := Lib.hid r0
  have R2 := Lib.hid r2
  clear i0 i1 i2 q0 q1 q2 r0 r1 r2 hv0 hv1 NN FF
  obtain ⟨⟨c0, c1, c2, c3, c4, c5⟩, cl⟩ := R0.out
  obtain ⟨g0, g1, g2, g3, gl⟩ := R2.out
  go_wp2
  refine bodyPost_ret (v := spr ((0, 0), 0)) (by rw [results_cell_tmp rfl]; go_simp) rfl ⟨rfl, ?_⟩
  have hB := BB.out
  (repeat' (first | exact Below.refl _ _ | refine bstep ?_ hB | refine Below.setCell ?_ (by simp <;> omega) _ | refine balloc ?_ _ | refine Below.drew ?_ | refine bdrewN ?_ _))
set_option maxRecDepth 100000 in
set_option maxHeartbeats 2000000 in
theorem giv_3 (c : P3) (i o k : Int) (x y z : P3) (n f : Int) (w : World) (NN : Hid (∀ W, Calls Try.prog 45 #[pnv x y z, ptv c] W fun e w' => e = .returned (.int .i64 n) ∧ Below W.heap.size W w')) (FF : Hid (∀ W, Calls Try.prog 48 #[pnv x y z, ptv c] W fun e w' => e = .returned (.int .i64 f) ∧ Below W.heap.size W w')) (h1 : decide (f ≤ i) = false) (h2 : decide (o < n) = false) (h3 : Sp.mx n i = 0) : Calls Try.prog 73 #[shv c i o k, pnv x y z] w fun e w' => e = .returned (spr ((0, 0), 10)) ∧ Below w.heap.size w w' := by
  go_enter Try.func73, Try.ntmps73
  go_wp2_with fail
  have i0 := ownSh_drew (ownSh_alloc (ownSh_alloc (ownSh_new w c i o k 87) (pnc x y z 25)) (.cells #[.int .i64 0, .int .i64 0] 52))
  have i1 := pan_drew (pan_alloc (pan_new (w.alloc (shb c i o k 87)) x y z 25) (.cells #[.int .i64 0, .int .i64 0] 52))
  have i2 := pair_drew' (pair_new ((w.alloc (shb c i o k 87)).alloc (pnc x y z 25)) 0 0 52)
  simp only [World.size_alloc] at i1 i2
  go_region_held3 (fun w' => w'.cell? ⟨w.heap.size, 0, none⟩ = some (.int .i64 c.1) ∧ w'.cell? ⟨w.heap.size, 1, none⟩ = some (.int .i64 c.2.1) ∧ w'.cell? ⟨w.heap.size, 2, none⟩ = some (.int .i64 c.2.2) ∧ w'.cell? ⟨w.heap.size + 1, 0, none⟩ = some (.int .i64 x.1) ∧ w'.cell? ⟨w.heap.size + 1, 1, none⟩ = some (.int .i64 x.2.1) ∧ w'.cell? ⟨w.heap.size + 1, 2, none⟩ = some (.int .i64 x.2.2) ∧ w'.cell? ⟨w.heap.size + 1, 3, none⟩ = some (.int .i64 y.1) ∧ w'.cell? ⟨w.heap.size + 1, 4, none⟩ = some (.int .i64 y.2.1) ∧ w'.cell? ⟨w.heap.size + 1, 5, none⟩ = some (.int .i64 y.2.2) ∧ w'.cell? ⟨w.heap.size + 1, 6, none⟩ = some (.int .i64 z.1) ∧ w'.cell? ⟨w.heap.size + 1, 7, none⟩ = some (.int .i64 z.2.1) ∧ w'.cell? ⟨w.heap.size + 1, 8, none⟩ = some (.int .i64 z.2.2))
    (first | (refine sg_keep i0 i1) | (refine sg_keep q0 q1) | (refine sg_keep r0 r1))
    (first | (go_at_call 45; (with_reducible refine (NN.out _).mono ?_); rintro e v0 ⟨rfl, hv0⟩; have q0 := ownSh_below i0 hv0; have q1 := pan_below i1 hv0; have q2 := pair_below i2 hv0) | (go_at_call 48; (with_reducible refine (FF.out _).mono ?_); rintro e v1 ⟨rfl, hv1⟩; have r0 := ownSh_below q0 hv1; have r1 := pan_below q1 hv1; have r2 := pair_below q2 hv1))
  have BB := Lib.hid (show Below w.heap.size w v1 by (repeat' (first | exact Below.refl _ _ | refine bstep ?_ hv1 | refine bstep ?_ hv0 | refine Below.setCell ?_ (by simp <;> omega) _ | refine balloc ?_ _ | refine Below.drew ?_ | refine bdrewN ?_ _)))
  have R0 := Lib.hid r0
  have R2 := Lib.hid r2
  clear i0 i1 i2 q0 q1 q2 r0 r1 r2 hv0 hv1 NN FF
  obtain ⟨⟨c0, c1, c2, c3, c4, c5⟩, cl⟩ := R0.out
  obtain ⟨g0, g1, g2, g3, gl⟩ := R2.out
  go_wp2
  refine bodyPost_ret (v := spr ((0, 0), 10)) (by rw [results_cell_tmp rfl]; go_simp) rfl ⟨rfl, ?_⟩
  have hB := BB.out
  (repeat' (first | exact Below.refl _ _ | refine bstep ?_ hB | refine Below.setCell ?_ (by simp <;> omega) _ | refine balloc ?_ _ | refine Below.drew ?_ | refine bdrewN ?_ _))
set_option maxRecDepth 100000 in
set_option maxHeartbeats 2000000 in
theorem giv_4 (c : P3) (i o k : Int) (x y z : P3) (n f : Int) (w : World) (NN : Hid (∀ W, Calls Try.prog 45 #[pnv x y z, ptv c] W fun e w' => e = .returned (.int .i64 n) ∧ Below W.heap.size W w')) (FF : Hid (∀ W, Calls Try.prog 48 #[pnv x y z, ptv c] W fun e w' => e = .returned (.int .i64 f) ∧ Below W.heap.size W w')) (m : Int) (r1 : Sp.R) (h1 : decide (f ≤ i) = false) (h2 : decide (o < n) = false) (h3 : (m == 0) = false) (hm : Sp.mx n i = m) (V1 : Hid (∀ W, Calls Try.prog 86 #[.int .i64 m, .int .i64 k] W fun e w' => e = .returned (spr r1) ∧ Below W.heap.size W w')) (h4 : n ≤ i) : Calls Try.prog 73 #[shv c i o k, pnv x y z] w fun e w' => e = .returned (spr ((0, r1.1.2), 0)) ∧ Below w.heap.size w w' := by
  go_enter Try.func73, Try.ntmps73
  go_wp2_with fail
  have i0 := ownSh_drew (ownSh_alloc (ownSh_alloc (ownSh_new w c i o k 87) (pnc x y z 25)) (.cells #[.int .i64 0, .int .i64 0] 52))
  have i1 := pan_drew (pan_alloc (pan_new (w.alloc (shb c i o k 87)) x y z 25) (.cells #[.int .i64 0, .int .i64 0] 52))
  have i2 := pair_drew' (pair_new ((w.alloc (shb c i o k 87)).alloc (pnc x y z 25)) 0 0 52)
  simp only [World.size_alloc] at i1 i2
  go_region_held3 (fun w' => w'.cell? ⟨w.heap.size, 0, none⟩ = some (.int .i64 c.1) ∧ w'.cell? ⟨w.heap.size, 1, none⟩ = some (.int .i64 c.2.1) ∧ w'.cell? ⟨w.heap.size, 2, none⟩ = some (.int .i64 c.2.2) ∧ w'.cell? ⟨w.heap.size + 1, 0, none⟩ = some (.int .i64 x.1) ∧ w'.cell? ⟨w.heap.size + 1, 1, none⟩ = some (.int .i64 x.2.1) ∧ w'.cell? ⟨w.heap.size + 1, 2, none⟩ = some (.int .i64 x.2.2) ∧ w'.cell? ⟨w.heap.size + 1, 3, none⟩ = some (.int .i64 y.1) ∧ w'.cell? ⟨w.heap.size + 1, 4, none⟩ = some (.int .i64 y.2.1) ∧ w'.cell? ⟨w.heap.size + 1, 5, none⟩ = some (.int .i64 y.2.2) ∧ w'.cell? ⟨w.heap.size + 1, 6, none⟩ = some (.int .i64 z.1) ∧ w'.cell? ⟨w.heap.size + 1, 7, none⟩ = some (.int .i64 z.2.1) ∧ w'.cell? ⟨w.heap.size + 1, 8, none⟩ = some (.int .i64 z.2.2))
    (first | (refine sg_keep i0 i1) | (refine sg_keep q0 q1) | (refine sg_keep r0 r1))
    (first | (go_at_call 45; (with_reducible refine (NN.out _).mono ?_); rintro e v0 ⟨rfl, hv0⟩; have q0 := ownSh_below i0 hv0; have q1 := pan_below i1 hv0; have q2 := pair_below i2 hv0) | (go_at_call 48; (with_reducible refine (FF.out _).mono ?_); rintro e v1 ⟨rfl, hv1⟩; have r0 := ownSh_below q0 hv1; have r1 := pan_below q1 hv1; have r2 := pair_below q2 hv1))
  have BB := Lib.hid (show Below w.heap.size w v1 by (repeat' (first | exact Below.refl _ _ | refine bstep ?_ hv1 | refine bstep ?_ hv0 | refine Below.setCell ?_ (by simp <;> omega) _ | refine balloc ?_ _ | refine Below.drew ?_ | refine bdrewN ?_ _)))
  have R0 := Lib.hid r0
  have R2 := Lib.hid r2
  clear i0 i1 i2 q0 q1 q2 r0 r1 r2 hv0 hv1 NN FF
  obtain ⟨⟨c0, c1, c2, c3, c4, c5⟩, cl⟩ := R0.out
  obtain ⟨g0, g1, g2, g3, gl⟩ := R2.out
  go_wp2_with fail
  refine (V1.out _).mono ?_
  rintro e w2 ⟨rfl, hb2⟩
  have R3 := Lib.hid (ownSh_below R0.out hb2)
  have R4 := Lib.hid (pair_below R2.out hb2)
  clear c0 c1 c2 c3 c4 c5 cl g0 g1 g2 g3 gl
  obtain ⟨⟨c0, c1, c2, c3, c4, c5⟩, cl⟩ := R3.out
  obtain ⟨g0, g1, g2, g3, gl⟩ := R4.out
  go_wp2
  refine bodyPost_ret (v := spr ((0, r1.1.2), 0)) (by rw [results_cell_tmp rfl]; go_simp) rfl ⟨rfl, ?_⟩
  have hB := BB.out
  (repeat' (first | exact Below.refl _ _ | refine bstep ?_ hb2 | refine bstep ?_ hB | refine Below.setCell ?_ (by simp <;> omega) _ | refine balloc ?_ _ | refine Below.drew ?_ | refine bdrewN ?_ _))
set_option maxRecDepth 100000 in
set_option maxHeartbeats 2000000 in
theorem giv_5 (c : P3) (i o k : Int) (x y z : P3) (n f : Int) (w : World) (NN : Hid (∀ W, Calls Try.prog 45 #[pnv x y z, ptv c] W fun e w' => e = .returned (.int .i64 n) ∧ Below W.heap.size W w')) (FF : Hid (∀ W, Calls Try.prog 48 #[pnv x y z, ptv c] W fun e w' => e = .returned (.int .i64 f) ∧ Below W.heap.size W w')) (m : Int) (r1 : Sp.R) (h1 : decide (f ≤ i) = false) (h2 : decide (o < n) = false) (h3 : (m == 0) = false) (hm : Sp.mx n i = m) (V1 : Hid (∀ W, Calls Try.prog 86 #[.int .i64 m, .int .i64 k] W fun e w' => e = .returned (spr r1) ∧ Below W.heap.size W w')) (h4 : decide (n ≤ i) = false) (h5 : o < f) : Calls Try.prog 73 #[shv c i o k, pnv x y z] w fun e w' => e = .returned (spr ((0, r1.1.2), 0)) ∧ Below w.heap.size w w' := by
  go_enter Try.func73, Try.ntmps73
  go_wp2_with fail
  have i0 := ownSh_drew (ownSh_alloc (ownSh_alloc (ownSh_new w c i o k 87) (pnc x y z 25)) (.cells #[.int .i64 0, .int .i64 0] 52))
  have i1 := pan_drew (pan_alloc (pan_new (w.alloc (shb c i o k 87)) x y z 25) (.cells #[.int .i64 0, .int .i64 0] 52))
  have i2 := pair_drew' (pair_new ((w.alloc (shb c i o k 87)).alloc (pnc x y z 25)) 0 0 52)
  simp only [World.size_alloc] at i1 i2
  go_region_held3 (fun w' => w'.cell? ⟨w.heap.size, 0, none⟩ = some (.int .i64 c.1) ∧ w'.cell? ⟨w.heap.size, 1, none⟩ = some (.int .i64 c.2.1) ∧ w'.cell? ⟨w.heap.size, 2, none⟩ = some (.int .i64 c.2.2) ∧ w'.cell? ⟨w.heap.size + 1, 0, none⟩ = some (.int .i64 x.1) ∧ w'.cell? ⟨w.heap.size + 1, 1, none⟩ = some (.int .i64 x.2.1) ∧ w'.cell? ⟨w.heap.size + 1, 2, none⟩ = some (.int .i64 x.2.2) ∧ w'.cell? ⟨w.heap.size + 1, 3, none⟩ = some (.int .i64 y.1) ∧ w'.cell? ⟨w.heap.size + 1, 4, none⟩ = some (.int .i64 y.2.1) ∧ w'.cell? ⟨w.heap.size + 1, 5, none⟩ = some (.int .i64 y.2.2) ∧ w'.cell? ⟨w.heap.size + 1, 6, none⟩ = some (.int .i64 z.1) ∧ w'.cell? ⟨w.heap.size + 1, 7, none⟩ = some (.int .i64 z.2.1) ∧ w'.cell? ⟨w.heap.size + 1, 8, none⟩ = some (.int .i64 z.2.2))
    (first | (refine sg_keep i0 i1) | (refine sg_keep q0 q1) | (refine sg_keep r0 r1))
    (first | (go_at_call 45; (with_reducible refine (NN.out _).mono ?_); rintro e v0 ⟨rfl, hv0⟩; have q0 := ownSh_below i0 hv0; have q1 := pan_below i1 hv0; have q2 := pair_below i2 hv0) | (go_at_call 48; (with_reducible refine (FF.out _).mono ?_); rintro e v1 ⟨rfl, hv1⟩; have r0 := ownSh_below q0 hv1; have r1 := pan_below q1 hv1; have r2 := pair_below q2 hv1))
  have BB := Lib.hid (show Below w.heap.size w v1 by (repeat' (first | exact Below.refl _ _ | refine bstep ?_ hv1 | refine bstep ?_ hv0 | refine Below.setCell ?_ (by simp <;> omega) _ | refine balloc ?_ _ | refine Below.drew ?_ | refine bdrewN ?_ _)))
  have R0 := Lib.hid r0
  have R2 := Lib.hid r2
  clear i0 i1 i2 q0 q1 q2 r0 r1 r2 hv0 hv1 NN FF
  obtain ⟨⟨c0, c1, c2, c3, c4, c5⟩, cl⟩ := R0.out
  obtain ⟨g0, g1, g2, g3, gl⟩ := R2.out
  go_wp2_with fail
  refine (V1.out _).mono ?_
  rintro e w2 ⟨rfl, hb2⟩
  have R3 := Lib.hid (ownSh_below R0.out hb2)
  have R4 := Lib.hid (pair_below R2.out hb2)
  clear c0 c1 c2 c3 c4 c5 cl g0 g1 g2 g3 gl
  obtain ⟨⟨c0, c1, c2, c3, c4, c5⟩, cl⟩ := R3.out
  obtain ⟨g0, g1, g2, g3, gl⟩ := R4.out
  go_wp2
  refine bodyPost_ret (v := spr ((0, r1.1.2), 0)) (by rw [results_cell_tmp rfl]; go_simp) rfl ⟨rfl, ?_⟩
  have hB := BB.out
  (repeat' (first | exact Below.refl _ _ | refine bstep ?_ hb2 | refine bstep ?_ hB | refine Below.setCell ?_ (by simp <;> omega) _ | refine balloc ?_ _ | refine Below.drew ?_ | refine bdrewN ?_ _))
set_option maxRecDepth 100000 in
set_option maxHeartbeats 2000000 in
theorem giv_6 (c : P3) (i o k : Int) (x y z : P3) (n f : Int) (w : World) (NN : Hid (∀ W, Calls Try.prog 45 #[pnv x y z, ptv c] W fun e w' => e = .returned (.int .i64 n) ∧ Below W.heap.size W w')) (FF : Hid (∀ W, Calls Try.prog 48 #[pnv x y z, ptv c] W fun e w' => e = .returned (.int .i64 f) ∧ Below W.heap.size W w')) (m : Int) (r1 r2 : Sp.R) (h1 : decide (f ≤ i) = false) (h2 : decide (o < n) = false) (h3 : (m == 0) = false) (hm : Sp.mx n i = m) (V1 : Hid (∀ W, Calls Try.prog 86 #[.int .i64 m, .int .i64 k] W fun e w' => e = .returned (spr r1) ∧ Below W.heap.size W w')) (V2 : Hid (∀ W, Calls Try.prog 86 #[.int .i64 f, .int .i64 k] W fun e w' => e = .returned (spr r2) ∧ Below W.heap.size W w')) (h4 : decide (n ≤ i) = false) (h5 : decide (o < f) = false) : Calls Try.prog 73 #[shv c i o k, pnv x y z] w fun e w' => e = .returned (spr ((r2.1.1, r1.1.2), 0)) ∧ Below w.heap.size w w' := by
  go_enter Try.func73, Try.ntmps73
  go_wp2_with fail
  have i0 := ownSh_drew (ownSh_alloc (ownSh_alloc (ownSh_new w c i o k 87) (pnc x y z 25)) (.cells #[.int .i64 0, .int .i64 0] 52))
  have i1 := pan_drew (pan_alloc (pan_new (w.alloc (shb c i o k 87)) x y z 25) (.cells #[.int .i64 0, .int .i64 0] 52))
  have i2 := pair_drew' (pair_new ((w.alloc (shb c i o k 87)).alloc (pnc x y z 25)) 0 0 52)
  simp only [World.size_alloc] at i1 i2
  go_region_held3 (fun w' => w'.cell? ⟨w.heap.size, 0, none⟩ = some (.int .i64 c.1) ∧ w'.cell? ⟨w.heap.size, 1, none⟩ = some (.int .i64 c.2.1) ∧ w'.cell? ⟨w.heap.size, 2, none⟩ = some (.int .i64 c.2.2) ∧ w'.cell? ⟨w.heap.size + 1, 0, none⟩ = some (.int .i64 x.1) ∧ w'.cell? ⟨w.heap.size + 1, 1, none⟩ = some (.int .i64 x.2.1) ∧ w'.cell? ⟨w.heap.size + 1, 2, none⟩ = some (.int .i64 x.2.2) ∧ w'.cell? ⟨w.heap.size + 1, 3, none⟩ = some (.int .i64 y.1) ∧ w'.cell? ⟨w.heap.size + 1, 4, none⟩ = some (.int .i64 y.2.1) ∧ w'.cell? ⟨w.heap.size + 1, 5, none⟩ = some (.int .i64 y.2.2) ∧ w'.cell? ⟨w.heap.size + 1, 6, none⟩ = some (.int .i64 z.1) ∧ w'.cell? ⟨w.heap.size + 1, 7, none⟩ = some (.int .i64 z.2.1) ∧ w'.cell? ⟨w.heap.size + 1, 8, none⟩ = some (.int .i64 z.2.2))
    (first | (refine sg_keep i0 i1) | (refine sg_keep q0 q1) | (refine sg_keep r0 r1))
    (first | (go_at_call 45; (with_reducible refine (NN.out _).mono ?_); rintro e v0 ⟨rfl, hv0⟩; have q0 := ownSh_below i0 hv0; have q1 := pan_below i1 hv0; have q2 := pair_below i2 hv0) | (go_at_call 48; (with_reducible refine (FF.out _).mono ?_); rintro e v1 ⟨rfl, hv1⟩; have r0 := ownSh_below q0 hv1; have r1 := pan_below q1 hv1; have r2 := pair_below q2 hv1))
  have BB := Lib.hid (show Below w.heap.size w v1 by (repeat' (first | exact Below.refl _ _ | refine bstep ?_ hv1 | refine bstep ?_ hv0 | refine Below.setCell ?_ (by simp <;> omega) _ | refine balloc ?_ _ | refine Below.drew ?_ | refine bdrewN ?_ _)))
  have R0 := Lib.hid r0
  have R2 := Lib.hid r2
  clear i0 i1 i2 q0 q1 q2 r0 r1 r2 hv0 hv1 NN FF
  obtain ⟨⟨c0, c1, c2, c3, c4, c5⟩, cl⟩ := R0.out
  obtain ⟨g0, g1, g2, g3, gl⟩ := R2.out
  go_wp2_with fail
  refine (V1.out _).mono ?_
  rintro e w2 ⟨rfl, hb2⟩
  have R3 := Lib.hid (ownSh_below R0.out hb2)
  have R4 := Lib.hid (pair_below R2.out hb2)
  clear c0 c1 c2 c3 c4 c5 cl g0 g1 g2 g3 gl
  obtain ⟨⟨c0, c1, c2, c3, c4, c5⟩, cl⟩ := R3.out
  obtain ⟨g0, g1, g2, g3, gl⟩ := R4.out
  go_wp2_with fail
  refine (V2.out _).mono ?_
  rintro e w3 ⟨rfl, hb3⟩
  have R5 := Lib.hid (pair_below (pair_alloc R4.out (.cells #[.int .i64 r1.1.1, .int .i64 r1.1.2] 52)) hb3)
  have R6 := Lib.hid (pair_below (pair_new w2 r1.1.1 r1.1.2 52) hb3)
  clear c0 c1 c2 c3 c4 c5 cl g0 g1 g2 g3 gl
  obtain ⟨g0, g1, g2, g3, gl⟩ := R5.out
  obtain ⟨e0, e1, e2, e3, el⟩ := R6.out
  go_wp2
  refine bodyPost_ret (v := spr ((r2.1.1, r1.1.2), 0)) (by rw [results_cell_tmp rfl]; go_simp) rfl ⟨rfl, ?_⟩
  have hB := BB.out
  (repeat' (first | exact Below.refl _ _ | refine bstep ?_ hb3 | refine bstep ?_ hb2 | refine bstep ?_ hB | refine Below.setCell ?_ (by simp <;> omega) _ | refine balloc ?_ _ | refine Below.drew ?_ | refine bdrewN ?_ _))
theorem given_any (c : P3) (i o k : Int) (t : P9) (w : World) (h : BdT 500000000 t) (g : BdP 500000000 c) : Calls Try.prog 73 #[shv c i o k, p9w t] w fun e w' => e = .returned (spr (giR c i o k t)) ∧ Below w.heap.size w w' := by
  obtain ⟨x, y, z⟩ := t
  have NN := Lib.hid (fun W => snear_any (x, y, z) c W h g)
  have FF := Lib.hid (fun W => sfar_any (x, y, z) c W h g)
  unfold giR
  by_cases h1 : farN (x, y, z) c ≤ i
  · rw [if_pos (Or.inl h1)]
    exact giv_1 c i o k x y z _ _ w NN FF h1
  by_cases h2 : o < nearN (x, y, z) c
  · rw [if_pos (Or.inr h2)]
    exact giv_2 c i o k x y z _ _ w NN FF (decide_eq_false h1) h2
  rw [if_neg (fun e => e.elim h1 h2)]
  by_cases h3 : Sp.mx (nearN (x, y, z) c) i = 0
  · rw [if_pos h3]
    exact giv_3 c i o k x y z _ _ w NN FF (decide_eq_false h1) (decide_eq_false h2) h3
  rw [if_neg h3]
  have V1 := Lib.hid (fun W => inv_any (Sp.mx (nearN (x, y, z) c) i) k W)
  by_cases h4 : nearN (x, y, z) c ≤ i
  · rw [if_pos (Or.inl h4)]
    exact giv_4 c i o k x y z _ _ w NN FF _ _ (decide_eq_false h1) (decide_eq_false h2) (beq_eq_false_iff_ne.2 h3) rfl V1 h4
  by_cases h5 : o < farN (x, y, z) c
  · rw [if_pos (Or.inr h5)]
    exact giv_5 c i o k x y z _ _ w NN FF _ _ (decide_eq_false h1) (decide_eq_false h2) (beq_eq_false_iff_ne.2 h3) rfl V1 (decide_eq_false h4) h5
  rw [if_neg (fun e => e.elim h4 h5)]
  exact giv_6 c i o k x y z _ _ w NN FF _ _ _ (decide_eq_false h1) (decide_eq_false h2) (beq_eq_false_iff_ne.2 h3) rfl V1 (Lib.hid fun W => inv_any (farN (x, y, z) c) k W) (decide_eq_false h4) (decide_eq_false h5)

end Go.Proofs.Ytlegalibjkeccaa
