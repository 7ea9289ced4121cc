/-
  The contracts of SolidAngle, in the program and in the document's answer.
  The contracts of SolidAngle: the walks.
-/
import Derived.Test.YtjigcgpcglfjfaaFgMe
import Derived.Deep.RegionHeld3
namespace Go.Proofs.Ytjigcgpcglfjfaa
open Go.ChangeShapes Go.WideShapes Go.RowKit
open Sh
/-- the height of a point over a panel -/
def hgt (t : P9) (x : P3) : Int := dot (sub t.1 x) (vec (sub t.2.1 x) (sub t.2.2 x))
theorem hgt_nrm (t : P9) (x : P3) : dot (sub t.1 x) (nrm t.1 t.2.1 t.2.2) = hgt t x := by
  obtain ⟨⟨a1, a2, a3⟩, ⟨b1, b2, b3⟩, c1, c2, c3⟩ := t
  obtain ⟨x1, x2, x3⟩ := x
  simp only [hgt, dot, nrm, vec, sub]
  grind
def angR (m : Sp.R) (h : Int) : Sp.R := if m.2 = 0 then (if (scaleR m.1.1 m.1.2 h).2 = 0 then partR (scaleR m.1.1 m.1.2 h).1.1 (scaleR m.1.1 m.1.2 h).1.2 2 else ((0, 0), (scaleR m.1.1 m.1.2 h).2)) else ((0, 0), m.2)
def angF (t : P9) (x : P3) (D : Int) : Sp.R := angR (meF true t x D) (hgt t x)
/-- a panel and two points in memory -/
def Pxn (W : World) (q y z : Nat) (t : P9) (x n : P3) : Prop := Pan W q t.1 t.2.1 t.2.2 ∧ Own W y x ∧ Own W z n
theorem pxn_below {W W' : World} {q y z : Nat} {t : P9} {x n : P3} (h : Pxn W q y z t x n) (hb : Below W.heap.size W W') : Pxn W' q y z t x n := ⟨pan_below h.1 hb, own_below h.2.1 hb, own_below h.2.2 hb⟩
theorem pxn_drew {W : World} {q y z : Nat} {t : P9} {x n : P3} (h : Pxn W q y z t x n) : Pxn W.drew q y z t x n := h
theorem pxn_cells {W : World} {q y z : Nat} {t : P9} {x n : P3} (h : Pxn W q y z t x n) : W.cell? ⟨q, 0, none⟩ = some (.int .i64 t.1.1) ∧ W.cell? ⟨q, 1, none⟩ = some (.int .i64 t.1.2.1) ∧ W.cell? ⟨q, 2, none⟩ = some (.int .i64 t.1.2.2) ∧ W.cell? ⟨y, 0, none⟩ = some (.int .i64 x.1) ∧ W.cell? ⟨y, 1, none⟩ = some (.int .i64 x.2.1) ∧ W.cell? ⟨y, 2, none⟩ = some (.int .i64 x.2.2) ∧ W.cell? ⟨z, 0, none⟩ = some (.int .i64 n.1) ∧ W.cell? ⟨z, 1, none⟩ = some (.int .i64 n.2.1) ∧ W.cell? ⟨z, 2, none⟩ = some (.int .i64 n.2.2) :=
  ⟨h.1.1, h.1.2.1, h.1.2.2.1, h.2.1.1, h.2.1.2.1, h.2.1.2.2.1, h.2.2.1, h.2.2.2.1, h.2.2.2.2.1⟩
theorem pax_cells {W : World} {q y : Nat} {t : P9} {x : P3} (h : Pan W q t.1 t.2.1 t.2.2 ∧ Own W y x) : W.cell? ⟨q, 0, none⟩ = some (.int .i64 t.1.1) ∧ W.cell? ⟨q, 1, none⟩ = some (.int .i64 t.1.2.1) ∧ W.cell? ⟨q, 2, none⟩ = some (.int .i64 t.1.2.2) ∧ W.cell? ⟨q, 3, none⟩ = some (.int .i64 t.2.1.1) ∧ W.cell? ⟨q, 4, none⟩ = some (.int .i64 t.2.1.2.1) ∧ W.cell? ⟨q, 5, none⟩ = some (.int .i64 t.2.1.2.2) ∧ W.cell? ⟨q, 6, none⟩ = some (.int .i64 t.2.2.1) ∧ W.cell? ⟨q, 7, none⟩ = some (.int .i64 t.2.2.2.1) ∧ W.cell? ⟨q, 8, none⟩ = some (.int .i64 t.2.2.2.2) ∧ W.cell? ⟨y, 0, none⟩ = some (.int .i64 x.1) ∧ W.cell? ⟨y, 1, none⟩ = some (.int .i64 x.2.1) ∧ W.cell? ⟨y, 2, none⟩ = some (.int .i64 x.2.2) :=
  ⟨h.1.1, h.1.2.1, h.1.2.2.1, h.1.2.2.2.1, h.1.2.2.2.2.1, h.1.2.2.2.2.2.1, h.1.2.2.2.2.2.2.1, h.1.2.2.2.2.2.2.2.1, h.1.2.2.2.2.2.2.2.2.1, h.2.1, h.2.2.1, h.2.2.2.1⟩
theorem pax_below {W W' : World} {q y : Nat} {t : P9} {x : P3} (h : Pan W q t.1 t.2.1 t.2.2 ∧ Own W y x) (hb : Below W.heap.size W W') : Pan W' q t.1 t.2.1 t.2.2 ∧ Own W' y x := ⟨pan_below h.1 hb, own_below h.2 hb⟩
theorem bd320 {a x : P3} (h : BdP 64 a) (k : BdP 256 x) : BdP 320 (sub a x) := by
  obtain ⟨a1, a2, a3, a4, a5, a6⟩ := h
  obtain ⟨b1, b2, b3, b4, b5, b6⟩ := k
  simp only [BdP, sub]
  omega
theorem vec_bd320 {a b : P3} (h : BdP 320 a) (k : BdP 320 b) : BdP 204800 (vec a b) := by
  obtain ⟨a1, a2, a3, a4, a5, a6⟩ := h
  obtain ⟨b1, b2, b3, b4, b5, b6⟩ := k
  have x1 := mul_bd a3 a4 b5 b6
  have x2 := mul_bd a5 a6 b3 b4
  have y1 := mul_bd a5 a6 b1 b2
  have y2 := mul_bd a1 a2 b5 b6
  have z1 := mul_bd a1 a2 b3 b4
  have z2 := mul_bd a3 a4 b1 b2
  simp only [BdP, vec]
  omega
theorem pw_bd320 {a b : P3} (h : BdP 320 a) (k : BdP 204800 b) : BdP 1152921504606846976 (pw a b) := by
  obtain ⟨a1, a2, a3, a4, a5, a6⟩ := h
  obtain ⟨b1, b2, b3, b4, b5, b6⟩ := k
  have x1 := mul_bd a1 a2 b1 b2
  have x2 := mul_bd a3 a4 b3 b4
  have x3 := mul_bd a5 a6 b5 b6
  simp only [BdP, pw]
  omega
theorem nrm_bd {a b c : P3} (h : BdP 64 a) (k : BdP 64 b) (l : BdP 64 c) : BdP 204800 (nrm a b c) := vec_bd320 (bd320 k (h.mono (by decide))) (bd320 l (h.mono (by decide)))
set_option maxRecDepth 100000 in
set_option maxHeartbeats 2000000 in
theorem hgt_any (t : P9) (x : P3) (w : World) (h : BdT 64 t) (k : BdP 256 x) : Calls Try.prog 59 #[p9v t, ptv x] w fun e w' => e = .returned (.int .i64 (hgt t x)) ∧ Below w.heap.size w w' := by
  have u1 := bd320 h.1 k
  have u2 := bd320 h.2.1 k
  have u3 := bd320 h.2.2 k
  have MA := Lib.hid (fun W => rminus_any t.1 x W (u1.mono (by decide)))
  have MB := Lib.hid (fun W => rminus_any t.2.1 x W (u2.mono (by decide)))
  have MC := Lib.hid (fun W => rminus_any t.2.2 x W (u3.mono (by decide)))
  have CC := Lib.hid (fun W => cross_any (sub t.2.1 x) (sub t.2.2 x) W (u2.mono (by decide)) (u3.mono (by decide)))
  have DD := Lib.hid (fun W => rdot_any (sub t.1 x) (vec (sub t.2.1 x) (sub t.2.2 x)) W (pw_bd320 u1 (vec_bd320 u2 u3)))
  have HH := Lib.hid (show hgt t x = dot (sub t.1 x) (vec (sub t.2.1 x) (sub t.2.2 x)) from rfl)
  rw [HH.out]
  clear u1 u2 u3 h k HH
  have i0 : Pan ((w.alloc (pnc t.1 t.2.1 t.2.2 25)).alloc (ptc x 23)) w.heap.size t.1 t.2.1 t.2.2 ∧ Own ((w.alloc (pnc t.1 t.2.1 t.2.2 25)).alloc (ptc x 23)) (w.heap.size + 1) x := by
    have a := pan_alloc (pan_new w t.1 t.2.1 t.2.2 25) (ptc x 23)
    have b := own_new (w.alloc (pnc t.1 t.2.1 t.2.2 25)) x 23
    simp only [World.size_alloc] at b
    exact ⟨a, b⟩
  have b0 : Below w.heap.size w ((w.alloc (pnc t.1 t.2.1 t.2.2 25)).alloc (ptc x 23)) := by (repeat' (first | exact Below.refl _ _ | refine Below.setCell ?_ (by simp <;> omega) _ | refine balloc ?_ _ | refine Below.drew ?_ | refine bdrewN ?_ _))
  have j0 := Lib.hid (show Below w.heap.size w ((w.alloc (pnc t.1 t.2.1 t.2.2 25)).alloc (ptc x 23)).drew from Below.drew b0)
  have i1 : Pan ((w.alloc (pnc t.1 t.2.1 t.2.2 25)).alloc (ptc x 23)).drew w.heap.size t.1 t.2.1 t.2.2 ∧ Own ((w.alloc (pnc t.1 t.2.1 t.2.2 25)).alloc (ptc x 23)).drew (w.heap.size + 1) x := i0
  clear i0 b0
  go_enter Try.func59, Try.ntmps59
  go_wp2_with fail
  go_region_held3 (fun w' => w'.cell? ⟨w.heap.size, 0, none⟩ = some (.int .i64 t.1.1) ∧ w'.cell? ⟨w.heap.size, 1, none⟩ = some (.int .i64 t.1.2.1) ∧ w'.cell? ⟨w.heap.size, 2, none⟩ = some (.int .i64 t.1.2.2) ∧ w'.cell? ⟨w.heap.size, 3, none⟩ = some (.int .i64 t.2.1.1) ∧ w'.cell? ⟨w.heap.size, 4, none⟩ = some (.int .i64 t.2.1.2.1) ∧ w'.cell? ⟨w.heap.size, 5, none⟩ = some (.int .i64 t.2.1.2.2) ∧ w'.cell? ⟨w.heap.size, 6, none⟩ = some (.int .i64 t.2.2.1) ∧ w'.cell? ⟨w.heap.size, 7, none⟩ = some (.int .i64 t.2.2.2.1) ∧ w'.cell? ⟨w.heap.size, 8, none⟩ = some (.int .i64 t.2.2.2.2) ∧ w'.cell? ⟨w.heap.size + 1, 0, none⟩ = some (.int .i64 x.1) ∧ w'.cell? ⟨w.heap.size + 1, 1, none⟩ = some (.int .i64 x.2.1) ∧ w'.cell? ⟨w.heap.size + 1, 2, none⟩ = some (.int .i64 x.2.2))
    (first | (refine pax_cells i1) | (refine pax_cells q1) | (refine pax_cells q2) | (refine pax_cells q3) | (refine pax_cells q4) | (refine pax_cells q5) | fail)
    (first | (go_at_call 127; (with_reducible refine (MA.out _).mono ?_); rintro e v1 ⟨rfl, hv1⟩; have q1 := pax_below i1 hv1; have j1 := Lib.hid (bstep j0.out hv1)) | (go_at_call 127; (with_reducible refine (MB.out _).mono ?_); rintro e v2 ⟨rfl, hv2⟩; have q2 := pax_below q1 hv2; have j2 := Lib.hid (bstep j1.out hv2)) | (go_at_call 127; (with_reducible refine (MC.out _).mono ?_); rintro e v3 ⟨rfl, hv3⟩; have q3 := pax_below q2 hv3; have j3 := Lib.hid (bstep j2.out hv3)) | (go_at_call 128; (with_reducible refine (CC.out _).mono ?_); rintro e v4 ⟨rfl, hv4⟩; have q4 := pax_below q3 hv4; have j4 := Lib.hid (bstep j3.out hv4)) | (go_at_call 126; (with_reducible refine (DD.out _).mono ?_); rintro e v5 ⟨rfl, hv5⟩; have q5 := pax_below q4 hv5; have j5 := Lib.hid (bstep j4.out hv5)) | fail)
  all_goals
    go_wp2
    go_ret
    exact ⟨rfl, j5.out⟩
def rsgOps : Array Oper := #[{ dst := some 23, op := Op.load 35 (Operand.tmp 8), type := 35, pos := "ref.go:162", after := #[], guard := none }, { dst := some 24, op := Op.load 25 (Operand.tmp 3), type := 25, pos := "ref.go:162", after := #[], guard := none }, { dst := some 25, op := Op.load 23 (Operand.tmp 4), type := 23, pos := "ref.go:162", after := #[], guard := none }, { dst := some 26, op := Op.call { callee := Callee.value (Operand.func 59), args := #[Operand.tmp 24, Operand.tmp 25], argTypes := #[25, 23] }, type := 3, pos := "ref.go:162", after := #[{ on := 1, ground := Ground.data }, { on := 2, ground := Ground.data }], guard := none }, { dst := some 27, op := Op.call { callee := Callee.value (Operand.func 58), args := #[Operand.tmp 23, Operand.tmp 26], argTypes := #[35, 3] }, type := 36, pos := "ref.go:162", after := #[{ on := 0, ground := Ground.data }, { on := 3, ground := Ground.data }, { on := 3, ground := Ground.chain }], guard := none }, { dst := some 22, op := Op.move (Operand.tmp 27), type := 36, pos := "ref.go:162", after := #[{ on := 4, ground := Ground.data }], guard := none }, { dst := some 28, op := Op.extract (Operand.tmp 22) 0, type := 35, pos := "ref.go:162", after := #[{ on := 5, ground := Ground.data }], guard := none }, { dst := some 29, op := Op.extract (Operand.tmp 22) 1, type := 27, pos := "ref.go:162", after := #[{ on := 5, ground := Ground.data }, { on := 9, ground := Ground.gcOnly Departure.lateStores }], guard := none }, { dst := some 10, op := Op.alloc 35, type := 0, pos := "ref.go:162", after := #[], guard := none }, { dst := none, op := Op.store 35 (Operand.tmp 10) (Operand.tmp 28), type := 0, pos := "ref.go:162", after := #[{ on := 8, ground := Ground.data }, { on := 6, ground := Ground.data }, { on := 4, ground := Ground.chain }, { on := 0, ground := Ground.phase }, { on := 1, ground := Ground.phase }, { on := 2, ground := Ground.phase }, { on := 3, ground := Ground.phase }, { on := 4, ground := Ground.phase }, { on := 5, ground := Ground.phase }, { on := 6, ground := Ground.phase }, { on := 7, ground := Ground.textOnly Departure.lateStores }, { on := 8, ground := Ground.phase }], guard := none }, { dst := some 9, op := Op.assign (Operand.tmp 29), type := 27, pos := "ref.go:162", after := #[{ on := 7, ground := Ground.data }, { on := 9, ground := Ground.chain }, { on := 0, ground := Ground.phase }, { on := 1, ground := Ground.phase }, { on := 2, ground := Ground.phase }, { on := 3, ground := Ground.phase }, { on := 4, ground := Ground.phase }, { on := 5, ground := Ground.phase }, { on := 6, ground := Ground.phase }, { on := 7, ground := Ground.phase }, { on := 8, ground := Ground.phase }, { on := 9, ground := Ground.phase }], guard := none }]
def rsgT (q : Nat) (y : Nat) (z : Nat) (y0 y1 y2 y5 y6 y7 y11 y12 y13 y14 y15 y16 y17 y18 y19 y20 y21 y30 y31 y32 y33 y34 y35 y36 y37 : Value) (X : Nat → Value) : Array Value := #[y0, y1, y2, .pointer (some ⟨q, 0, none⟩), .pointer (some ⟨y, 0, none⟩), y5, y6, y7, .pointer (some ⟨z, 0, none⟩), X 9, X 10, y11, y12, y13, y14, y15, y16, y17, y18, y19, y20, y21, X 22, X 23, X 24, X 25, X 26, X 27, X 28, X 29, y30, y31, y32, y33, y34, y35, y36, y37]
theorem rsgT_eq (q : Nat) (y : Nat) (z : Nat) (y0 y1 y2 y5 y6 y7 y11 y12 y13 y14 y15 y16 y17 y18 y19 y20 y21 y30 y31 y32 y33 y34 y35 y36 y37 : Value) (X : Nat → Value) : rsgT q y z y0 y1 y2 y5 y6 y7 y11 y12 y13 y14 y15 y16 y17 y18 y19 y20 y21 y30 y31 y32 y33 y34 y35 y36 y37 X = #[y0, y1, y2, .pointer (some ⟨q, 0, none⟩), .pointer (some ⟨y, 0, none⟩), y5, y6, y7, .pointer (some ⟨z, 0, none⟩), X 9, X 10, y11, y12, y13, y14, y15, y16, y17, y18, y19, y20, y21, X 22, X 23, X 24, X 25, X 26, X 27, X 28, X 29, y30, y31, y32, y33, y34, y35, y36, y37] := rfl
def rsgI (G : World → Prop) (N : Nat) (q y z : Nat) (t : P9) (x : P3) (m r : Sp.R) (h : Int) (y0 y1 y2 y5 y6 y7 y11 y12 y13 y14 y15 y16 y17 y18 y19 y20 y21 y30 y31 y32 y33 y34 y35 y36 y37 : Value) (l : Array Bool) (A : Act) (W : World) : Prop :=
  l.size = 11 ∧ ∃ X : Nat → Value, A = { tmps := rsgT q y z y0 y1 y2 y5 y6 y7 y11 y12 y13 y14 y15 y16 y17 y18 y19 y20 y21 y30 y31 y32 y33 y34 y35 y36 y37 X, defers := [] } ∧ N ≤ W.heap.size ∧ G W ∧ PV l 0 (X 23) (.agg #[.int .i64 m.1.1, .int .i64 m.1.2]) ∧ PV l 1 (X 24) (p9v t) ∧ PV l 2 (X 25) (ptv x) ∧ PV l 3 (X 26) (.int .i64 h) ∧ PV l 4 (X 27) (spr r) ∧ PV l 5 (X 22) (spr r) ∧ PV l 6 (X 28) (.agg #[.int .i64 r.1.1, .int .i64 r.1.2]) ∧ PV l 7 (X 29) (.int .i64 r.2) ∧ PV l 10 (X 9) (.int .i64 r.2) ∧ QX OwP l W (X 10) 8 9 N (r.1)
set_option maxRecDepth 100000 in
set_option maxHeartbeats 4000000 in
theorem rsg_steps (G : World → Prop) (N : Nat) (q y z : Nat) (t : P9) (x : P3) (m r : Sp.R) (h : Int) (y0 y1 y2 y5 y6 y7 y11 y12 y13 y14 y15 y16 y17 y18 y19 y20 y21 y30 y31 y32 y33 y34 y35 y36 y37 : Value) (Q : Exit → Act → World → Prop) (HC : Hid (∀ W, Calls Try.prog 59 #[p9v t, ptv x] W fun e w' => e = .returned (.int .i64 h) ∧ Below W.heap.size W w')) (SC : Hid (∀ W, Calls Try.prog 58 #[spv m.1.1 m.1.2, .int .i64 h] W fun e w' => e = .returned (spr r) ∧ Below W.heap.size W w')) (GC : Hid (∀ W : World, G W → W.cell? ⟨z, 0, none⟩ = some (.int .i64 m.1.1) ∧ W.cell? ⟨z, 1, none⟩ = some (.int .i64 m.1.2) ∧ W.cell? ⟨q, 0, none⟩ = some (.int .i64 t.1.1) ∧ W.cell? ⟨q, 1, none⟩ = some (.int .i64 t.1.2.1) ∧ W.cell? ⟨q, 2, none⟩ = some (.int .i64 t.1.2.2) ∧ W.cell? ⟨q, 3, none⟩ = some (.int .i64 t.2.1.1) ∧ W.cell? ⟨q, 4, none⟩ = some (.int .i64 t.2.1.2.1) ∧ W.cell? ⟨q, 5, none⟩ = some (.int .i64 t.2.1.2.2) ∧ W.cell? ⟨q, 6, none⟩ = some (.int .i64 t.2.2.1) ∧ W.cell? ⟨q, 7, none⟩ = some (.int .i64 t.2.2.2.1) ∧ W.cell? ⟨q, 8, none⟩ = some (.int .i64 t.2.2.2.2) ∧ W.cell? ⟨y, 0, none⟩ = some (.int .i64 x.1) ∧ W.cell? ⟨y, 1, none⟩ = some (.int .i64 x.2.1) ∧ W.cell? ⟨y, 2, none⟩ = some (.int .i64 x.2.2))) (GI : Hid (∀ W W' : World, Below N W W' → G W → G W')) :
    allOps (fun i o => ∀ (l : Array Bool) (A : Act) (W : World), rsgI G N q y z t x m r h y0 y1 y2 y5 y6 y7 y11 y12 y13 y14 y15 y16 y17 y18 y19 y20 y21 y30 y31 y32 y33 y34 y35 y36 y37 l A W → l.getD i true = false → (∀ e ∈ o.after, Region.binds .any e = true → l.getD e.on false = true) → ∀ K' : Act → World → Prop, (∀ A' W', rsgI G N q y z t x m r h y0 y1 y2 y5 y6 y7 y11 y12 y13 y14 y15 y16 y17 y18 y19 y20 y21 y30 y31 y32 y33 y34 y35 y36 y37 (l.setIfInBounds i true) A' W' → K' A' W') → if Region.wanted o (yielded rsgOps A.tmps) = true then Oper.wp Try.prog o A W K' Q else K' (A.put o.dst undef) W) 0 rsgOps.toList := by
  simp only [rsgOps, allOps]
  refine ⟨?_, ?_, ?_, ?_, ?_, ?_, ?_, ?_, ?_, ?_, ?_, trivial⟩
  · rintro l A W ⟨hl, X, rfl, hN, g, F⟩ h1 hp K hK
    obtain ⟨m0, m1, c0, c1, c2, c3, c4, c5, c6, c7, c8, o0, o1, o2⟩ := GC.out W g
    rw [rsgT_eq]
    have g' := Lib.hid g
    have F' := Lib.hid F; clear F g
    have hN' := Lib.hid hN; clear hN; have hl' := Lib.hid hl; clear hl; have h1' := Lib.hid h1; clear h1; have hp' := Lib.hid hp; clear hp; have hK' := Lib.hid hK; clear hK
    go_simp
    have hK := hK'.out; have hN := hN'.out; have hl := hl'.out; have h1 := h1'.out
    obtain ⟨p0, p1, p2, p3, p4, p5, p6, p7, p10, qa0⟩ := F'.out
    have g := g'.out
    refine hK _ _ ⟨by simpa using hl, (upd X 23 (.agg #[.int .i64 m.1.1, .int .i64 m.1.2])), rfl, hN, g, PV.made rfl, p1.k, p2.k, p3.k, p4.k, p5.k, p6.k, p7.k, p10.k, qa0.keep (by decide) (by decide) (fun _ _ h => h)⟩
  · rintro l A W ⟨hl, X, rfl, hN, g, F⟩ h1 hp K hK
    obtain ⟨m0, m1, c0, c1, c2, c3, c4, c5, c6, c7, c8, o0, o1, o2⟩ := GC.out W g
    rw [rsgT_eq]
    have g' := Lib.hid g
    have F' := Lib.hid F; clear F g
    have hN' := Lib.hid hN; clear hN; have hl' := Lib.hid hl; clear hl; have h1' := Lib.hid h1; clear h1; have hp' := Lib.hid hp; clear hp; have hK' := Lib.hid hK; clear hK
    go_simp
    have hK := hK'.out; have hN := hN'.out; have hl := hl'.out; have h1 := h1'.out
    obtain ⟨p0, p1, p2, p3, p4, p5, p6, p7, p10, qa0⟩ := F'.out
    have g := g'.out
    refine hK _ _ ⟨by simpa using hl, (upd X 24 (p9v t)), rfl, hN, g, p0.k, PV.made rfl, p2.k, p3.k, p4.k, p5.k, p6.k, p7.k, p10.k, qa0.keep (by decide) (by decide) (fun _ _ h => h)⟩
  · rintro l A W ⟨hl, X, rfl, hN, g, F⟩ h1 hp K hK
    obtain ⟨m0, m1, c0, c1, c2, c3, c4, c5, c6, c7, c8, o0, o1, o2⟩ := GC.out W g
    rw [rsgT_eq]
    have g' := Lib.hid g
    have F' := Lib.hid F; clear F g
    have hN' := Lib.hid hN; clear hN; have hl' := Lib.hid hl; clear hl; have h1' := Lib.hid h1; clear h1; have hp' := Lib.hid hp; clear hp; have hK' := Lib.hid hK; clear hK
    go_simp
    have hK := hK'.out; have hN := hN'.out; have hl := hl'.out; have h1 := h1'.out
    obtain ⟨p0, p1, p2, p3, p4, p5, p6, p7, p10, qa0⟩ := F'.out
    have g := g'.out
    refine hK _ _ ⟨by simpa using hl, (upd X 25 (ptv x)), rfl, hN, g, p0.k, p1.k, PV.made rfl, p3.k, p4.k, p5.k, p6.k, p7.k, p10.k, qa0.keep (by decide) (by decide) (fun _ _ h => h)⟩
  · rintro l A W ⟨hl, X, rfl, hN, g, F⟩ h1 hp K hK
    have e1 := F.2.1 (hp ⟨1, .data⟩ (by simp) rfl)
    have e2 := F.2.2.1 (hp ⟨2, .data⟩ (by simp) rfl)
    rw [rsgT_eq]
    have g' := Lib.hid g
    have F' := Lib.hid F; clear F g
    have hN' := Lib.hid hN; clear hN; have hl' := Lib.hid hl; clear hl; have h1' := Lib.hid h1; clear h1; have hp' := Lib.hid hp; clear hp; have hK' := Lib.hid hK; clear hK
    go_simp
    go_at_call 59
    refine (HC.out _).mono ?_
    rintro e W1 ⟨rfl, hb⟩
    (try dsimp only)
    have hK := hK'.out; have hN := hN'.out; have hl := hl'.out; have h1 := h1'.out
    obtain ⟨p0, p1, p2, p3, p4, p5, p6, p7, p10, qa0⟩ := F'.out
    have g := g'.out
    refine hK _ _ ⟨by simpa using hl, (upd (upd (upd X 24 (p9v t)) 25 (ptv x)) 26 (.int .i64 h)), rfl, Nat.le_trans hN hb.size, GI.out _ _ (hb.mono hN) g, p0.k, PV.made rfl, PV.made rfl, PV.made rfl, p4.k, p5.k, p6.k, p7.k, p10.k, qa0.keep (by decide) (by decide) (fun _ _ h => owp_below h hb)⟩
  · rintro l A W ⟨hl, X, rfl, hN, g, F⟩ h1 hp K hK
    have e0 := F.1 (hp ⟨0, .data⟩ (by simp) rfl)
    have e3 := F.2.2.2.1 (hp ⟨3, .data⟩ (by simp) rfl)
    rw [rsgT_eq]
    have g' := Lib.hid g
    have F' := Lib.hid F; clear F g
    have hN' := Lib.hid hN; clear hN; have hl' := Lib.hid hl; clear hl; have h1' := Lib.hid h1; clear h1; have hp' := Lib.hid hp; clear hp; have hK' := Lib.hid hK; clear hK
    go_simp
    go_at_call 58
    refine (SC.out _).mono ?_
    rintro e W1 ⟨rfl, hb⟩
    (try dsimp only)
    have hK := hK'.out; have hN := hN'.out; have hl := hl'.out; have h1 := h1'.out
    obtain ⟨p0, p1, p2, p3, p4, p5, p6, p7, p10, qa0⟩ := F'.out
    have g := g'.out
    refine hK _ _ ⟨by simpa using hl, (upd (upd (upd X 23 (.agg #[.int .i64 m.1.1, .int .i64 m.1.2])) 26 (.int .i64 h)) 27 (spr r)), rfl, Nat.le_trans hN hb.size, GI.out _ _ (hb.mono hN) g, PV.made rfl, p1.k, p2.k, PV.made rfl, PV.made rfl, p5.k, p6.k, p7.k, p10.k, qa0.keep (by decide) (by decide) (fun _ _ h => owp_below h hb)⟩
  · rintro l A W ⟨hl, X, rfl, hN, g, F⟩ h1 hp K hK
    have e4 := F.2.2.2.2.1 (hp ⟨4, .data⟩ (by simp) rfl)
    rw [rsgT_eq]
    have g' := Lib.hid g
    have F' := Lib.hid F; clear F g
    have hN' := Lib.hid hN; clear hN; have hl' := Lib.hid hl; clear hl; have h1' := Lib.hid h1; clear h1; have hp' := Lib.hid hp; clear hp; have hK' := Lib.hid hK; clear hK
    go_simp
    have hK := hK'.out; have hN := hN'.out; have hl := hl'.out; have h1 := h1'.out
    obtain ⟨p0, p1, p2, p3, p4, p5, p6, p7, p10, qa0⟩ := F'.out
    have g := g'.out
    refine hK _ _ ⟨by simpa using hl, (upd (upd X 27 (spr r)) 22 (spr r)), rfl, hN, g, p0.k, p1.k, p2.k, p3.k, PV.made rfl, PV.made rfl, p6.k, p7.k, p10.k, qa0.keep (by decide) (by decide) (fun _ _ h => h)⟩
  · rintro l A W ⟨hl, X, rfl, hN, g, F⟩ h1 hp K hK
    have e5 := F.2.2.2.2.2.1 (hp ⟨5, .data⟩ (by simp) rfl)
    rw [rsgT_eq]
    have g' := Lib.hid g
    have F' := Lib.hid F; clear F g
    have hN' := Lib.hid hN; clear hN; have hl' := Lib.hid hl; clear hl; have h1' := Lib.hid h1; clear h1; have hp' := Lib.hid hp; clear hp; have hK' := Lib.hid hK; clear hK
    go_simp
    have hK := hK'.out; have hN := hN'.out; have hl := hl'.out; have h1 := h1'.out
    obtain ⟨p0, p1, p2, p3, p4, p5, p6, p7, p10, qa0⟩ := F'.out
    have g := g'.out
    refine hK _ _ ⟨by simpa using hl, (upd (upd X 22 (spr r)) 28 (.agg #[.int .i64 r.1.1, .int .i64 r.1.2])), rfl, hN, g, p0.k, p1.k, p2.k, p3.k, p4.k, PV.made rfl, PV.made rfl, p7.k, p10.k, qa0.keep (by decide) (by decide) (fun _ _ h => h)⟩
  · rintro l A W ⟨hl, X, rfl, hN, g, F⟩ h1 hp K hK
    have e5 := F.2.2.2.2.2.1 (hp ⟨5, .data⟩ (by simp) rfl)
    rw [rsgT_eq]
    have g' := Lib.hid g
    have F' := Lib.hid F; clear F g
    have hN' := Lib.hid hN; clear hN; have hl' := Lib.hid hl; clear hl; have h1' := Lib.hid h1; clear h1; have hp' := Lib.hid hp; clear hp; have hK' := Lib.hid hK; clear hK
    go_simp
    have hK := hK'.out; have hN := hN'.out; have hl := hl'.out; have h1 := h1'.out
    obtain ⟨p0, p1, p2, p3, p4, p5, p6, p7, p10, qa0⟩ := F'.out
    have g := g'.out
    refine hK _ _ ⟨by simpa using hl, (upd (upd X 22 (spr r)) 29 (.int .i64 r.2)), rfl, hN, g, p0.k, p1.k, p2.k, p3.k, p4.k, PV.made rfl, p6.k, PV.made rfl, p10.k, qa0.keep (by decide) (by decide) (fun _ _ h => h)⟩
  · rintro l A W ⟨hl, X, rfl, hN, g, F⟩ h1 hp K hK
    rw [rsgT_eq]
    have g' := Lib.hid g
    have F' := Lib.hid F; clear F g
    have hN' := Lib.hid hN; clear hN; have hl' := Lib.hid hl; clear hl; have h1' := Lib.hid h1; clear h1; have hp' := Lib.hid hp; clear hp; have hK' := Lib.hid hK; clear hK
    go_simp
    have hK := hK'.out; have hN := hN'.out; have hl := hl'.out; have h1 := h1'.out
    obtain ⟨p0, p1, p2, p3, p4, p5, p6, p7, p10, qa0⟩ := F'.out
    have g := g'.out
    refine hK _ _ ⟨by simpa using hl, (upd X 10 (.pointer (some ⟨W.heap.size, 0, none⟩))), rfl, (by simp; omega), GI.out _ _ (((Below.refl _ W).alloc (Nat.le_refl _) _).mono hN) g, p0.k, p1.k, p2.k, p3.k, p4.k, p5.k, p6.k, p7.k, p10.k, qa0.made (by decide) (by rw [hl]; decide) h1 hN (owp_new W (0, 0) _)⟩
  · rintro l A W ⟨hl, X, rfl, hN, g, F⟩ h1 hp K hK
    have la := hp ⟨8, .data⟩ (by simp) rfl
    have e6 := F.2.2.2.2.2.2.1 (hp ⟨6, .data⟩ (by simp) rfl)
    obtain ⟨b', v', e2, hb', ow, _⟩ := F.2.2.2.2.2.2.2.2.2.2 la
    obtain ⟨o0, o1, o2, o3, o4⟩ := id ow
    rw [rsgT_eq]
    have g' := Lib.hid g
    have F' := Lib.hid F; clear F g
    have hN' := Lib.hid hN; clear hN; have hl' := Lib.hid hl; clear hl; have h1' := Lib.hid h1; clear h1; have hp' := Lib.hid hp; clear hp; have hK' := Lib.hid hK; clear hK
    have la' := Lib.hid la; clear la; have hb'' := Lib.hid hb'; clear hb'; have ow' := Lib.hid ow; clear ow
    go_simp
    have hK := hK'.out; have hN := hN'.out; have hl := hl'.out; have h1 := h1'.out
    obtain ⟨p0, p1, p2, p3, p4, p5, p6, p7, p10, qa0⟩ := F'.out
    have g := g'.out
    have la := la'.out; have hb' := hb''.out; have ow := ow'.out
    refine hK _ _ ⟨by simpa using hl, (upd (upd X 28 (.agg #[.int .i64 r.1.1, .int .i64 r.1.2])) 10 (.pointer (some ⟨b', 0, none⟩))), rfl, (by simpa using hN), GI.out _ _ (below_set2 _ _ hb') g, p0.k, p1.k, p2.k, p3.k, p4.k, p5.k, PV.made rfl, p7.k, p10.k, QX.put (by decide) la rfl hb' (owp_put ow r.1)⟩
  · rintro l A W ⟨hl, X, rfl, hN, g, F⟩ h1 hp K hK
    have e7 := F.2.2.2.2.2.2.2.1 (hp ⟨7, .data⟩ (by simp) rfl)
    rw [rsgT_eq]
    have g' := Lib.hid g
    have F' := Lib.hid F; clear F g
    have hN' := Lib.hid hN; clear hN; have hl' := Lib.hid hl; clear hl; have h1' := Lib.hid h1; clear h1; have hp' := Lib.hid hp; clear hp; have hK' := Lib.hid hK; clear hK
    go_simp
    have hK := hK'.out; have hN := hN'.out; have hl := hl'.out; have h1 := h1'.out
    obtain ⟨p0, p1, p2, p3, p4, p5, p6, p7, p10, qa0⟩ := F'.out
    have g := g'.out
    refine hK _ _ ⟨by simpa using hl, (upd (upd X 29 (.int .i64 r.2)) 9 (.int .i64 r.2)), rfl, hN, g, p0.k, p1.k, p2.k, p3.k, p4.k, p5.k, p6.k, PV.made rfl, PV.made rfl, qa0.keep (by decide) (by decide) (fun _ _ h => h)⟩
set_option maxRecDepth 100000 in
set_option maxHeartbeats 4000000 in
theorem rsg_reg (G : World → Prop) (N : Nat) (q y z : Nat) (t : P9) (x : P3) (m r : Sp.R) (h : Int) {y0 y1 y2 y5 y6 y7 y11 y12 y13 y14 y15 y16 y17 y18 y19 y20 y21 y30 y31 y32 y33 y34 y35 y36 y37 x9 x10 x22 x23 x24 x25 x26 x27 x28 x29 : Value} {W : World} {Q : Exit → Act → World → Prop} (HC : Hid (∀ W, Calls Try.prog 59 #[p9v t, ptv x] W fun e w' => e = .returned (.int .i64 h) ∧ Below W.heap.size W w')) (SC : Hid (∀ W, Calls Try.prog 58 #[spv m.1.1 m.1.2, .int .i64 h] W fun e w' => e = .returned (spr r) ∧ Below W.heap.size W w')) (GC : Hid (∀ W : World, G W → W.cell? ⟨z, 0, none⟩ = some (.int .i64 m.1.1) ∧ W.cell? ⟨z, 1, none⟩ = some (.int .i64 m.1.2) ∧ W.cell? ⟨q, 0, none⟩ = some (.int .i64 t.1.1) ∧ W.cell? ⟨q, 1, none⟩ = some (.int .i64 t.1.2.1) ∧ W.cell? ⟨q, 2, none⟩ = some (.int .i64 t.1.2.2) ∧ W.cell? ⟨q, 3, none⟩ = some (.int .i64 t.2.1.1) ∧ W.cell? ⟨q, 4, none⟩ = some (.int .i64 t.2.1.2.1) ∧ W.cell? ⟨q, 5, none⟩ = some (.int .i64 t.2.1.2.2) ∧ W.cell? ⟨q, 6, none⟩ = some (.int .i64 t.2.2.1) ∧ W.cell? ⟨q, 7, none⟩ = some (.int .i64 t.2.2.2.1) ∧ W.cell? ⟨q, 8, none⟩ = some (.int .i64 t.2.2.2.2) ∧ W.cell? ⟨y, 0, none⟩ = some (.int .i64 x.1) ∧ W.cell? ⟨y, 1, none⟩ = some (.int .i64 x.2.1) ∧ W.cell? ⟨y, 2, none⟩ = some (.int .i64 x.2.2))) (GI : Hid (∀ W W' : World, Below N W W' → G W → G W')) (hN : N ≤ W.heap.size) (g0 : G W.drew)
    (hK : ∀ (x22 x23 x24 x25 x26 x27 x28 x29 : Value) (b0 : Nat) (W' : World), N ≤ W'.heap.size → G W' → N ≤ b0 → OwP W' b0 (r.1) → Q .normal { tmps := #[y0, y1, y2, .pointer (some ⟨q, 0, none⟩), .pointer (some ⟨y, 0, none⟩), y5, y6, y7, .pointer (some ⟨z, 0, none⟩), .int .i64 r.2, .pointer (some ⟨b0, 0, none⟩), y11, y12, y13, y14, y15, y16, y17, y18, y19, y20, y21, x22, x23, x24, x25, x26, x27, x28, x29, y30, y31, y32, y33, y34, y35, y36, y37], defers := [] } W') :
    Code.wp Try.prog (.region 4 rsgOps true) Q { tmps := #[y0, y1, y2, .pointer (some ⟨q, 0, none⟩), .pointer (some ⟨y, 0, none⟩), y5, y6, y7, .pointer (some ⟨z, 0, none⟩), x9, x10, y11, y12, y13, y14, y15, y16, y17, y18, y19, y20, y21, x22, x23, x24, x25, x26, x27, x28, x29, y30, y31, y32, y33, y34, y35, y36, y37], defers := [] } W := by
  refine wp_region_inv (rsgI G N q y z t x m r h y0 y1 y2 y5 y6 y7 y11 y12 y13 y14 y15 y16 y17 y18 y19 y20 y21 y30 y31 y32 y33 y34 y35 y36 y37) (by kernel_rfl) ?_ (rsg_steps G N q y z t x m r h y0 y1 y2 y5 y6 y7 y11 y12 y13 y14 y15 y16 y17 y18 y19 y20 y21 y30 y31 y32 y33 y34 y35 y36 y37 Q HC SC GC GI) ?_
  · exact ⟨by simp [rsgOps], fun i => (#[undef, undef, undef, undef, undef, undef, undef, undef, undef, x9, x10, undef, undef, undef, undef, undef, undef, undef, undef, undef, undef, undef, x22, x23, x24, x25, x26, x27, x28, x29, undef, undef, undef, undef, undef, undef, undef, undef] : Array Value).getD i undef, rfl, hN, g0, PV.nought, PV.nought, PV.nought, PV.nought, PV.nought, PV.nought, PV.nought, PV.nought, PV.nought, QX.nought⟩
  · rintro l A W ⟨hl, X, rfl, hN, g, p0, p1, p2, p3, p4, p5, p6, p7, p10, qa0⟩ hr
    unfold rsgOps at hr
    have l0 := ready_end hr 0 (by rw [hl]; decide) rfl (fun e he hbn => by
      simp at he
      (try (repeat (rcases he with rfl | he; · first | assumption | exact absurd hbn (by decide))))
      (try (first | exact he.elim | (subst he; first | assumption | exact absurd hbn (by decide)))))
    have l1 := ready_end hr 1 (by rw [hl]; decide) rfl (fun e he hbn => by
      simp at he
      (try (repeat (rcases he with rfl | he; · first | assumption | exact absurd hbn (by decide))))
      (try (first | exact he.elim | (subst he; first | assumption | exact absurd hbn (by decide)))))
    have l2 := ready_end hr 2 (by rw [hl]; decide) rfl (fun e he hbn => by
      simp at he
      (try (repeat (rcases he with rfl | he; · first | assumption | exact absurd hbn (by decide))))
      (try (first | exact he.elim | (subst he; first | assumption | exact absurd hbn (by decide)))))
    have l3 := ready_end hr 3 (by rw [hl]; decide) rfl (fun e he hbn => by
      simp at he
      (try (repeat (rcases he with rfl | he; · first | assumption | exact absurd hbn (by decide))))
      (try (first | exact he.elim | (subst he; first | assumption | exact absurd hbn (by decide)))))
    have l4 := ready_end hr 4 (by rw [hl]; decide) rfl (fun e he hbn => by
      simp at he
      (try (repeat (rcases he with rfl | he; · first | assumption | exact absurd hbn (by decide))))
      (try (first | exact he.elim | (subst he; first | assumption | exact absurd hbn (by decide)))))
    have l5 := ready_end hr 5 (by rw [hl]; decide) rfl (fun e he hbn => by
      simp at he
      (try (repeat (rcases he with rfl | he; · first | assumption | exact absurd hbn (by decide))))
      (try (first | exact he.elim | (subst he; first | assumption | exact absurd hbn (by decide)))))
    have l6 := ready_end hr 6 (by rw [hl]; decide) rfl (fun e he hbn => by
      simp at he
      (try (repeat (rcases he with rfl | he; · first | assumption | exact absurd hbn (by decide))))
      (try (first | exact he.elim | (subst he; first | assumption | exact absurd hbn (by decide)))))
    have l7 := ready_end hr 7 (by rw [hl]; decide) rfl (fun e he hbn => by
      simp at he
      (try (repeat (rcases he with rfl | he; · first | assumption | exact absurd hbn (by decide))))
      (try (first | exact he.elim | (subst he; first | assumption | exact absurd hbn (by decide)))))
    have l8 := ready_end hr 8 (by rw [hl]; decide) rfl (fun e he hbn => by
      simp at he
      (try (repeat (rcases he with rfl | he; · first | assumption | exact absurd hbn (by decide))))
      (try (first | exact he.elim | (subst he; first | assumption | exact absurd hbn (by decide)))))
    have l9 := ready_end hr 9 (by rw [hl]; decide) rfl (fun e he hbn => by
      simp at he
      (try (repeat (rcases he with rfl | he; · first | assumption | exact absurd hbn (by decide))))
      (try (first | exact he.elim | (subst he; first | assumption | exact absurd hbn (by decide)))))
    have l10 := ready_end hr 10 (by rw [hl]; decide) rfl (fun e he hbn => by
      simp at he
      (try (repeat (rcases he with rfl | he; · first | assumption | exact absurd hbn (by decide))))
      (try (first | exact he.elim | (subst he; first | assumption | exact absurd hbn (by decide)))))
    obtain ⟨b0, v0, e0x, n0, o0, t0⟩ := qa0.2 l8
    obtain rfl := t0 l9
    have z := hK (X 22) (X 23) (X 24) (X 25) (X 26) (X 27) (X 28) (X 29) b0 W hN g n0 o0
    rw [← e0x, ← p10 l10] at z
    exact z

end Go.Proofs.Ytjigcgpcglfjfaa
namespace Go.Proofs.Ytjigcgpcglfjfaa
open Go.ChangeShapes Go.WideShapes Go.RowKit
open Sh
set_option maxRecDepth 100000 in
theorem fsa_e1 (t : P9) (x : P3) (D a b c : Int) (w : World) (M : Hid (∀ W, Calls Try.prog 18 #[pnv t.1 t.2.1 t.2.2, ptv x, .int .i64 D] W fun e w' => e = .returned (spr ((a, b), c)) ∧ Below W.heap.size W w')) (z : (c != 0) = true) : Calls Try.prog 20 #[pnv t.1 t.2.1 t.2.2, ptv x, .int .i64 D] w fun e w' => e = .returned (spr ((0, 0), c)) ∧ Below w.heap.size w w' := by
  have P0 := Lib.hid (pan_alloc (pan_alloc (pan_new w t.1 t.2.1 t.2.2 25) (ptc x 23)) (.cells #[.int .i64 0, .int .i64 0] 35))
  have X0 := Lib.hid (own_alloc (own_new (w.alloc (pnc t.1 t.2.1 t.2.2 25)) x 23) (.cells #[.int .i64 0, .int .i64 0] 35))
  have Z0 := Lib.hid (owp_new ((w.alloc (pnc t.1 t.2.1 t.2.2 25)).alloc (ptc x 23)) (0, 0) 35)
  simp only [World.size_alloc] at X0 Z0
  have B0 := Lib.hid (show Below w.heap.size w (((w.alloc (pnc t.1 t.2.1 t.2.2 25)).alloc (ptc x 23)).alloc (.cells #[.int .i64 0, .int .i64 0] 35)) by (repeat' (first | exact Below.refl _ _ | refine Below.setCell ?_ (by simp <;> omega) _ | refine balloc ?_ _ | refine Below.drew ?_ | refine bdrewN ?_ _)))
  obtain ⟨k0, k1, k2, k3, k4, k5, k6, k7, k8, k9⟩ := P0.out
  obtain ⟨x0, x1, x2, x3, x4, x5, x6⟩ := X0.out
  go_enter Try.func20, Try.ntmps20
  go_wp2_with fail
  with_reducible refine (M.out _).mono ?_
  rintro e w1 ⟨rfl, hb1⟩
  clear k0 k1 k2 k3 k4 k5 k6 k7 k8 k9 x0 x1 x2 x3 x4 x5 x6
  have P1 := Lib.hid (pan_alloc (pan_below P0.out hb1) (.cells #[.int .i64 a, .int .i64 b] 35))
  have X1 := Lib.hid (own_alloc (own_below X0.out hb1) (.cells #[.int .i64 a, .int .i64 b] 35))
  have Z1 := Lib.hid (owp_alloc (owp_below Z0.out hb1) (.cells #[.int .i64 a, .int .i64 b] 35))
  have B1 := Lib.hid (balloc (bstep B0.out hb1) (.cells #[.int .i64 a, .int .i64 b] 35))
  have M1 := Lib.hid (owp_new w1 (a, b) 35)
  clear P0 X0 Z0 B0 hb1
  obtain ⟨o0, o1, o2, o3, o4⟩ := Z1.out
  have hB := B1.out
  go_wp2
  refine bodyPost_ret (v := spr ((0, 0), c)) (by rw [results_cell_tmp rfl]; go_simp) rfl ⟨rfl, ?_⟩
  (repeat' (first | with_reducible exact hB | with_reducible refine Below.drew ?_ | (with_reducible refine Below.setCell ?_ (by simp <;> omega) _)))
set_option maxRecDepth 100000 in
set_option maxHeartbeats 4000000 in
theorem fsa_e2 (t : P9) (x v n : P3) (D a b h p q c : Int) (w : World) (M : Hid (∀ W, Calls Try.prog 18 #[pnv t.1 t.2.1 t.2.2, ptv x, .int .i64 D] W fun e w' => e = .returned (spr ((a, b), 0)) ∧ Below W.heap.size W w')) (NN : Hid (∀ W, Calls Try.prog 54 #[pnv t.1 t.2.1 t.2.2] W fun e w' => e = .returned (.tuple #[ptv n, .int .i64 0]) ∧ Below W.heap.size W w')) (MI : Hid (∀ W, Calls Try.prog 56 #[ptv t.1, ptv x] W fun e w' => e = .returned (ptv v) ∧ Below W.heap.size W w')) (SC : Hid (∀ W, Calls Try.prog 55 #[ptv v, ptv n] W fun e w' => e = .returned (.int .i64 h) ∧ Below W.heap.size W w')) (SL : Hid (∀ W, Calls Try.prog 38 #[spv a b, .int .i64 h] W fun e w' => e = .returned (spr ((p, q), c)) ∧ Below W.heap.size W w')) (z : (c != 0) = true) : Calls Try.prog 20 #[pnv t.1 t.2.1 t.2.2, ptv x, .int .i64 D] w fun e w' => e = .returned (spr ((0, 0), c)) ∧ Below w.heap.size w w' := by
  have P0 := Lib.hid (pan_alloc (pan_alloc (pan_new w t.1 t.2.1 t.2.2 25) (ptc x 23)) (.cells #[.int .i64 0, .int .i64 0] 35))
  have X0 := Lib.hid (own_alloc (own_new (w.alloc (pnc t.1 t.2.1 t.2.2 25)) x 23) (.cells #[.int .i64 0, .int .i64 0] 35))
  have Z0 := Lib.hid (owp_new ((w.alloc (pnc t.1 t.2.1 t.2.2 25)).alloc (ptc x 23)) (0, 0) 35)
  simp only [World.size_alloc] at X0 Z0
  have B0 := Lib.hid (show Below w.heap.size w (((w.alloc (pnc t.1 t.2.1 t.2.2 25)).alloc (ptc x 23)).alloc (.cells #[.int .i64 0, .int .i64 0] 35)) by (repeat' (first | exact Below.refl _ _ | refine Below.setCell ?_ (by simp <;> omega) _ | refine balloc ?_ _ | refine Below.drew ?_ | refine bdrewN ?_ _)))
  obtain ⟨k0, k1, k2, k3, k4, k5, k6, k7, k8, k9⟩ := P0.out
  obtain ⟨x0, x1, x2, x3, x4, x5, x6⟩ := X0.out
  go_enter Try.func20, Try.ntmps20
  go_wp2_with fail
  with_reducible refine (M.out _).mono ?_
  rintro e w1 ⟨rfl, hb1⟩
  clear k0 k1 k2 k3 k4 k5 k6 k7 k8 k9 x0 x1 x2 x3 x4 x5 x6
  have P1 := Lib.hid (pan_alloc (pan_below P0.out hb1) (.cells #[.int .i64 a, .int .i64 b] 35))
  have X1 := Lib.hid (own_alloc (own_below X0.out hb1) (.cells #[.int .i64 a, .int .i64 b] 35))
  have Z1 := Lib.hid (owp_alloc (owp_below Z0.out hb1) (.cells #[.int .i64 a, .int .i64 b] 35))
  have B1 := Lib.hid (balloc (bstep B0.out hb1) (.cells #[.int .i64 a, .int .i64 b] 35))
  have M1 := Lib.hid (owp_new w1 (a, b) 35)
  clear P0 X0 Z0 B0 hb1
  obtain ⟨m0, m1, m2, m3, m4⟩ := M1.out
  obtain ⟨k0, k1, k2, k3, k4, k5, k6, k7, k8, k9⟩ := P1.out
  go_wp2_with fail
  with_reducible refine (NN.out _).mono ?_
  rintro e w2 ⟨rfl, hb2⟩
  have P2 := Lib.hid (pan_alloc (pan_below P1.out hb2) (ptc n 23))
  have X2 := Lib.hid (own_alloc (own_below X1.out hb2) (ptc n 23))
  have Z2 := Lib.hid (owp_alloc (owp_below Z1.out hb2) (ptc n 23))
  have B2 := Lib.hid (balloc (bstep B1.out hb2) (ptc n 23))
  have M2 := Lib.hid (owp_alloc (owp_below M1.out hb2) (ptc n 23))
  have N2 := Lib.hid (own_new w2 n 23)
  clear k0 k1 k2 k3 k4 k5 k6 k7 k8 k9 m0 m1 m2 m3 m4 P1 X1 Z1 B1 M1 hb2
  have i1 := pxn_drew (show Pxn (w2.alloc (ptc n 23)) w.heap.size (w.heap.size + 1) w2.heap.size t x n from ⟨P2.out, X2.out, N2.out⟩)
  have b1 := Lib.hid (show Below (w2.alloc (ptc n 23)).heap.size (w2.alloc (ptc n 23)) (w2.alloc (ptc n 23)).drew from Below.drew (Below.refl _ _))
  go_wp2_with fail
  go_region_held3 (fun w' => w'.cell? ⟨w.heap.size, 0, none⟩ = some (.int .i64 t.1.1) ∧ w'.cell? ⟨w.heap.size, 1, none⟩ = some (.int .i64 t.1.2.1) ∧ w'.cell? ⟨w.heap.size, 2, none⟩ = some (.int .i64 t.1.2.2) ∧ w'.cell? ⟨w.heap.size + 1, 0, none⟩ = some (.int .i64 x.1) ∧ w'.cell? ⟨w.heap.size + 1, 1, none⟩ = some (.int .i64 x.2.1) ∧ w'.cell? ⟨w.heap.size + 1, 2, none⟩ = some (.int .i64 x.2.2) ∧ w'.cell? ⟨w2.heap.size, 0, none⟩ = some (.int .i64 n.1) ∧ w'.cell? ⟨w2.heap.size, 1, none⟩ = some (.int .i64 n.2.1) ∧ w'.cell? ⟨w2.heap.size, 2, none⟩ = some (.int .i64 n.2.2))
    (first | (refine pxn_cells i1) | (refine pxn_cells q1) | (refine pxn_cells q2) | fail)
    (first | (go_at_call 56; (with_reducible refine (MI.out _).mono ?_); rintro e v1 ⟨rfl, hv1⟩; have q1 := pxn_below i1 hv1; have d1 := Lib.hid (bstep b1.out hv1)) | (go_at_call 55; (with_reducible refine (SC.out _).mono ?_); rintro e v2 ⟨rfl, hv2⟩; have q2 := pxn_below q1 hv2; have d2 := Lib.hid (bstep d1.out hv2)) | fail)
  all_goals
    have Z3 := Lib.hid (owp_in Z2.out d2.out Z2.out.2.2.2.2)
    have M3 := Lib.hid (owp_in M2.out d2.out M2.out.2.2.2.2)
    have B3 := Lib.hid (bjoin B2.out d2.out)
    obtain ⟨m0, m1, m2, m3, m4⟩ := M3.out
    clear i1 b1 q1 d1 q2 hv1 hv2 d2
    go_wp2_with fail
    with_reducible refine (SL.out _).mono ?_
    rintro e w4 ⟨rfl, hb4⟩
    have Z4 := Lib.hid (owp_alloc (owp_below Z3.out hb4) (.cells #[.int .i64 p, .int .i64 q] 35))
    have B4 := Lib.hid (balloc (bstep B3.out hb4) (.cells #[.int .i64 p, .int .i64 q] 35))
    have S4 := Lib.hid (owp_new w4 (p, q) 35)
    clear m0 m1 m2 m3 m4 hb4
    obtain ⟨o0, o1, o2, o3, o4⟩ := Z4.out
    have hB := B4.out
    go_wp2
    refine bodyPost_ret (v := spr ((0, 0), c)) (by rw [results_cell_tmp rfl]; go_simp) rfl ⟨rfl, ?_⟩
    (repeat' (first | with_reducible exact hB | with_reducible refine Below.drew ?_ | (with_reducible refine Below.setCell ?_ (by simp <;> omega) _)))
set_option maxRecDepth 100000 in
set_option maxHeartbeats 4000000 in
theorem fsa_ok (t : P9) (x v n : P3) (D a b h p q : Int) (r : Sp.R) (w : World) (M : Hid (∀ W, Calls Try.prog 18 #[pnv t.1 t.2.1 t.2.2, ptv x, .int .i64 D] W fun e w' => e = .returned (spr ((a, b), 0)) ∧ Below W.heap.size W w')) (NN : Hid (∀ W, Calls Try.prog 54 #[pnv t.1 t.2.1 t.2.2] W fun e w' => e = .returned (.tuple #[ptv n, .int .i64 0]) ∧ Below W.heap.size W w')) (MI : Hid (∀ W, Calls Try.prog 56 #[ptv t.1, ptv x] W fun e w' => e = .returned (ptv v) ∧ Below W.heap.size W w')) (SC : Hid (∀ W, Calls Try.prog 55 #[ptv v, ptv n] W fun e w' => e = .returned (.int .i64 h) ∧ Below W.heap.size W w')) (SL : Hid (∀ W, Calls Try.prog 38 #[spv a b, .int .i64 h] W fun e w' => e = .returned (spr ((p, q), 0)) ∧ Below W.heap.size W w')) (PT : Hid (∀ W, Calls Try.prog 57 #[spv p q, .int .i64 2] W fun e w' => e = .returned (spr r) ∧ Below W.heap.size W w')) : Calls Try.prog 20 #[pnv t.1 t.2.1 t.2.2, ptv x, .int .i64 D] w fun e w' => e = .returned (spr r) ∧ Below w.heap.size w w' := by
  have P0 := Lib.hid (pan_alloc (pan_alloc (pan_new w t.1 t.2.1 t.2.2 25) (ptc x 23)) (.cells #[.int .i64 0, .int .i64 0] 35))
  have X0 := Lib.hid (own_alloc (own_new (w.alloc (pnc t.1 t.2.1 t.2.2 25)) x 23) (.cells #[.int .i64 0, .int .i64 0] 35))
  have Z0 := Lib.hid (owp_new ((w.alloc (pnc t.1 t.2.1 t.2.2 25)).alloc (ptc x 23)) (0, 0) 35)
  simp only [World.size_alloc] at X0 Z0
  have B0 := Lib.hid (show Below w.heap.size w (((w.alloc (pnc t.1 t.2.1 t.2.2 25)).alloc (ptc x 23)).alloc (.cells #[.int .i64 0, .int .i64 0] 35)) by (repeat' (first | exact Below.refl _ _ | refine Below.setCell ?_ (by simp <;> omega) _ | refine balloc ?_ _ | refine Below.drew ?_ | refine bdrewN ?_ _)))
  obtain ⟨k0, k1, k2, k3, k4, k5, k6, k7, k8, k9⟩ := P0.out
  obtain ⟨x0, x1, x2, x3, x4, x5, x6⟩ := X0.out
  go_enter Try.func20, Try.ntmps20
  go_wp2_with fail
  with_reducible refine (M.out _).mono ?_
  rintro e w1 ⟨rfl, hb1⟩
  clear k0 k1 k2 k3 k4 k5 k6 k7 k8 k9 x0 x1 x2 x3 x4 x5 x6
  have P1 := Lib.hid (pan_alloc (pan_below P0.out hb1) (.cells #[.int .i64 a, .int .i64 b] 35))
  have X1 := Lib.hid (own_alloc (own_below X0.out hb1) (.cells #[.int .i64 a, .int .i64 b] 35))
  have Z1 := Lib.hid (owp_alloc (owp_below Z0.out hb1) (.cells #[.int .i64 a, .int .i64 b] 35))
  have B1 := Lib.hid (balloc (bstep B0.out hb1) (.cells #[.int .i64 a, .int .i64 b] 35))
  have M1 := Lib.hid (owp_new w1 (a, b) 35)
  clear P0 X0 Z0 B0 hb1
  obtain ⟨m0, m1, m2, m3, m4⟩ := M1.out
  obtain ⟨k0, k1, k2, k3, k4, k5, k6, k7, k8, k9⟩ := P1.out
  go_wp2_with fail
  with_reducible refine (NN.out _).mono ?_
  rintro e w2 ⟨rfl, hb2⟩
  have P2 := Lib.hid (pan_alloc (pan_below P1.out hb2) (ptc n 23))
  have X2 := Lib.hid (own_alloc (own_below X1.out hb2) (ptc n 23))
  have Z2 := Lib.hid (owp_alloc (owp_below Z1.out hb2) (ptc n 23))
  have B2 := Lib.hid (balloc (bstep B1.out hb2) (ptc n 23))
  have M2 := Lib.hid (owp_alloc (owp_below M1.out hb2) (ptc n 23))
  have N2 := Lib.hid (own_new w2 n 23)
  clear k0 k1 k2 k3 k4 k5 k6 k7 k8 k9 m0 m1 m2 m3 m4 P1 X1 Z1 B1 M1 hb2
  have i1 := pxn_drew (show Pxn (w2.alloc (ptc n 23)) w.heap.size (w.heap.size + 1) w2.heap.size t x n from ⟨P2.out, X2.out, N2.out⟩)
  have b1 := Lib.hid (show Below (w2.alloc (ptc n 23)).heap.size (w2.alloc (ptc n 23)) (w2.alloc (ptc n 23)).drew from Below.drew (Below.refl _ _))
  go_wp2_with fail
  go_region_held3 (fun w' => w'.cell? ⟨w.heap.size, 0, none⟩ = some (.int .i64 t.1.1) ∧ w'.cell? ⟨w.heap.size, 1, none⟩ = some (.int .i64 t.1.2.1) ∧ w'.cell? ⟨w.heap.size, 2, none⟩ = some (.int .i64 t.1.2.2) ∧ w'.cell? ⟨w.heap.size + 1, 0, none⟩ = some (.int .i64 x.1) ∧ w'.cell? ⟨w.heap.size + 1, 1, none⟩ = some (.int .i64 x.2.1) ∧ w'.cell? ⟨w.heap.size + 1, 2, none⟩ = some (.int .i64 x.2.2) ∧ w'.cell? ⟨w2.heap.size, 0, none⟩ = some (.int .i64 n.1) ∧ w'.cell? ⟨w2.heap.size, 1, none⟩ = some (.int .i64 n.2.1) ∧ w'.cell? ⟨w2.heap.size, 2, none⟩ = some (.int .i64 n.2.2))
    (first | (refine pxn_cells i1) | (refine pxn_cells q1) | (refine pxn_cells q2) | fail)
    (first | (go_at_call 56; (with_reducible refine (MI.out _).mono ?_); rintro e v1 ⟨rfl, hv1⟩; have q1 := pxn_below i1 hv1; have d1 := Lib.hid (bstep b1.out hv1)) | (go_at_call 55; (with_reducible refine (SC.out _).mono ?_); rintro e v2 ⟨rfl, hv2⟩; have q2 := pxn_below q1 hv2; have d2 := Lib.hid (bstep d1.out hv2)) | fail)
  all_goals
    have Z3 := Lib.hid (owp_in Z2.out d2.out Z2.out.2.2.2.2)
    have M3 := Lib.hid (owp_in M2.out d2.out M2.out.2.2.2.2)
    have B3 := Lib.hid (bjoin B2.out d2.out)
    obtain ⟨m0, m1, m2, m3, m4⟩ := M3.out
    clear i1 b1 q1 d1 q2 hv1 hv2 d2
    go_wp2_with fail
    with_reducible refine (SL.out _).mono ?_
    rintro e w4 ⟨rfl, hb4⟩
    have Z4 := Lib.hid (owp_alloc (owp_below Z3.out hb4) (.cells #[.int .i64 p, .int .i64 q] 35))
    have B4 := Lib.hid (balloc (bstep B3.out hb4) (.cells #[.int .i64 p, .int .i64 q] 35))
    have S4 := Lib.hid (owp_new w4 (p, q) 35)
    clear m0 m1 m2 m3 m4 hb4
    obtain ⟨s0, s1, s2, s3, s4⟩ := S4.out
    go_wp2_with fail
    with_reducible refine (PT.out _).mono ?_
    rintro e w5 ⟨rfl, hb5⟩
    obtain ⟨o0, o1, o2, o3, o4⟩ := owp_below Z4.out hb5
    have hB := bstep B4.out hb5
    clear s0 s1 s2 s3 s4
    go_wp2
    refine bodyPost_ret (v := spr r) (by rw [results_cell_tmp rfl]; go_simp) rfl ⟨rfl, ?_⟩
    (repeat' (first | with_reducible exact hB | with_reducible refine Below.drew ?_ | (with_reducible refine Below.setCell ?_ (by simp <;> omega) _)))
theorem fsa_any (t : P9) (x : P3) (D : Int) (w : World) : Calls Try.prog 20 #[p9v t, ptv x, .int .i64 D] w fun e w' => e = .returned (spr (angF t x D)) ∧ Below w.heap.size w w' := by
  have M := fun W => meanc_any t x D W
  unfold angF angR
  by_cases h : (meF true t x D).2 = 0
  · rw [if_pos h]
    have hs : snc t x D = 0 := Classical.byContradiction fun k => by
      unfold meF at h
      rw [if_neg k] at h
      exact k h
    obtain ⟨hB, hx, d0, d3⟩ := snc_ok hs
    have hp : pcode t.1 t.2.1 t.2.2 = 0 := Classical.byContradiction fun k => by
      unfold snc at hs
      rw [if_neg k] at hs
      exact k hs
    generalize meF true t x D = m at *
    obtain ⟨⟨a, b⟩, c⟩ := m
    obtain rfl : c = 0 := h
    dsimp only
    have S := fun W => scale_any a b (hgt t x) W
    have NN := fun W => norm_any t.1 t.2.1 t.2.2 W
    rw [hp] at NN
    have MI := fun W => fminus_any t.1 x W ((bd320 hB.1 hx).mono (by decide))
    have SC := fun W => fscalar_any (sub t.1 x) (nrm t.1 t.2.1 t.2.2) W (pw_bd320 (bd320 hB.1 hx) (nrm_bd hB.1 hB.2.1 hB.2.2))
    rw [hgt_nrm] at SC
    by_cases k : (scaleR a b (hgt t x)).2 = 0
    · rw [if_pos k]
      have PT := fun W => part_any (scaleR a b (hgt t x)).1.1 (scaleR a b (hgt t x)).1.2 2 W
      generalize scaleR a b (hgt t x) = r at *
      obtain ⟨⟨p, q⟩, c⟩ := r
      obtain rfl : c = 0 := k
      exact fsa_ok t x _ _ D a b _ p q _ w (Lib.hid M) (Lib.hid NN) (Lib.hid MI) (Lib.hid SC) (Lib.hid S) (Lib.hid PT)
    · rw [if_neg k]
      generalize scaleR a b (hgt t x) = r at *
      obtain ⟨⟨p, q⟩, c⟩ := r
      exact fsa_e2 t x _ _ D a b _ p q c w (Lib.hid M) (Lib.hid NN) (Lib.hid MI) (Lib.hid SC) (Lib.hid S) (bne_iff_ne.2 k)
  · rw [if_neg h]
    generalize meF true t x D = m at *
    obtain ⟨⟨a, b⟩, c⟩ := m
    exact fsa_e1 t x D a b c w (Lib.hid M) (bne_iff_ne.2 h)
set_option maxRecDepth 100000 in
theorem rsa_e1 (t : P9) (x : P3) (D a b c : Int) (w : World) (M : Hid (∀ W, Calls Try.prog 19 #[pnv t.1 t.2.1 t.2.2, ptv x, .int .i64 D] W fun e w' => e = .returned (spr ((a, b), c)) ∧ Below W.heap.size W w')) (z : (c != 0) = true) : Calls Try.prog 21 #[pnv t.1 t.2.1 t.2.2, ptv x, .int .i64 D] w fun e w' => e = .returned (spr ((0, 0), c)) ∧ Below w.heap.size w w' := by
  have P0 := Lib.hid (pan_alloc (pan_alloc (pan_new w t.1 t.2.1 t.2.2 25) (ptc x 23)) (.cells #[.int .i64 0, .int .i64 0] 35))
  have X0 := Lib.hid (own_alloc (own_new (w.alloc (pnc t.1 t.2.1 t.2.2 25)) x 23) (.cells #[.int .i64 0, .int .i64 0] 35))
  have Z0 := Lib.hid (owp_new ((w.alloc (pnc t.1 t.2.1 t.2.2 25)).alloc (ptc x 23)) (0, 0) 35)
  simp only [World.size_alloc] at X0 Z0
  have B0 := Lib.hid (show Below w.heap.size w (((w.alloc (pnc t.1 t.2.1 t.2.2 25)).alloc (ptc x 23)).alloc (.cells #[.int .i64 0, .int .i64 0] 35)) by (repeat' (first | exact Below.refl _ _ | refine Below.setCell ?_ (by simp <;> omega) _ | refine balloc ?_ _ | refine Below.drew ?_ | refine bdrewN ?_ _)))
  obtain ⟨k0, k1, k2, k3, k4, k5, k6, k7, k8, k9⟩ := P0.out
  obtain ⟨x0, x1, x2, x3, x4, x5, x6⟩ := X0.out
  go_enter Try.func21, Try.ntmps21
  go_wp2_with fail
  with_reducible refine (M.out _).mono ?_
  rintro e w1 ⟨rfl, hb1⟩
  clear k0 k1 k2 k3 k4 k5 k6 k7 k8 k9 x0 x1 x2 x3 x4 x5 x6
  have P1 := Lib.hid (pan_alloc (pan_below P0.out hb1) (.cells #[.int .i64 a, .int .i64 b] 35))
  have X1 := Lib.hid (own_alloc (own_below X0.out hb1) (.cells #[.int .i64 a, .int .i64 b] 35))
  have Z1 := Lib.hid (owp_alloc (owp_below Z0.out hb1) (.cells #[.int .i64 a, .int .i64 b] 35))
  have B1 := Lib.hid (balloc (bstep B0.out hb1) (.cells #[.int .i64 a, .int .i64 b] 35))
  have M1 := Lib.hid (owp_new w1 (a, b) 35)
  clear P0 X0 Z0 B0 hb1
  obtain ⟨o0, o1, o2, o3, o4⟩ := Z1.out
  have hB := B1.out
  go_wp2
  refine bodyPost_ret (v := spr ((0, 0), c)) (by rw [results_cell_tmp rfl]; go_simp) rfl ⟨rfl, ?_⟩
  (repeat' (first | with_reducible exact hB | with_reducible refine Below.drew ?_ | (with_reducible refine Below.setCell ?_ (by simp <;> omega) _)))
set_option maxRecDepth 100000 in
set_option maxHeartbeats 4000000 in
theorem rsa_e2 (t : P9) (x : P3) (D a b h p q c : Int) (w : World) (M : Hid (∀ W, Calls Try.prog 19 #[pnv t.1 t.2.1 t.2.2, ptv x, .int .i64 D] W fun e w' => e = .returned (spr ((a, b), 0)) ∧ Below W.heap.size W w')) (HC : Hid (∀ W, Calls Try.prog 59 #[pnv t.1 t.2.1 t.2.2, ptv x] W fun e w' => e = .returned (.int .i64 h) ∧ Below W.heap.size W w')) (SL : Hid (∀ W, Calls Try.prog 58 #[spv a b, .int .i64 h] W fun e w' => e = .returned (spr ((p, q), c)) ∧ Below W.heap.size W w')) (z : (c != 0) = true) : Calls Try.prog 21 #[pnv t.1 t.2.1 t.2.2, ptv x, .int .i64 D] w fun e w' => e = .returned (spr ((0, 0), c)) ∧ Below w.heap.size w w' := by
  have P0 := Lib.hid (pan_alloc (pan_alloc (pan_new w t.1 t.2.1 t.2.2 25) (ptc x 23)) (.cells #[.int .i64 0, .int .i64 0] 35))
  have X0 := Lib.hid (own_alloc (own_new (w.alloc (pnc t.1 t.2.1 t.2.2 25)) x 23) (.cells #[.int .i64 0, .int .i64 0] 35))
  have Z0 := Lib.hid (owp_new ((w.alloc (pnc t.1 t.2.1 t.2.2 25)).alloc (ptc x 23)) (0, 0) 35)
  simp only [World.size_alloc] at X0 Z0
  have B0 := Lib.hid (show Below w.heap.size w (((w.alloc (pnc t.1 t.2.1 t.2.2 25)).alloc (ptc x 23)).alloc (.cells #[.int .i64 0, .int .i64 0] 35)) by (repeat' (first | exact Below.refl _ _ | refine Below.setCell ?_ (by simp <;> omega) _ | refine balloc ?_ _ | refine Below.drew ?_ | refine bdrewN ?_ _)))
  obtain ⟨k0, k1, k2, k3, k4, k5, k6, k7, k8, k9⟩ := P0.out
  obtain ⟨x0, x1, x2, x3, x4, x5, x6⟩ := X0.out
  go_enter Try.func21, Try.ntmps21
  go_wp2_with fail
  with_reducible refine (M.out _).mono ?_
  rintro e w1 ⟨rfl, hb1⟩
  clear k0 k1 k2 k3 k4 k5 k6 k7 k8 k9 x0 x1 x2 x3 x4 x5 x6
  have P1 := Lib.hid (pan_alloc (pan_below P0.out hb1) (.cells #[.int .i64 a, .int .i64 b] 35))
  have X1 := Lib.hid (own_alloc (own_below X0.out hb1) (.cells #[.int .i64 a, .int .i64 b] 35))
  have Z1 := Lib.hid (owp_alloc (owp_below Z0.out hb1) (.cells #[.int .i64 a, .int .i64 b] 35))
  have B1 := Lib.hid (balloc (bstep B0.out hb1) (.cells #[.int .i64 a, .int .i64 b] 35))
  have M1 := Lib.hid (owp_new w1 (a, b) 35)
  clear P0 X0 Z0 B0 hb1
  obtain ⟨m0, m1, m2, m3, m4⟩ := M1.out
  go_wp2_with fail
  rename_i K8 hK8
  have HK8 := Lib.hid hK8
  clear hK8 m0 m1 m2 m3 m4
  have NS := Lib.hid (show w.heap.size + 1 + 1 < (w1.alloc (.cells #[.int .i64 a, .int .i64 b] 35)).heap.size ∧ w1.heap.size < (w1.alloc (.cells #[.int .i64 a, .int .i64 b] 35)).heap.size from ⟨Z1.out.2.2.2.2, M1.out.2.2.2.2⟩)
  refine rsg_reg (fun W => (Pan W w.heap.size t.1 t.2.1 t.2.2 ∧ Own W (w.heap.size + 1) x) ∧ OwP W w1.heap.size (a, b) ∧ OwP W (w.heap.size + 1 + 1) (0, 0) ∧ Below w.heap.size w W) (w1.alloc (.cells #[.int .i64 a, .int .i64 b] 35)).heap.size w.heap.size (w.heap.size + 1) w1.heap.size t x ((a, b), 0) ((p, q), c) h (Lib.hid HC.out) (Lib.hid SL.out) (Lib.hid fun W g => ?_) (Lib.hid fun W W' hb g => ?_) (Nat.le_refl _) ⟨⟨pan_drew P1.out, own_drew X1.out⟩, M1.out, Z1.out, Below.drew B1.out⟩ ?_
  · have z := pax_cells g.1
    exact ⟨g.2.1.1, g.2.1.2.1, z⟩
  · have n := NS.out
    exact ⟨⟨pan_in' g.1.1 hb (by omega), own_in' g.1.2 hb (by omega)⟩, owp_in g.2.1 hb (by omega), owp_in g.2.2.1 hb (by omega), g.2.2.2.trans (hb.mono (by omega))⟩
  intro x22 x23 x24 x25 x26 x27 x28 x29 b0 W' hN g no ow
  have Z4 := Lib.hid g.2.2.1
  have B4 := Lib.hid g.2.2.2
  have S4 := Lib.hid ow
  clear g ow
  refine HK8.out _ _ ?_
  clear HK8
  obtain ⟨o0, o1, o2, o3, o4⟩ := Z4.out
  have hB := B4.out
  go_wp2
  refine bodyPost_ret (v := spr ((0, 0), c)) (by rw [results_cell_tmp rfl]; go_simp) rfl ⟨rfl, ?_⟩
  (repeat' (first | with_reducible exact hB | with_reducible refine Below.drew ?_ | (with_reducible refine Below.setCell ?_ (by simp <;> omega) _)))
set_option maxRecDepth 100000 in
set_option maxHeartbeats 4000000 in
theorem rsa_ok (t : P9) (x : P3) (D a b h p q : Int) (r : Sp.R) (w : World) (M : Hid (∀ W, Calls Try.prog 19 #[pnv t.1 t.2.1 t.2.2, ptv x, .int .i64 D] W fun e w' => e = .returned (spr ((a, b), 0)) ∧ Below W.heap.size W w')) (HC : Hid (∀ W, Calls Try.prog 59 #[pnv t.1 t.2.1 t.2.2, ptv x] W fun e w' => e = .returned (.int .i64 h) ∧ Below W.heap.size W w')) (SL : Hid (∀ W, Calls Try.prog 58 #[spv a b, .int .i64 h] W fun e w' => e = .returned (spr ((p, q), 0)) ∧ Below W.heap.size W w')) (PT : Hid (∀ W, Calls Try.prog 60 #[spv p q, .int .i64 2] W fun e w' => e = .returned (spr r) ∧ Below W.heap.size W w')) : Calls Try.prog 21 #[pnv t.1 t.2.1 t.2.2, ptv x, .int .i64 D] w fun e w' => e = .returned (spr r) ∧ Below w.heap.size w w' := by
  have P0 := Lib.hid (pan_alloc (pan_alloc (pan_new w t.1 t.2.1 t.2.2 25) (ptc x 23)) (.cells #[.int .i64 0, .int .i64 0] 35))
  have X0 := Lib.hid (own_alloc (own_new (w.alloc (pnc t.1 t.2.1 t.2.2 25)) x 23) (.cells #[.int .i64 0, .int .i64 0] 35))
  have Z0 := Lib.hid (owp_new ((w.alloc (pnc t.1 t.2.1 t.2.2 25)).alloc (ptc x 23)) (0, 0) 35)
  simp only [World.size_alloc] at X0 Z0
  have B0 := Lib.hid (show Below w.heap.size w (((w.alloc (pnc t.1 t.2.1 t.2.2 25)).alloc (ptc x 23)).alloc (.cells #[.int .i64 0, .int .i64 0] 35)) by (repeat' (first | exact Below.refl _ _ | refine Below.setCell ?_ (by simp <;> omega) _ | refine balloc ?_ _ | refine Below.drew ?_ | refine bdrewN ?_ _)))
  obtain ⟨k0, k1, k2, k3, k4, k5, k6, k7, k8, k9⟩ := P0.out
  obtain ⟨x0, x1, x2, x3, x4, x5, x6⟩ := X0.out
  go_enter Try.func21, Try.ntmps21
  go_wp2_with fail
  with_reducible refine (M.out _).mono ?_
  rintro e w1 ⟨rfl, hb1⟩
  clear k0 k1 k2 k3 k4 k5 k6 k7 k8 k9 x0 x1 x2 x3 x4 x5 x6
  have P1 := Lib.hid (pan_alloc (pan_below P0.out hb1) (.cells #[.int .i64 a, .int .i64 b] 35))
  have X1 := Lib.hid (own_alloc (own_below X0.out hb1) (.cells #[.int .i64 a, .int .i64 b] 35))
  have Z1 := Lib.hid (owp_alloc (owp_below Z0.out hb1) (.cells #[.int .i64 a, .int .i64 b] 35))
  have B1 := Lib.hid (balloc (bstep B0.out hb1) (.cells #[.int .i64 a, .int .i64 b] 35))
  have M1 := Lib.hid (owp_new w1 (a, b) 35)
  clear P0 X0 Z0 B0 hb1
  obtain ⟨m0, m1, m2, m3, m4⟩ := M1.out
  go_wp2_with fail
  rename_i K8 hK8
  have HK8 := Lib.hid hK8
  clear hK8 m0 m1 m2 m3 m4
  have NS := Lib.hid (show w.heap.size + 1 + 1 < (w1.alloc (.cells #[.int .i64 a, .int .i64 b] 35)).heap.size ∧ w1.heap.size < (w1.alloc (.cells #[.int .i64 a, .int .i64 b] 35)).heap.size from ⟨Z1.out.2.2.2.2, M1.out.2.2.2.2⟩)
  refine rsg_reg (fun W => (Pan W w.heap.size t.1 t.2.1 t.2.2 ∧ Own W (w.heap.size + 1) x) ∧ OwP W w1.heap.size (a, b) ∧ OwP W (w.heap.size + 1 + 1) (0, 0) ∧ Below w.heap.size w W) (w1.alloc (.cells #[.int .i64 a, .int .i64 b] 35)).heap.size w.heap.size (w.heap.size + 1) w1.heap.size t x ((a, b), 0) ((p, q), 0) h (Lib.hid HC.out) (Lib.hid SL.out) (Lib.hid fun W g => ?_) (Lib.hid fun W W' hb g => ?_) (Nat.le_refl _) ⟨⟨pan_drew P1.out, own_drew X1.out⟩, M1.out, Z1.out, Below.drew B1.out⟩ ?_
  · have z := pax_cells g.1
    exact ⟨g.2.1.1, g.2.1.2.1, z⟩
  · have n := NS.out
    exact ⟨⟨pan_in' g.1.1 hb (by omega), own_in' g.1.2 hb (by omega)⟩, owp_in g.2.1 hb (by omega), owp_in g.2.2.1 hb (by omega), g.2.2.2.trans (hb.mono (by omega))⟩
  intro x22 x23 x24 x25 x26 x27 x28 x29 b0 W' hN g no ow
  have Z4 := Lib.hid g.2.2.1
  have B4 := Lib.hid g.2.2.2
  have S4 := Lib.hid ow
  clear g ow
  refine HK8.out _ _ ?_
  clear HK8
  obtain ⟨s0, s1, s2, s3, s4⟩ := S4.out
  go_wp2_with fail
  with_reducible refine (PT.out _).mono ?_
  rintro e w5 ⟨rfl, hb5⟩
  obtain ⟨o0, o1, o2, o3, o4⟩ := owp_below Z4.out hb5
  have hB := bstep B4.out hb5
  clear s0 s1 s2 s3 s4
  go_wp2
  refine bodyPost_ret (v := spr r) (by rw [results_cell_tmp rfl]; go_simp) rfl ⟨rfl, ?_⟩
  (repeat' (first | with_reducible exact hB | with_reducible refine Below.drew ?_ | (with_reducible refine Below.setCell ?_ (by simp <;> omega) _)))
theorem rsa_any (t : P9) (x : P3) (D : Int) (w : World) : Calls Try.prog 21 #[p9v t, ptv x, .int .i64 D] w fun e w' => e = .returned (spr (angF t x D)) ∧ Below w.heap.size w w' := by
  have M := fun W => rmeant_any t x D W
  unfold angF angR
  by_cases h : (meF true t x D).2 = 0
  · rw [if_pos h]
    have hs : snc t x D = 0 := Classical.byContradiction fun k => by
      unfold meF at h
      rw [if_neg k] at h
      exact k h
    obtain ⟨hB, hx, d0, d3⟩ := snc_ok hs
    have hp : pcode t.1 t.2.1 t.2.2 = 0 := Classical.byContradiction fun k => by
      unfold snc at hs
      rw [if_neg k] at hs
      exact k hs
    generalize meF true t x D = m at *
    obtain ⟨⟨a, b⟩, c⟩ := m
    obtain rfl : c = 0 := h
    dsimp only
    have S := fun W => rscale_any a b (hgt t x) W
    have HC := fun W => hgt_any t x W hB hx
    by_cases k : (scaleR a b (hgt t x)).2 = 0
    · rw [if_pos k]
      have PT := fun W => rpart_any (scaleR a b (hgt t x)).1.1 (scaleR a b (hgt t x)).1.2 2 W
      generalize scaleR a b (hgt t x) = r at *
      obtain ⟨⟨p, q⟩, c⟩ := r
      obtain rfl : c = 0 := k
      exact rsa_ok t x D a b _ p q _ w (Lib.hid M) (Lib.hid HC) (Lib.hid S) (Lib.hid PT)
    · rw [if_neg k]
      generalize scaleR a b (hgt t x) = r at *
      obtain ⟨⟨p, q⟩, c⟩ := r
      exact rsa_e2 t x D a b _ p q c w (Lib.hid M) (Lib.hid HC) (Lib.hid S) (bne_iff_ne.2 k)
  · rw [if_neg h]
    generalize meF true t x D = m at *
    obtain ⟨⟨a, b⟩, c⟩ := m
    exact rsa_e1 t x D a b c w (Lib.hid M) (bne_iff_ne.2 h)

end Go.Proofs.Ytjigcgpcglfjfaa
