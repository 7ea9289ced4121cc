/-
  The contracts of field.near and of the words that it calls: differences, scalar products, gaps; a group of points in memory.
-/
import Derived.Test.YtjigcgpcglfjfaaFgN
import Derived.Test.YtjigcgpcglfjfaaFiCo
namespace Go.Proofs.Ytjigcgpcglfjfaa
open Go.ChangeShapes Go.WideShapes Go.RowKit
open Sh
attribute [local go_sem 1000000] run_min_mn run_max_mx
attribute [local go_sem high] run_max3' run_min3'
theorem fminus_any (a b : P3) (w : World) (h : BdP 4611686018427387904 (sub a b)) :
    Calls Try.prog 56 #[ptv a, ptv b] w fun e w' => e = .returned (ptv (sub a b)) ∧ Below w.heap.size w w' := by
  simp only [BdP, sub] at h
  obtain ⟨h1, h2, h3, h4, h5, h6⟩ := h
  go_enter Try.func56, Try.ntmps56
  go_wp2
  refine bodyPost_ret (v := ptv (sub a b)) (by rw [results_cell rfl]; go_simp; exact ⟨rfl, rfl, rfl⟩) rfl ⟨rfl, ?_⟩
  (repeat' (first | exact Below.refl _ _ | refine Below.setCell ?_ (by simp <;> omega) _ | refine balloc ?_ _ | refine Below.drew ?_ | refine bdrewN ?_ _))
theorem fscalar_any (a b : P3) (w : World) (h : BdP 1152921504606846976 (pw a b)) :
    Calls Try.prog 55 #[ptv a, ptv b] w fun e w' => e = .returned (.int .i64 (dot a b)) ∧ Below w.heap.size w w' := by
  simp only [BdP, pw] at h
  obtain ⟨h1, h2, h3, h4, h5, h6⟩ := h
  go_enter Try.func55, Try.ntmps55
  go_wp2
  go_ret
  exact ⟨rfl, by (repeat' (first | exact Below.refl _ _ | refine Below.setCell ?_ (by simp <;> omega) _ | refine balloc ?_ _ | refine Below.drew ?_ | refine bdrewN ?_ _))⟩
theorem fgap_any (al ah bl bh : Int) (w : World) (h1 : -4611686018427387904 ≤ bl - ah ∧ bl - ah ≤ 4611686018427387904) (h2 : -4611686018427387904 ≤ al - bh ∧ al - bh ≤ 4611686018427387904) : Calls Try.prog 172 #[.int .i64 al, .int .i64 ah, .int .i64 bl, .int .i64 bh] w fun e w' => e = .returned (.int .i64 (gp al ah bl bh)) ∧ Below w.heap.size w w' := by
  obtain ⟨h1, h3⟩ := h1
  obtain ⟨h2, h4⟩ := h2
  unfold gp
  go_enter Try.func172, Try.ntmps172
  go_wp2
  go_ret
  exact ⟨rfl, by (repeat' (first | exact Below.refl _ _ | refine Below.setCell ?_ (by simp <;> omega) _ | refine balloc ?_ _ | refine Below.drew ?_ | refine bdrewN ?_ _))⟩
/-- a group of points as a value, as a block -/
abbrev grv (b n c : Nat) (lo hi : P3) : Value := .agg #[.slice (some ⟨b, 0, none⟩) n c, .int .i64 lo.1, .int .i64 lo.2.1, .int .i64 lo.2.2, .int .i64 hi.1, .int .i64 hi.2.1, .int .i64 hi.2.2]
abbrev grb (b n c : Nat) (lo hi : P3) (t : TypeId) : Obj := .cells #[.slice (some ⟨b, 0, none⟩) n c, .int .i64 lo.1, .int .i64 lo.2.1, .int .i64 lo.2.2, .int .i64 hi.1, .int .i64 hi.2.1, .int .i64 hi.2.2] t
def Grp (w : World) (q b n c : Nat) (lo hi : P3) : Prop := (w.cell? ⟨q, 0, none⟩ = some (.slice (some ⟨b, 0, none⟩) n c) ∧ w.cell? ⟨q, 1, none⟩ = some (.int .i64 lo.1) ∧ w.cell? ⟨q, 2, none⟩ = some (.int .i64 lo.2.1) ∧ w.cell? ⟨q, 3, none⟩ = some (.int .i64 lo.2.2) ∧ w.cell? ⟨q, 4, none⟩ = some (.int .i64 hi.1) ∧ w.cell? ⟨q, 5, none⟩ = some (.int .i64 hi.2.1) ∧ w.cell? ⟨q, 6, none⟩ = some (.int .i64 hi.2.2)) ∧ q < w.heap.size
theorem grp_new (w : World) (b n c : Nat) (lo hi : P3) (t : TypeId) : Grp (w.alloc (grb b n c lo hi t)) w.heap.size b n c lo hi :=
  ⟨⟨by go_simp, by go_simp, by go_simp, by go_simp, by go_simp, by go_simp, by go_simp⟩, by simp⟩
theorem grp_in {w w1 : World} {N q b n c : Nat} {lo hi : P3} (h : Grp w q b n c lo hi) (hb : Below N w w1) (hq : q < N) : Grp w1 q b n c lo hi := by
  obtain ⟨⟨h0, h1, h2, h3, h4, h5, h6⟩, h7⟩ := h
  exact ⟨⟨(hb.cell (p := ⟨q, 0, none⟩) hq).trans h0, (hb.cell (p := ⟨q, 1, none⟩) hq).trans h1, (hb.cell (p := ⟨q, 2, none⟩) hq).trans h2, (hb.cell (p := ⟨q, 3, none⟩) hq).trans h3, (hb.cell (p := ⟨q, 4, none⟩) hq).trans h4, (hb.cell (p := ⟨q, 5, none⟩) hq).trans h5, (hb.cell (p := ⟨q, 6, none⟩) hq).trans h6⟩, Nat.lt_of_lt_of_le h7 hb.size⟩
theorem grp_below {w w1 : World} {q b n c : Nat} {lo hi : P3} (h : Grp w q b n c lo hi) (hb : Below w.heap.size w w1) : Grp w1 q b n c lo hi := grp_in h hb h.2
theorem grp_alloc {w : World} {q b n c : Nat} {lo hi : P3} (h : Grp w q b n c lo hi) (o : Obj) : Grp (w.alloc o) q b n c lo hi := grp_below h ((Below.refl _ _).alloc (Nat.le_refl _) _)
theorem grp_drew {w : World} {q b n c : Nat} {lo hi : P3} (h : Grp w q b n c lo hi) : Grp w.drew q b n c lo hi := h
def fnrOps : Array Oper := #[{ dst := some 6, op := Op.fieldAddr 101 (Operand.tmp 2) 1, type := 0, pos := "group.go:48", after := #[], guard := none }, { dst := some 7, op := Op.fieldAddr 23 (Operand.tmp 6) 0, type := 0, pos := "group.go:48", after := #[{ on := 0, ground := Ground.data }], guard := none }, { dst := some 8, op := Op.load 3 (Operand.tmp 7), type := 3, pos := "group.go:48", after := #[{ on := 1, ground := Ground.data }], guard := none }, { dst := some 9, op := Op.fieldAddr 101 (Operand.tmp 2) 2, type := 0, pos := "group.go:48", after := #[], guard := none }, { dst := some 10, op := Op.fieldAddr 23 (Operand.tmp 9) 0, type := 0, pos := "group.go:48", after := #[{ on := 3, ground := Ground.data }], guard := none }, { dst := some 11, op := Op.load 3 (Operand.tmp 10), type := 3, pos := "group.go:48", after := #[{ on := 4, ground := Ground.data }], guard := none }, { dst := some 12, op := Op.fieldAddr 101 (Operand.tmp 3) 1, type := 0, pos := "group.go:48", after := #[], guard := none }, { dst := some 13, op := Op.fieldAddr 23 (Operand.tmp 12) 0, type := 0, pos := "group.go:48", after := #[{ on := 6, ground := Ground.data }], guard := none }, { dst := some 14, op := Op.load 3 (Operand.tmp 13), type := 3, pos := "group.go:48", after := #[{ on := 7, ground := Ground.data }], guard := none }, { dst := some 15, op := Op.fieldAddr 101 (Operand.tmp 3) 2, type := 0, pos := "group.go:48", after := #[], guard := none }, { dst := some 16, op := Op.fieldAddr 23 (Operand.tmp 15) 0, type := 0, pos := "group.go:48", after := #[{ on := 9, ground := Ground.data }], guard := none }, { dst := some 17, op := Op.load 3 (Operand.tmp 16), type := 3, pos := "group.go:48", after := #[{ on := 10, ground := Ground.data }], guard := none }, { dst := some 18, op := Op.call { callee := Callee.value (Operand.func 172), args := #[Operand.tmp 8, Operand.tmp 11, Operand.tmp 14, Operand.tmp 17], argTypes := #[3, 3, 3, 3] }, type := 3, pos := "group.go:49", after := #[{ on := 2, ground := Ground.data }, { on := 5, ground := Ground.data }, { on := 8, ground := Ground.data }, { on := 11, ground := Ground.data }], guard := none }, { dst := some 19, op := Op.fieldAddr 101 (Operand.tmp 2) 1, type := 0, pos := "group.go:48", after := #[], guard := none }, { dst := some 20, op := Op.fieldAddr 23 (Operand.tmp 19) 1, type := 0, pos := "group.go:48", after := #[{ on := 13, ground := Ground.data }], guard := none }, { dst := some 21, op := Op.load 3 (Operand.tmp 20), type := 3, pos := "group.go:48", after := #[{ on := 14, ground := Ground.data }], guard := none }, { dst := some 22, op := Op.fieldAddr 101 (Operand.tmp 2) 2, type := 0, pos := "group.go:48", after := #[], guard := none }, { dst := some 23, op := Op.fieldAddr 23 (Operand.tmp 22) 1, type := 0, pos := "group.go:48", after := #[{ on := 16, ground := Ground.data }], guard := none }, { dst := some 24, op := Op.load 3 (Operand.tmp 23), type := 3, pos := "group.go:48", after := #[{ on := 17, ground := Ground.data }], guard := none }, { dst := some 25, op := Op.fieldAddr 101 (Operand.tmp 3) 1, type := 0, pos := "group.go:48", after := #[], guard := none }, { dst := some 26, op := Op.fieldAddr 23 (Operand.tmp 25) 1, type := 0, pos := "group.go:48", after := #[{ on := 19, ground := Ground.data }], guard := none }, { dst := some 27, op := Op.load 3 (Operand.tmp 26), type := 3, pos := "group.go:48", after := #[{ on := 20, ground := Ground.data }], guard := none }, { dst := some 28, op := Op.fieldAddr 101 (Operand.tmp 3) 2, type := 0, pos := "group.go:48", after := #[], guard := none }, { dst := some 29, op := Op.fieldAddr 23 (Operand.tmp 28) 1, type := 0, pos := "group.go:48", after := #[{ on := 22, ground := Ground.data }], guard := none }, { dst := some 30, op := Op.load 3 (Operand.tmp 29), type := 3, pos := "group.go:48", after := #[{ on := 23, ground := Ground.data }], guard := none }, { dst := some 31, op := Op.call { callee := Callee.value (Operand.func 172), args := #[Operand.tmp 21, Operand.tmp 24, Operand.tmp 27, Operand.tmp 30], argTypes := #[3, 3, 3, 3] }, type := 3, pos := "group.go:50", after := #[{ on := 15, ground := Ground.data }, { on := 18, ground := Ground.data }, { on := 21, ground := Ground.data }, { on := 24, ground := Ground.data }, { on := 12, ground := Ground.chain }], guard := none }, { dst := some 32, op := Op.fieldAddr 101 (Operand.tmp 2) 1, type := 0, pos := "group.go:48", after := #[], guard := none }, { dst := some 33, op := Op.fieldAddr 23 (Operand.tmp 32) 2, type := 0, pos := "group.go:48", after := #[{ on := 26, ground := Ground.data }], guard := none }, { dst := some 34, op := Op.load 3 (Operand.tmp 33), type := 3, pos := "group.go:48", after := #[{ on := 27, ground := Ground.data }], guard := none }, { dst := some 35, op := Op.fieldAddr 101 (Operand.tmp 2) 2, type := 0, pos := "group.go:48", after := #[], guard := none }, { dst := some 36, op := Op.fieldAddr 23 (Operand.tmp 35) 2, type := 0, pos := "group.go:48", after := #[{ on := 29, ground := Ground.data }], guard := none }, { dst := some 37, op := Op.load 3 (Operand.tmp 36), type := 3, pos := "group.go:48", after := #[{ on := 30, ground := Ground.data }], guard := none }, { dst := some 38, op := Op.fieldAddr 101 (Operand.tmp 3) 1, type := 0, pos := "group.go:48", after := #[], guard := none }, { dst := some 39, op := Op.fieldAddr 23 (Operand.tmp 38) 2, type := 0, pos := "group.go:48", after := #[{ on := 32, ground := Ground.data }], guard := none }, { dst := some 40, op := Op.load 3 (Operand.tmp 39), type := 3, pos := "group.go:48", after := #[{ on := 33, ground := Ground.data }], guard := none }, { dst := some 41, op := Op.fieldAddr 101 (Operand.tmp 3) 2, type := 0, pos := "group.go:48", after := #[], guard := none }, { dst := some 42, op := Op.fieldAddr 23 (Operand.tmp 41) 2, type := 0, pos := "group.go:48", after := #[{ on := 35, ground := Ground.data }], guard := none }, { dst := some 43, op := Op.load 3 (Operand.tmp 42), type := 3, pos := "group.go:48", after := #[{ on := 36, ground := Ground.data }], guard := none }, { dst := some 44, op := Op.call { callee := Callee.value (Operand.func 172), args := #[Operand.tmp 34, Operand.tmp 37, Operand.tmp 40, Operand.tmp 43], argTypes := #[3, 3, 3, 3] }, type := 3, pos := "group.go:51", after := #[{ on := 28, ground := Ground.data }, { on := 31, ground := Ground.data }, { on := 34, ground := Ground.data }, { on := 37, ground := Ground.data }, { on := 25, ground := Ground.chain }], guard := none }, { dst := some 45, op := Op.build 23 #[(0, Operand.tmp 18), (1, Operand.tmp 31), (2, Operand.tmp 44)], type := 23, pos := "group.go:48", after := #[{ on := 12, ground := Ground.data }, { on := 25, ground := Ground.data }, { on := 38, ground := Ground.data }], guard := none }, { dst := some 5, op := Op.alloc 23, type := 0, pos := "group.go:48", after := #[], guard := none }, { dst := none, op := Op.store 23 (Operand.tmp 5) (Operand.tmp 45), type := 0, pos := "group.go:48", after := #[{ on := 40, ground := Ground.data }, { on := 39, ground := Ground.data }, { on := 38, ground := Ground.chain }, { on := 0, ground := Ground.phase }, { on := 1, ground := Ground.phase }, { on := 2, ground := Ground.phase }, { on := 3, ground := Ground.phase }, { on := 4, ground := Ground.phase }, { on := 5, ground := Ground.phase }, { on := 6, ground := Ground.phase }, { on := 7, ground := Ground.phase }, { on := 8, ground := Ground.phase }, { on := 9, ground := Ground.phase }, { on := 10, ground := Ground.phase }, { on := 11, ground := Ground.phase }, { on := 12, ground := Ground.phase }, { on := 13, ground := Ground.phase }, { on := 14, ground := Ground.phase }, { on := 15, ground := Ground.phase }, { on := 16, ground := Ground.phase }, { on := 17, ground := Ground.phase }, { on := 18, ground := Ground.phase }, { on := 19, ground := Ground.phase }, { on := 20, ground := Ground.phase }, { on := 21, ground := Ground.phase }, { on := 22, ground := Ground.phase }, { on := 23, ground := Ground.phase }, { on := 24, ground := Ground.phase }, { on := 25, ground := Ground.phase }, { on := 26, ground := Ground.phase }, { on := 27, ground := Ground.phase }, { on := 28, ground := Ground.phase }, { on := 29, ground := Ground.phase }, { on := 30, ground := Ground.phase }, { on := 31, ground := Ground.phase }, { on := 32, ground := Ground.phase }, { on := 33, ground := Ground.phase }, { on := 34, ground := Ground.phase }, { on := 35, ground := Ground.phase }, { on := 36, ground := Ground.phase }, { on := 37, ground := Ground.phase }, { on := 38, ground := Ground.phase }, { on := 39, ground := Ground.phase }, { on := 40, ground := Ground.phase }], guard := none }]
def fnrT (x : Nat) (y : Nat) (y0 y1 y46 y47 y48 : Value) (X : Nat → Value) : Array Value := #[y0, y1, .pointer (some ⟨x, 0, none⟩), .pointer (some ⟨y, 0, none⟩), .int .i64 0, X 5, X 6, X 7, X 8, X 9, X 10, X 11, X 12, X 13, X 14, X 15, X 16, X 17, X 18, X 19, X 20, X 21, X 22, X 23, X 24, X 25, X 26, X 27, X 28, X 29, X 30, X 31, X 32, X 33, X 34, X 35, X 36, X 37, X 38, X 39, X 40, X 41, X 42, X 43, X 44, X 45, y46, y47, y48]
theorem fnrT_eq (x : Nat) (y : Nat) (y0 y1 y46 y47 y48 : Value) (X : Nat → Value) : fnrT x y y0 y1 y46 y47 y48 X = #[y0, y1, .pointer (some ⟨x, 0, none⟩), .pointer (some ⟨y, 0, none⟩), .int .i64 0, X 5, X 6, X 7, X 8, X 9, X 10, X 11, X 12, X 13, X 14, X 15, X 16, X 17, X 18, X 19, X 20, X 21, X 22, X 23, X 24, X 25, X 26, X 27, X 28, X 29, X 30, X 31, X 32, X 33, X 34, X 35, X 36, X 37, X 38, X 39, X 40, X 41, X 42, X 43, X 44, X 45, y46, y47, y48] := rfl
def fnrI (G : World → Prop) (N : Nat) (x y : Nat) (al ah bl bh : P3) (y0 y1 y46 y47 y48 : Value) (l : Array Bool) (A : Act) (W : World) : Prop :=
  l.size = 42 ∧ ∃ X : Nat → Value, A = { tmps := fnrT x y y0 y1 y46 y47 y48 X, defers := [] } ∧ N ≤ W.heap.size ∧ G W ∧ PV l 0 (X 6) (.pointer (some ⟨x, 1, none⟩)) ∧ PV l 1 (X 7) (.pointer (some ⟨x, 1, none⟩)) ∧ PV l 2 (X 8) (.int .i64 al.1) ∧ PV l 3 (X 9) (.pointer (some ⟨x, 4, none⟩)) ∧ PV l 4 (X 10) (.pointer (some ⟨x, 4, none⟩)) ∧ PV l 5 (X 11) (.int .i64 ah.1) ∧ PV l 6 (X 12) (.pointer (some ⟨y, 1, none⟩)) ∧ PV l 7 (X 13) (.pointer (some ⟨y, 1, none⟩)) ∧ PV l 8 (X 14) (.int .i64 bl.1) ∧ PV l 9 (X 15) (.pointer (some ⟨y, 4, none⟩)) ∧ PV l 10 (X 16) (.pointer (some ⟨y, 4, none⟩)) ∧ PV l 11 (X 17) (.int .i64 bh.1) ∧ PV l 12 (X 18) (.int .i64 (gp al.1 ah.1 bl.1 bh.1)) ∧ PV l 13 (X 19) (.pointer (some ⟨x, 1, none⟩)) ∧ PV l 14 (X 20) (.pointer (some ⟨x, 2, none⟩)) ∧ PV l 15 (X 21) (.int .i64 al.2.1) ∧ PV l 16 (X 22) (.pointer (some ⟨x, 4, none⟩)) ∧ PV l 17 (X 23) (.pointer (some ⟨x, 5, none⟩)) ∧ PV l 18 (X 24) (.int .i64 ah.2.1) ∧ PV l 19 (X 25) (.pointer (some ⟨y, 1, none⟩)) ∧ PV l 20 (X 26) (.pointer (some ⟨y, 2, none⟩)) ∧ PV l 21 (X 27) (.int .i64 bl.2.1) ∧ PV l 22 (X 28) (.pointer (some ⟨y, 4, none⟩)) ∧ PV l 23 (X 29) (.pointer (some ⟨y, 5, none⟩)) ∧ PV l 24 (X 30) (.int .i64 bh.2.1) ∧ PV l 25 (X 31) (.int .i64 (gp al.2.1 ah.2.1 bl.2.1 bh.2.1)) ∧ PV l 26 (X 32) (.pointer (some ⟨x, 1, none⟩)) ∧ PV l 27 (X 33) (.pointer (some ⟨x, 3, none⟩)) ∧ PV l 28 (X 34) (.int .i64 al.2.2) ∧ PV l 29 (X 35) (.pointer (some ⟨x, 4, none⟩)) ∧ PV l 30 (X 36) (.pointer (some ⟨x, 6, none⟩)) ∧ PV l 31 (X 37) (.int .i64 ah.2.2) ∧ PV l 32 (X 38) (.pointer (some ⟨y, 1, none⟩)) ∧ PV l 33 (X 39) (.pointer (some ⟨y, 3, none⟩)) ∧ PV l 34 (X 40) (.int .i64 bl.2.2) ∧ PV l 35 (X 41) (.pointer (some ⟨y, 4, none⟩)) ∧ PV l 36 (X 42) (.pointer (some ⟨y, 6, none⟩)) ∧ PV l 37 (X 43) (.int .i64 bh.2.2) ∧ PV l 38 (X 44) (.int .i64 (gp al.2.2 ah.2.2 bl.2.2 bh.2.2)) ∧ PV l 39 (X 45) (ptv (gp3 al ah bl bh)) ∧ QA l W (X 5) 40 41 N ((gp3 al ah bl bh))
set_option maxRecDepth 100000 in
set_option maxHeartbeats 4000000 in
theorem fnr_steps (G : World → Prop) (N : Nat) (x y : Nat) (al ah bl bh : P3) (y0 y1 y46 y47 y48 : Value) (Q : Exit → Act → World → Prop) (G1 : Hid ((-4611686018427387904 ≤ bl.1 - ah.1 ∧ bl.1 - ah.1 ≤ 4611686018427387904) ∧ (-4611686018427387904 ≤ al.1 - bh.1 ∧ al.1 - bh.1 ≤ 4611686018427387904))) (G2 : Hid ((-4611686018427387904 ≤ bl.2.1 - ah.2.1 ∧ bl.2.1 - ah.2.1 ≤ 4611686018427387904) ∧ (-4611686018427387904 ≤ al.2.1 - bh.2.1 ∧ al.2.1 - bh.2.1 ≤ 4611686018427387904))) (G3 : Hid ((-4611686018427387904 ≤ bl.2.2 - ah.2.2 ∧ bl.2.2 - ah.2.2 ≤ 4611686018427387904) ∧ (-4611686018427387904 ≤ al.2.2 - bh.2.2 ∧ al.2.2 - bh.2.2 ≤ 4611686018427387904))) (GC : Hid (∀ W : World, G W → W.cell? ⟨x, 1, none⟩ = some (.int .i64 al.1) ∧ W.cell? ⟨x, 2, none⟩ = some (.int .i64 al.2.1) ∧ W.cell? ⟨x, 3, none⟩ = some (.int .i64 al.2.2) ∧ W.cell? ⟨x, 4, none⟩ = some (.int .i64 ah.1) ∧ W.cell? ⟨x, 5, none⟩ = some (.int .i64 ah.2.1) ∧ W.cell? ⟨x, 6, none⟩ = some (.int .i64 ah.2.2) ∧ W.cell? ⟨y, 1, none⟩ = some (.int .i64 bl.1) ∧ W.cell? ⟨y, 2, none⟩ = some (.int .i64 bl.2.1) ∧ W.cell? ⟨y, 3, none⟩ = some (.int .i64 bl.2.2) ∧ W.cell? ⟨y, 4, none⟩ = some (.int .i64 bh.1) ∧ W.cell? ⟨y, 5, none⟩ = some (.int .i64 bh.2.1) ∧ W.cell? ⟨y, 6, none⟩ = some (.int .i64 bh.2.2))) (GI : Hid (∀ W W' : World, Below N W W' → G W → G W')) :
    allOps (fun i o => ∀ (l : Array Bool) (A : Act) (W : World), fnrI G N x y al ah bl bh y0 y1 y46 y47 y48 l A W → l.getD i true = false → (∀ e ∈ o.after, Region.binds .any e = true → l.getD e.on false = true) → ∀ K' : Act → World → Prop, (∀ A' W', fnrI G N x y al ah bl bh y0 y1 y46 y47 y48 (l.setIfInBounds i true) A' W' → K' A' W') → if Region.wanted o (yielded fnrOps A.tmps) = true then Oper.wp Try.prog o A W K' Q else K' (A.put o.dst undef) W) 0 fnrOps.toList := by
  simp only [fnrOps, allOps]
  refine ⟨?_, ?_, ?_, ?_, ?_, ?_, ?_, ?_, ?_, ?_, ?_, ?_, ?_, ?_, ?_, ?_, ?_, ?_, ?_, ?_, ?_, ?_, ?_, ?_, ?_, ?_, ?_, ?_, ?_, ?_, ?_, ?_, ?_, ?_, ?_, ?_, ?_, ?_, ?_, ?_, ?_, ?_, trivial⟩
  · rintro l A W ⟨hl, X, rfl, hN, g, F⟩ h1 hp K hK
    rw [fnrT_eq]
    have g' := Lib.hid g
    have F' := Lib.hid F; clear F g
    have hN' := Lib.hid hN; clear hN; have hl' := Lib.hid hl; clear hl; have h1' := Lib.hid h1; clear h1; have hp' := Lib.hid hp; clear hp; have hK' := Lib.hid hK; clear hK
    go_simp
    have hK := hK'.out; have hN := hN'.out; have hl := hl'.out; have h1 := h1'.out
    obtain ⟨p0, p1, p2, p3, p4, p5, p6, p7, p8, p9, p10, p11, p12, p13, p14, p15, p16, p17, p18, p19, p20, p21, p22, p23, p24, p25, p26, p27, p28, p29, p30, p31, p32, p33, p34, p35, p36, p37, p38, p39, qa0⟩ := F'.out
    have g := g'.out
    refine hK _ _ ⟨by simpa using hl, (upd X 6 (.pointer (some ⟨x, 1, none⟩))), rfl, hN, g, PV.made rfl, p1.k, p2.k, p3.k, p4.k, p5.k, p6.k, p7.k, p8.k, p9.k, p10.k, p11.k, p12.k, p13.k, p14.k, p15.k, p16.k, p17.k, p18.k, p19.k, p20.k, p21.k, p22.k, p23.k, p24.k, p25.k, p26.k, p27.k, p28.k, p29.k, p30.k, p31.k, p32.k, p33.k, p34.k, p35.k, p36.k, p37.k, p38.k, p39.k, qa0.keep (by decide) (by decide) (fun _ _ h => h)⟩
  · rintro l A W ⟨hl, X, rfl, hN, g, F⟩ h1 hp K hK
    have e0 := F.1 (hp ⟨0, .data⟩ (by simp) rfl)
    rw [fnrT_eq]
    have g' := Lib.hid g
    have F' := Lib.hid F; clear F g
    have hN' := Lib.hid hN; clear hN; have hl' := Lib.hid hl; clear hl; have h1' := Lib.hid h1; clear h1; have hp' := Lib.hid hp; clear hp; have hK' := Lib.hid hK; clear hK
    go_simp
    have hK := hK'.out; have hN := hN'.out; have hl := hl'.out; have h1 := h1'.out
    obtain ⟨p0, p1, p2, p3, p4, p5, p6, p7, p8, p9, p10, p11, p12, p13, p14, p15, p16, p17, p18, p19, p20, p21, p22, p23, p24, p25, p26, p27, p28, p29, p30, p31, p32, p33, p34, p35, p36, p37, p38, p39, qa0⟩ := F'.out
    have g := g'.out
    refine hK _ _ ⟨by simpa using hl, (upd (upd X 6 (.pointer (some ⟨x, 1, none⟩))) 7 (.pointer (some ⟨x, 1, none⟩))), rfl, hN, g, PV.made rfl, PV.made rfl, p2.k, p3.k, p4.k, p5.k, p6.k, p7.k, p8.k, p9.k, p10.k, p11.k, p12.k, p13.k, p14.k, p15.k, p16.k, p17.k, p18.k, p19.k, p20.k, p21.k, p22.k, p23.k, p24.k, p25.k, p26.k, p27.k, p28.k, p29.k, p30.k, p31.k, p32.k, p33.k, p34.k, p35.k, p36.k, p37.k, p38.k, p39.k, qa0.keep (by decide) (by decide) (fun _ _ h => h)⟩
  · rintro l A W ⟨hl, X, rfl, hN, g, F⟩ h1 hp K hK
    have e1 := F.2.1 (hp ⟨1, .data⟩ (by simp) rfl)
    obtain ⟨c1, c2, c3, c4, c5, c6, d1, d2, d3, d4, d5, d6⟩ := GC.out W g
    rw [fnrT_eq]
    have g' := Lib.hid g
    have F' := Lib.hid F; clear F g
    have hN' := Lib.hid hN; clear hN; have hl' := Lib.hid hl; clear hl; have h1' := Lib.hid h1; clear h1; have hp' := Lib.hid hp; clear hp; have hK' := Lib.hid hK; clear hK
    go_simp
    have hK := hK'.out; have hN := hN'.out; have hl := hl'.out; have h1 := h1'.out
    obtain ⟨p0, p1, p2, p3, p4, p5, p6, p7, p8, p9, p10, p11, p12, p13, p14, p15, p16, p17, p18, p19, p20, p21, p22, p23, p24, p25, p26, p27, p28, p29, p30, p31, p32, p33, p34, p35, p36, p37, p38, p39, qa0⟩ := F'.out
    have g := g'.out
    refine hK _ _ ⟨by simpa using hl, (upd (upd X 7 (.pointer (some ⟨x, 1, none⟩))) 8 (.int .i64 al.1)), rfl, hN, g, p0.k, PV.made rfl, PV.made rfl, p3.k, p4.k, p5.k, p6.k, p7.k, p8.k, p9.k, p10.k, p11.k, p12.k, p13.k, p14.k, p15.k, p16.k, p17.k, p18.k, p19.k, p20.k, p21.k, p22.k, p23.k, p24.k, p25.k, p26.k, p27.k, p28.k, p29.k, p30.k, p31.k, p32.k, p33.k, p34.k, p35.k, p36.k, p37.k, p38.k, p39.k, qa0.keep (by decide) (by decide) (fun _ _ h => h)⟩
  · rintro l A W ⟨hl, X, rfl, hN, g, F⟩ h1 hp K hK
    rw [fnrT_eq]
    have g' := Lib.hid g
    have F' := Lib.hid F; clear F g
    have hN' := Lib.hid hN; clear hN; have hl' := Lib.hid hl; clear hl; have h1' := Lib.hid h1; clear h1; have hp' := Lib.hid hp; clear hp; have hK' := Lib.hid hK; clear hK
    go_simp
    have hK := hK'.out; have hN := hN'.out; have hl := hl'.out; have h1 := h1'.out
    obtain ⟨p0, p1, p2, p3, p4, p5, p6, p7, p8, p9, p10, p11, p12, p13, p14, p15, p16, p17, p18, p19, p20, p21, p22, p23, p24, p25, p26, p27, p28, p29, p30, p31, p32, p33, p34, p35, p36, p37, p38, p39, qa0⟩ := F'.out
    have g := g'.out
    refine hK _ _ ⟨by simpa using hl, (upd X 9 (.pointer (some ⟨x, 4, none⟩))), rfl, hN, g, p0.k, p1.k, p2.k, PV.made rfl, p4.k, p5.k, p6.k, p7.k, p8.k, p9.k, p10.k, p11.k, p12.k, p13.k, p14.k, p15.k, p16.k, p17.k, p18.k, p19.k, p20.k, p21.k, p22.k, p23.k, p24.k, p25.k, p26.k, p27.k, p28.k, p29.k, p30.k, p31.k, p32.k, p33.k, p34.k, p35.k, p36.k, p37.k, p38.k, p39.k, qa0.keep (by decide) (by decide) (fun _ _ h => h)⟩
  · rintro l A W ⟨hl, X, rfl, hN, g, F⟩ h1 hp K hK
    have e3 := F.2.2.2.1 (hp ⟨3, .data⟩ (by simp) rfl)
    rw [fnrT_eq]
    have g' := Lib.hid g
    have F' := Lib.hid F; clear F g
    have hN' := Lib.hid hN; clear hN; have hl' := Lib.hid hl; clear hl; have h1' := Lib.hid h1; clear h1; have hp' := Lib.hid hp; clear hp; have hK' := Lib.hid hK; clear hK
    go_simp
    have hK := hK'.out; have hN := hN'.out; have hl := hl'.out; have h1 := h1'.out
    obtain ⟨p0, p1, p2, p3, p4, p5, p6, p7, p8, p9, p10, p11, p12, p13, p14, p15, p16, p17, p18, p19, p20, p21, p22, p23, p24, p25, p26, p27, p28, p29, p30, p31, p32, p33, p34, p35, p36, p37, p38, p39, qa0⟩ := F'.out
    have g := g'.out
    refine hK _ _ ⟨by simpa using hl, (upd (upd X 9 (.pointer (some ⟨x, 4, none⟩))) 10 (.pointer (some ⟨x, 4, none⟩))), rfl, hN, g, p0.k, p1.k, p2.k, PV.made rfl, PV.made rfl, p5.k, p6.k, p7.k, p8.k, p9.k, p10.k, p11.k, p12.k, p13.k, p14.k, p15.k, p16.k, p17.k, p18.k, p19.k, p20.k, p21.k, p22.k, p23.k, p24.k, p25.k, p26.k, p27.k, p28.k, p29.k, p30.k, p31.k, p32.k, p33.k, p34.k, p35.k, p36.k, p37.k, p38.k, p39.k, qa0.keep (by decide) (by decide) (fun _ _ h => h)⟩
  · rintro l A W ⟨hl, X, rfl, hN, g, F⟩ h1 hp K hK
    have e4 := F.2.2.2.2.1 (hp ⟨4, .data⟩ (by simp) rfl)
    obtain ⟨c1, c2, c3, c4, c5, c6, d1, d2, d3, d4, d5, d6⟩ := GC.out W g
    rw [fnrT_eq]
    have g' := Lib.hid g
    have F' := Lib.hid F; clear F g
    have hN' := Lib.hid hN; clear hN; have hl' := Lib.hid hl; clear hl; have h1' := Lib.hid h1; clear h1; have hp' := Lib.hid hp; clear hp; have hK' := Lib.hid hK; clear hK
    go_simp
    have hK := hK'.out; have hN := hN'.out; have hl := hl'.out; have h1 := h1'.out
    obtain ⟨p0, p1, p2, p3, p4, p5, p6, p7, p8, p9, p10, p11, p12, p13, p14, p15, p16, p17, p18, p19, p20, p21, p22, p23, p24, p25, p26, p27, p28, p29, p30, p31, p32, p33, p34, p35, p36, p37, p38, p39, qa0⟩ := F'.out
    have g := g'.out
    refine hK _ _ ⟨by simpa using hl, (upd (upd X 10 (.pointer (some ⟨x, 4, none⟩))) 11 (.int .i64 ah.1)), rfl, hN, g, p0.k, p1.k, p2.k, p3.k, PV.made rfl, PV.made rfl, p6.k, p7.k, p8.k, p9.k, p10.k, p11.k, p12.k, p13.k, p14.k, p15.k, p16.k, p17.k, p18.k, p19.k, p20.k, p21.k, p22.k, p23.k, p24.k, p25.k, p26.k, p27.k, p28.k, p29.k, p30.k, p31.k, p32.k, p33.k, p34.k, p35.k, p36.k, p37.k, p38.k, p39.k, qa0.keep (by decide) (by decide) (fun _ _ h => h)⟩
  · rintro l A W ⟨hl, X, rfl, hN, g, F⟩ h1 hp K hK
    rw [fnrT_eq]
    have g' := Lib.hid g
    have F' := Lib.hid F; clear F g
    have hN' := Lib.hid hN; clear hN; have hl' := Lib.hid hl; clear hl; have h1' := Lib.hid h1; clear h1; have hp' := Lib.hid hp; clear hp; have hK' := Lib.hid hK; clear hK
    go_simp
    have hK := hK'.out; have hN := hN'.out; have hl := hl'.out; have h1 := h1'.out
    obtain ⟨p0, p1, p2, p3, p4, p5, p6, p7, p8, p9, p10, p11, p12, p13, p14, p15, p16, p17, p18, p19, p20, p21, p22, p23, p24, p25, p26, p27, p28, p29, p30, p31, p32, p33, p34, p35, p36, p37, p38, p39, qa0⟩ := F'.out
    have g := g'.out
    refine hK _ _ ⟨by simpa using hl, (upd X 12 (.pointer (some ⟨y, 1, none⟩))), rfl, hN, g, p0.k, p1.k, p2.k, p3.k, p4.k, p5.k, PV.made rfl, p7.k, p8.k, p9.k, p10.k, p11.k, p12.k, p13.k, p14.k, p15.k, p16.k, p17.k, p18.k, p19.k, p20.k, p21.k, p22.k, p23.k, p24.k, p25.k, p26.k, p27.k, p28.k, p29.k, p30.k, p31.k, p32.k, p33.k, p34.k, p35.k, p36.k, p37.k, p38.k, p39.k, qa0.keep (by decide) (by decide) (fun _ _ h => h)⟩
  · rintro l A W ⟨hl, X, rfl, hN, g, F⟩ h1 hp K hK
    have e6 := F.2.2.2.2.2.2.1 (hp ⟨6, .data⟩ (by simp) rfl)
    rw [fnrT_eq]
    have g' := Lib.hid g
    have F' := Lib.hid F; clear F g
    have hN' := Lib.hid hN; clear hN; have hl' := Lib.hid hl; clear hl; have h1' := Lib.hid h1; clear h1; have hp' := Lib.hid hp; clear hp; have hK' := Lib.hid hK; clear hK
    go_simp
    have hK := hK'.out; have hN := hN'.out; have hl := hl'.out; have h1 := h1'.out
    obtain ⟨p0, p1, p2, p3, p4, p5, p6, p7, p8, p9, p10, p11, p12, p13, p14, p15, p16, p17, p18, p19, p20, p21, p22, p23, p24, p25, p26, p27, p28, p29, p30, p31, p32, p33, p34, p35, p36, p37, p38, p39, qa0⟩ := F'.out
    have g := g'.out
    refine hK _ _ ⟨by simpa using hl, (upd (upd X 12 (.pointer (some ⟨y, 1, none⟩))) 13 (.pointer (some ⟨y, 1, none⟩))), rfl, hN, g, p0.k, p1.k, p2.k, p3.k, p4.k, p5.k, PV.made rfl, PV.made rfl, p8.k, p9.k, p10.k, p11.k, p12.k, p13.k, p14.k, p15.k, p16.k, p17.k, p18.k, p19.k, p20.k, p21.k, p22.k, p23.k, p24.k, p25.k, p26.k, p27.k, p28.k, p29.k, p30.k, p31.k, p32.k, p33.k, p34.k, p35.k, p36.k, p37.k, p38.k, p39.k, qa0.keep (by decide) (by decide) (fun _ _ h => h)⟩
  · rintro l A W ⟨hl, X, rfl, hN, g, F⟩ h1 hp K hK
    have e7 := F.2.2.2.2.2.2.2.1 (hp ⟨7, .data⟩ (by simp) rfl)
    obtain ⟨c1, c2, c3, c4, c5, c6, d1, d2, d3, d4, d5, d6⟩ := GC.out W g
    rw [fnrT_eq]
    have g' := Lib.hid g
    have F' := Lib.hid F; clear F g
    have hN' := Lib.hid hN; clear hN; have hl' := Lib.hid hl; clear hl; have h1' := Lib.hid h1; clear h1; have hp' := Lib.hid hp; clear hp; have hK' := Lib.hid hK; clear hK
    go_simp
    have hK := hK'.out; have hN := hN'.out; have hl := hl'.out; have h1 := h1'.out
    obtain ⟨p0, p1, p2, p3, p4, p5, p6, p7, p8, p9, p10, p11, p12, p13, p14, p15, p16, p17, p18, p19, p20, p21, p22, p23, p24, p25, p26, p27, p28, p29, p30, p31, p32, p33, p34, p35, p36, p37, p38, p39, qa0⟩ := F'.out
    have g := g'.out
    refine hK _ _ ⟨by simpa using hl, (upd (upd X 13 (.pointer (some ⟨y, 1, none⟩))) 14 (.int .i64 bl.1)), rfl, hN, g, p0.k, p1.k, p2.k, p3.k, p4.k, p5.k, p6.k, PV.made rfl, PV.made rfl, p9.k, p10.k, p11.k, p12.k, p13.k, p14.k, p15.k, p16.k, p17.k, p18.k, p19.k, p20.k, p21.k, p22.k, p23.k, p24.k, p25.k, p26.k, p27.k, p28.k, p29.k, p30.k, p31.k, p32.k, p33.k, p34.k, p35.k, p36.k, p37.k, p38.k, p39.k, qa0.keep (by decide) (by decide) (fun _ _ h => h)⟩
  · rintro l A W ⟨hl, X, rfl, hN, g, F⟩ h1 hp K hK
    rw [fnrT_eq]
    have g' := Lib.hid g
    have F' := Lib.hid F; clear F g
    have hN' := Lib.hid hN; clear hN; have hl' := Lib.hid hl; clear hl; have h1' := Lib.hid h1; clear h1; have hp' := Lib.hid hp; clear hp; have hK' := Lib.hid hK; clear hK
    go_simp
    have hK := hK'.out; have hN := hN'.out; have hl := hl'.out; have h1 := h1'.out
    obtain ⟨p0, p1, p2, p3, p4, p5, p6, p7, p8, p9, p10, p11, p12, p13, p14, p15, p16, p17, p18, p19, p20, p21, p22, p23, p24, p25, p26, p27, p28, p29, p30, p31, p32, p33, p34, p35, p36, p37, p38, p39, qa0⟩ := F'.out
    have g := g'.out
    refine hK _ _ ⟨by simpa using hl, (upd X 15 (.pointer (some ⟨y, 4, none⟩))), rfl, hN, g, p0.k, p1.k, p2.k, p3.k, p4.k, p5.k, p6.k, p7.k, p8.k, PV.made rfl, p10.k, p11.k, p12.k, p13.k, p14.k, p15.k, p16.k, p17.k, p18.k, p19.k, p20.k, p21.k, p22.k, p23.k, p24.k, p25.k, p26.k, p27.k, p28.k, p29.k, p30.k, p31.k, p32.k, p33.k, p34.k, p35.k, p36.k, p37.k, p38.k, p39.k, qa0.keep (by decide) (by decide) (fun _ _ h => h)⟩
  · rintro l A W ⟨hl, X, rfl, hN, g, F⟩ h1 hp K hK
    have e9 := F.2.2.2.2.2.2.2.2.2.1 (hp ⟨9, .data⟩ (by simp) rfl)
    rw [fnrT_eq]
    have g' := Lib.hid g
    have F' := Lib.hid F; clear F g
    have hN' := Lib.hid hN; clear hN; have hl' := Lib.hid hl; clear hl; have h1' := Lib.hid h1; clear h1; have hp' := Lib.hid hp; clear hp; have hK' := Lib.hid hK; clear hK
    go_simp
    have hK := hK'.out; have hN := hN'.out; have hl := hl'.out; have h1 := h1'.out
    obtain ⟨p0, p1, p2, p3, p4, p5, p6, p7, p8, p9, p10, p11, p12, p13, p14, p15, p16, p17, p18, p19, p20, p21, p22, p23, p24, p25, p26, p27, p28, p29, p30, p31, p32, p33, p34, p35, p36, p37, p38, p39, qa0⟩ := F'.out
    have g := g'.out
    refine hK _ _ ⟨by simpa using hl, (upd (upd X 15 (.pointer (some ⟨y, 4, none⟩))) 16 (.pointer (some ⟨y, 4, none⟩))), rfl, hN, g, p0.k, p1.k, p2.k, p3.k, p4.k, p5.k, p6.k, p7.k, p8.k, PV.made rfl, PV.made rfl, p11.k, p12.k, p13.k, p14.k, p15.k, p16.k, p17.k, p18.k, p19.k, p20.k, p21.k, p22.k, p23.k, p24.k, p25.k, p26.k, p27.k, p28.k, p29.k, p30.k, p31.k, p32.k, p33.k, p34.k, p35.k, p36.k, p37.k, p38.k, p39.k, qa0.keep (by decide) (by decide) (fun _ _ h => h)⟩
  · rintro l A W ⟨hl, X, rfl, hN, g, F⟩ h1 hp K hK
    have e10 := F.2.2.2.2.2.2.2.2.2.2.1 (hp ⟨10, .data⟩ (by simp) rfl)
    obtain ⟨c1, c2, c3, c4, c5, c6, d1, d2, d3, d4, d5, d6⟩ := GC.out W g
    rw [fnrT_eq]
    have g' := Lib.hid g
    have F' := Lib.hid F; clear F g
    have hN' := Lib.hid hN; clear hN; have hl' := Lib.hid hl; clear hl; have h1' := Lib.hid h1; clear h1; have hp' := Lib.hid hp; clear hp; have hK' := Lib.hid hK; clear hK
    go_simp
    have hK := hK'.out; have hN := hN'.out; have hl := hl'.out; have h1 := h1'.out
    obtain ⟨p0, p1, p2, p3, p4, p5, p6, p7, p8, p9, p10, p11, p12, p13, p14, p15, p16, p17, p18, p19, p20, p21, p22, p23, p24, p25, p26, p27, p28, p29, p30, p31, p32, p33, p34, p35, p36, p37, p38, p39, qa0⟩ := F'.out
    have g := g'.out
    refine hK _ _ ⟨by simpa using hl, (upd (upd X 16 (.pointer (some ⟨y, 4, none⟩))) 17 (.int .i64 bh.1)), rfl, hN, g, p0.k, p1.k, p2.k, p3.k, p4.k, p5.k, p6.k, p7.k, p8.k, p9.k, PV.made rfl, PV.made rfl, p12.k, p13.k, p14.k, p15.k, p16.k, p17.k, p18.k, p19.k, p20.k, p21.k, p22.k, p23.k, p24.k, p25.k, p26.k, p27.k, p28.k, p29.k, p30.k, p31.k, p32.k, p33.k, p34.k, p35.k, p36.k, p37.k, p38.k, p39.k, qa0.keep (by decide) (by decide) (fun _ _ h => h)⟩
  · rintro l A W ⟨hl, X, rfl, hN, g, F⟩ h1 hp K hK
    have e2 := F.2.2.1 (hp ⟨2, .data⟩ (by simp) rfl)
    have e5 := F.2.2.2.2.2.1 (hp ⟨5, .data⟩ (by simp) rfl)
    have e8 := F.2.2.2.2.2.2.2.2.1 (hp ⟨8, .data⟩ (by simp) rfl)
    have e11 := F.2.2.2.2.2.2.2.2.2.2.2.1 (hp ⟨11, .data⟩ (by simp) rfl)
    rw [fnrT_eq]
    have g' := Lib.hid g
    have F' := Lib.hid F; clear F g
    have hN' := Lib.hid hN; clear hN; have hl' := Lib.hid hl; clear hl; have h1' := Lib.hid h1; clear h1; have hp' := Lib.hid hp; clear hp; have hK' := Lib.hid hK; clear hK
    go_simp
    go_at_call 172
    refine (fgap_any al.1 ah.1 bl.1 bh.1 _ G1.out.1 G1.out.2).mono ?_
    rintro e W1 ⟨rfl, hb⟩
    (try dsimp only)
    have hK := hK'.out; have hN := hN'.out; have hl := hl'.out; have h1 := h1'.out
    obtain ⟨p0, p1, p2, p3, p4, p5, p6, p7, p8, p9, p10, p11, p12, p13, p14, p15, p16, p17, p18, p19, p20, p21, p22, p23, p24, p25, p26, p27, p28, p29, p30, p31, p32, p33, p34, p35, p36, p37, p38, p39, qa0⟩ := F'.out
    have g := g'.out
    refine hK _ _ ⟨by simpa using hl, (upd (upd (upd (upd (upd X 8 (.int .i64 al.1)) 11 (.int .i64 ah.1)) 14 (.int .i64 bl.1)) 17 (.int .i64 bh.1)) 18 (.int .i64 (gp al.1 ah.1 bl.1 bh.1))), rfl, Nat.le_trans hN hb.size, GI.out _ _ (hb.mono hN) g, p0.k, p1.k, PV.made rfl, p3.k, p4.k, PV.made rfl, p6.k, p7.k, PV.made rfl, p9.k, p10.k, PV.made rfl, PV.made rfl, p13.k, p14.k, p15.k, p16.k, p17.k, p18.k, p19.k, p20.k, p21.k, p22.k, p23.k, p24.k, p25.k, p26.k, p27.k, p28.k, p29.k, p30.k, p31.k, p32.k, p33.k, p34.k, p35.k, p36.k, p37.k, p38.k, p39.k, qa0.keep (by decide) (by decide) (fun _ _ h => own_below h hb)⟩
  · rintro l A W ⟨hl, X, rfl, hN, g, F⟩ h1 hp K hK
    rw [fnrT_eq]
    have g' := Lib.hid g
    have F' := Lib.hid F; clear F g
    have hN' := Lib.hid hN; clear hN; have hl' := Lib.hid hl; clear hl; have h1' := Lib.hid h1; clear h1; have hp' := Lib.hid hp; clear hp; have hK' := Lib.hid hK; clear hK
    go_simp
    have hK := hK'.out; have hN := hN'.out; have hl := hl'.out; have h1 := h1'.out
    obtain ⟨p0, p1, p2, p3, p4, p5, p6, p7, p8, p9, p10, p11, p12, p13, p14, p15, p16, p17, p18, p19, p20, p21, p22, p23, p24, p25, p26, p27, p28, p29, p30, p31, p32, p33, p34, p35, p36, p37, p38, p39, qa0⟩ := F'.out
    have g := g'.out
    refine hK _ _ ⟨by simpa using hl, (upd X 19 (.pointer (some ⟨x, 1, none⟩))), rfl, hN, g, p0.k, p1.k, p2.k, p3.k, p4.k, p5.k, p6.k, p7.k, p8.k, p9.k, p10.k, p11.k, p12.k, PV.made rfl, p14.k, p15.k, p16.k, p17.k, p18.k, p19.k, p20.k, p21.k, p22.k, p23.k, p24.k, p25.k, p26.k, p27.k, p28.k, p29.k, p30.k, p31.k, p32.k, p33.k, p34.k, p35.k, p36.k, p37.k, p38.k, p39.k, qa0.keep (by decide) (by decide) (fun _ _ h => h)⟩
  · rintro l A W ⟨hl, X, rfl, hN, g, F⟩ h1 hp K hK
    have e13 := F.2.2.2.2.2.2.2.2.2.2.2.2.2.1 (hp ⟨13, .data⟩ (by simp) rfl)
    rw [fnrT_eq]
    have g' := Lib.hid g
    have F' := Lib.hid F; clear F g
    have hN' := Lib.hid hN; clear hN; have hl' := Lib.hid hl; clear hl; have h1' := Lib.hid h1; clear h1; have hp' := Lib.hid hp; clear hp; have hK' := Lib.hid hK; clear hK
    go_simp
    have hK := hK'.out; have hN := hN'.out; have hl := hl'.out; have h1 := h1'.out
    obtain ⟨p0, p1, p2, p3, p4, p5, p6, p7, p8, p9, p10, p11, p12, p13, p14, p15, p16, p17, p18, p19, p20, p21, p22, p23, p24, p25, p26, p27, p28, p29, p30, p31, p32, p33, p34, p35, p36, p37, p38, p39, qa0⟩ := F'.out
    have g := g'.out
    refine hK _ _ ⟨by simpa using hl, (upd (upd X 19 (.pointer (some ⟨x, 1, none⟩))) 20 (.pointer (some ⟨x, 2, none⟩))), rfl, hN, g, p0.k, p1.k, p2.k, p3.k, p4.k, p5.k, p6.k, p7.k, p8.k, p9.k, p10.k, p11.k, p12.k, PV.made rfl, PV.made rfl, p15.k, p16.k, p17.k, p18.k, p19.k, p20.k, p21.k, p22.k, p23.k, p24.k, p25.k, p26.k, p27.k, p28.k, p29.k, p30.k, p31.k, p32.k, p33.k, p34.k, p35.k, p36.k, p37.k, p38.k, p39.k, qa0.keep (by decide) (by decide) (fun _ _ h => h)⟩
  · rintro l A W ⟨hl, X, rfl, hN, g, F⟩ h1 hp K hK
    have e14 := F.2.2.2.2.2.2.2.2.2.2.2.2.2.2.1 (hp ⟨14, .data⟩ (by simp) rfl)
    obtain ⟨c1, c2, c3, c4, c5, c6, d1, d2, d3, d4, d5, d6⟩ := GC.out W g
    rw [fnrT_eq]
    have g' := Lib.hid g
    have F' := Lib.hid F; clear F g
    have hN' := Lib.hid hN; clear hN; have hl' := Lib.hid hl; clear hl; have h1' := Lib.hid h1; clear h1; have hp' := Lib.hid hp; clear hp; have hK' := Lib.hid hK; clear hK
    go_simp
    have hK := hK'.out; have hN := hN'.out; have hl := hl'.out; have h1 := h1'.out
    obtain ⟨p0, p1, p2, p3, p4, p5, p6, p7, p8, p9, p10, p11, p12, p13, p14, p15, p16, p17, p18, p19, p20, p21, p22, p23, p24, p25, p26, p27, p28, p29, p30, p31, p32, p33, p34, p35, p36, p37, p38, p39, qa0⟩ := F'.out
    have g := g'.out
    refine hK _ _ ⟨by simpa using hl, (upd (upd X 20 (.pointer (some ⟨x, 2, none⟩))) 21 (.int .i64 al.2.1)), rfl, hN, g, p0.k, p1.k, p2.k, p3.k, p4.k, p5.k, p6.k, p7.k, p8.k, p9.k, p10.k, p11.k, p12.k, p13.k, PV.made rfl, PV.made rfl, p16.k, p17.k, p18.k, p19.k, p20.k, p21.k, p22.k, p23.k, p24.k, p25.k, p26.k, p27.k, p28.k, p29.k, p30.k, p31.k, p32.k, p33.k, p34.k, p35.k, p36.k, p37.k, p38.k, p39.k, qa0.keep (by decide) (by decide) (fun _ _ h => h)⟩
  · rintro l A W ⟨hl, X, rfl, hN, g, F⟩ h1 hp K hK
    rw [fnrT_eq]
    have g' := Lib.hid g
    have F' := Lib.hid F; clear F g
    have hN' := Lib.hid hN; clear hN; have hl' := Lib.hid hl; clear hl; have h1' := Lib.hid h1; clear h1; have hp' := Lib.hid hp; clear hp; have hK' := Lib.hid hK; clear hK
    go_simp
    have hK := hK'.out; have hN := hN'.out; have hl := hl'.out; have h1 := h1'.out
    obtain ⟨p0, p1, p2, p3, p4, p5, p6, p7, p8, p9, p10, p11, p12, p13, p14, p15, p16, p17, p18, p19, p20, p21, p22, p23, p24, p25, p26, p27, p28, p29, p30, p31, p32, p33, p34, p35, p36, p37, p38, p39, qa0⟩ := F'.out
    have g := g'.out
    refine hK _ _ ⟨by simpa using hl, (upd X 22 (.pointer (some ⟨x, 4, none⟩))), rfl, hN, g, p0.k, p1.k, p2.k, p3.k, p4.k, p5.k, p6.k, p7.k, p8.k, p9.k, p10.k, p11.k, p12.k, p13.k, p14.k, p15.k, PV.made rfl, p17.k, p18.k, p19.k, p20.k, p21.k, p22.k, p23.k, p24.k, p25.k, p26.k, p27.k, p28.k, p29.k, p30.k, p31.k, p32.k, p33.k, p34.k, p35.k, p36.k, p37.k, p38.k, p39.k, qa0.keep (by decide) (by decide) (fun _ _ h => h)⟩
  · rintro l A W ⟨hl, X, rfl, hN, g, F⟩ h1 hp K hK
    have e16 := F.2.2.2.2.2.2.2.2.2.2.2.2.2.2.2.2.1 (hp ⟨16, .data⟩ (by simp) rfl)
    rw [fnrT_eq]
    have g' := Lib.hid g
    have F' := Lib.hid F; clear F g
    have hN' := Lib.hid hN; clear hN; have hl' := Lib.hid hl; clear hl; have h1' := Lib.hid h1; clear h1; have hp' := Lib.hid hp; clear hp; have hK' := Lib.hid hK; clear hK
    go_simp
    have hK := hK'.out; have hN := hN'.out; have hl := hl'.out; have h1 := h1'.out
    obtain ⟨p0, p1, p2, p3, p4, p5, p6, p7, p8, p9, p10, p11, p12, p13, p14, p15, p16, p17, p18, p19, p20, p21, p22, p23, p24, p25, p26, p27, p28, p29, p30, p31, p32, p33, p34, p35, p36, p37, p38, p39, qa0⟩ := F'.out
    have g := g'.out
    refine hK _ _ ⟨by simpa using hl, (upd (upd X 22 (.pointer (some ⟨x, 4, none⟩))) 23 (.pointer (some ⟨x, 5, none⟩))), rfl, hN, g, p0.k, p1.k, p2.k, p3.k, p4.k, p5.k, p6.k, p7.k, p8.k, p9.k, p10.k, p11.k, p12.k, p13.k, p14.k, p15.k, PV.made rfl, PV.made rfl, p18.k, p19.k, p20.k, p21.k, p22.k, p23.k, p24.k, p25.k, p26.k, p27.k, p28.k, p29.k, p30.k, p31.k, p32.k, p33.k, p34.k, p35.k, p36.k, p37.k, p38.k, p39.k, qa0.keep (by decide) (by decide) (fun _ _ h => h)⟩
  · rintro l A W ⟨hl, X, rfl, hN, g, F⟩ h1 hp K hK
    have e17 := F.2.2.2.2.2.2.2.2.2.2.2.2.2.2.2.2.2.1 (hp ⟨17, .data⟩ (by simp) rfl)
    obtain ⟨c1, c2, c3, c4, c5, c6, d1, d2, d3, d4, d5, d6⟩ := GC.out W g
    rw [fnrT_eq]
    have g' := Lib.hid g
    have F' := Lib.hid F; clear F g
    have hN' := Lib.hid hN; clear hN; have hl' := Lib.hid hl; clear hl; have h1' := Lib.hid h1; clear h1; have hp' := Lib.hid hp; clear hp; have hK' := Lib.hid hK; clear hK
    go_simp
    have hK := hK'.out; have hN := hN'.out; have hl := hl'.out; have h1 := h1'.out
    obtain ⟨p0, p1, p2, p3, p4, p5, p6, p7, p8, p9, p10, p11, p12, p13, p14, p15, p16, p17, p18, p19, p20, p21, p22, p23, p24, p25, p26, p27, p28, p29, p30, p31, p32, p33, p34, p35, p36, p37, p38, p39, qa0⟩ := F'.out
    have g := g'.out
    refine hK _ _ ⟨by simpa using hl, (upd (upd X 23 (.pointer (some ⟨x, 5, none⟩))) 24 (.int .i64 ah.2.1)), rfl, hN, g, p0.k, p1.k, p2.k, p3.k, p4.k, p5.k, p6.k, p7.k, p8.k, p9.k, p10.k, p11.k, p12.k, p13.k, p14.k, p15.k, p16.k, PV.made rfl, PV.made rfl, p19.k, p20.k, p21.k, p22.k, p23.k, p24.k, p25.k, p26.k, p27.k, p28.k, p29.k, p30.k, p31.k, p32.k, p33.k, p34.k, p35.k, p36.k, p37.k, p38.k, p39.k, qa0.keep (by decide) (by decide) (fun _ _ h => h)⟩
  · rintro l A W ⟨hl, X, rfl, hN, g, F⟩ h1 hp K hK
    rw [fnrT_eq]
    have g' := Lib.hid g
    have F' := Lib.hid F; clear F g
    have hN' := Lib.hid hN; clear hN; have hl' := Lib.hid hl; clear hl; have h1' := Lib.hid h1; clear h1; have hp' := Lib.hid hp; clear hp; have hK' := Lib.hid hK; clear hK
    go_simp
    have hK := hK'.out; have hN := hN'.out; have hl := hl'.out; have h1 := h1'.out
    obtain ⟨p0, p1, p2, p3, p4, p5, p6, p7, p8, p9, p10, p11, p12, p13, p14, p15, p16, p17, p18, p19, p20, p21, p22, p23, p24, p25, p26, p27, p28, p29, p30, p31, p32, p33, p34, p35, p36, p37, p38, p39, qa0⟩ := F'.out
    have g := g'.out
    refine hK _ _ ⟨by simpa using hl, (upd X 25 (.pointer (some ⟨y, 1, none⟩))), rfl, hN, g, p0.k, p1.k, p2.k, p3.k, p4.k, p5.k, p6.k, p7.k, p8.k, p9.k, p10.k, p11.k, p12.k, p13.k, p14.k, p15.k, p16.k, p17.k, p18.k, PV.made rfl, p20.k, p21.k, p22.k, p23.k, p24.k, p25.k, p26.k, p27.k, p28.k, p29.k, p30.k, p31.k, p32.k, p33.k, p34.k, p35.k, p36.k, p37.k, p38.k, p39.k, qa0.keep (by decide) (by decide) (fun _ _ h => h)⟩
  · rintro l A W ⟨hl, X, rfl, hN, g, F⟩ h1 hp K hK
    have e19 := F.2.2.2.2.2.2.2.2.2.2.2.2.2.2.2.2.2.2.2.1 (hp ⟨19, .data⟩ (by simp) rfl)
    rw [fnrT_eq]
    have g' := Lib.hid g
    have F' := Lib.hid F; clear F g
    have hN' := Lib.hid hN; clear hN; have hl' := Lib.hid hl; clear hl; have h1' := Lib.hid h1; clear h1; have hp' := Lib.hid hp; clear hp; have hK' := Lib.hid hK; clear hK
    go_simp
    have hK := hK'.out; have hN := hN'.out; have hl := hl'.out; have h1 := h1'.out
    obtain ⟨p0, p1, p2, p3, p4, p5, p6, p7, p8, p9, p10, p11, p12, p13, p14, p15, p16, p17, p18, p19, p20, p21, p22, p23, p24, p25, p26, p27, p28, p29, p30, p31, p32, p33, p34, p35, p36, p37, p38, p39, qa0⟩ := F'.out
    have g := g'.out
    refine hK _ _ ⟨by simpa using hl, (upd (upd X 25 (.pointer (some ⟨y, 1, none⟩))) 26 (.pointer (some ⟨y, 2, none⟩))), rfl, hN, g, p0.k, p1.k, p2.k, p3.k, p4.k, p5.k, p6.k, p7.k, p8.k, p9.k, p10.k, p11.k, p12.k, p13.k, p14.k, p15.k, p16.k, p17.k, p18.k, PV.made rfl, PV.made rfl, p21.k, p22.k, p23.k, p24.k, p25.k, p26.k, p27.k, p28.k, p29.k, p30.k, p31.k, p32.k, p33.k, p34.k, p35.k, p36.k, p37.k, p38.k, p39.k, qa0.keep (by decide) (by decide) (fun _ _ h => h)⟩
  · rintro l A W ⟨hl, X, rfl, hN, g, F⟩ h1 hp K hK
    have e20 := F.2.2.2.2.2.2.2.2.2.2.2.2.2.2.2.2.2.2.2.2.1 (hp ⟨20, .data⟩ (by simp) rfl)
    obtain ⟨c1, c2, c3, c4, c5, c6, d1, d2, d3, d4, d5, d6⟩ := GC.out W g
    rw [fnrT_eq]
    have g' := Lib.hid g
    have F' := Lib.hid F; clear F g
    have hN' := Lib.hid hN; clear hN; have hl' := Lib.hid hl; clear hl; have h1' := Lib.hid h1; clear h1; have hp' := Lib.hid hp; clear hp; have hK' := Lib.hid hK; clear hK
    go_simp
    have hK := hK'.out; have hN := hN'.out; have hl := hl'.out; have h1 := h1'.out
    obtain ⟨p0, p1, p2, p3, p4, p5, p6, p7, p8, p9, p10, p11, p12, p13, p14, p15, p16, p17, p18, p19, p20, p21, p22, p23, p24, p25, p26, p27, p28, p29, p30, p31, p32, p33, p34, p35, p36, p37, p38, p39, qa0⟩ := F'.out
    have g := g'.out
    refine hK _ _ ⟨by simpa using hl, (upd (upd X 26 (.pointer (some ⟨y, 2, none⟩))) 27 (.int .i64 bl.2.1)), rfl, hN, g, p0.k, p1.k, p2.k, p3.k, p4.k, p5.k, p6.k, p7.k, p8.k, p9.k, p10.k, p11.k, p12.k, p13.k, p14.k, p15.k, p16.k, p17.k, p18.k, p19.k, PV.made rfl, PV.made rfl, p22.k, p23.k, p24.k, p25.k, p26.k, p27.k, p28.k, p29.k, p30.k, p31.k, p32.k, p33.k, p34.k, p35.k, p36.k, p37.k, p38.k, p39.k, qa0.keep (by decide) (by decide) (fun _ _ h => h)⟩
  · rintro l A W ⟨hl, X, rfl, hN, g, F⟩ h1 hp K hK
    rw [fnrT_eq]
    have g' := Lib.hid g
    have F' := Lib.hid F; clear F g
    have hN' := Lib.hid hN; clear hN; have hl' := Lib.hid hl; clear hl; have h1' := Lib.hid h1; clear h1; have hp' := Lib.hid hp; clear hp; have hK' := Lib.hid hK; clear hK
    go_simp
    have hK := hK'.out; have hN := hN'.out; have hl := hl'.out; have h1 := h1'.out
    obtain ⟨p0, p1, p2, p3, p4, p5, p6, p7, p8, p9, p10, p11, p12, p13, p14, p15, p16, p17, p18, p19, p20, p21, p22, p23, p24, p25, p26, p27, p28, p29, p30, p31, p32, p33, p34, p35, p36, p37, p38, p39, qa0⟩ := F'.out
    have g := g'.out
    refine hK _ _ ⟨by simpa using hl, (upd X 28 (.pointer (some ⟨y, 4, none⟩))), rfl, hN, g, p0.k, p1.k, p2.k, p3.k, p4.k, p5.k, p6.k, p7.k, p8.k, p9.k, p10.k, p11.k, p12.k, p13.k, p14.k, p15.k, p16.k, p17.k, p18.k, p19.k, p20.k, p21.k, PV.made rfl, p23.k, p24.k, p25.k, p26.k, p27.k, p28.k, p29.k, p30.k, p31.k, p32.k, p33.k, p34.k, p35.k, p36.k, p37.k, p38.k, p39.k, qa0.keep (by decide) (by decide) (fun _ _ h => h)⟩
  · rintro l A W ⟨hl, X, rfl, hN, g, F⟩ h1 hp K hK
    have e22 := F.2.2.2.2.2.2.2.2.2.2.2.2.2.2.2.2.2.2.2.2.2.2.1 (hp ⟨22, .data⟩ (by simp) rfl)
    rw [fnrT_eq]
    have g' := Lib.hid g
    have F' := Lib.hid F; clear F g
    have hN' := Lib.hid hN; clear hN; have hl' := Lib.hid hl; clear hl; have h1' := Lib.hid h1; clear h1; have hp' := Lib.hid hp; clear hp; have hK' := Lib.hid hK; clear hK
    go_simp
    have hK := hK'.out; have hN := hN'.out; have hl := hl'.out; have h1 := h1'.out
    obtain ⟨p0, p1, p2, p3, p4, p5, p6, p7, p8, p9, p10, p11, p12, p13, p14, p15, p16, p17, p18, p19, p20, p21, p22, p23, p24, p25, p26, p27, p28, p29, p30, p31, p32, p33, p34, p35, p36, p37, p38, p39, qa0⟩ := F'.out
    have g := g'.out
    refine hK _ _ ⟨by simpa using hl, (upd (upd X 28 (.pointer (some ⟨y, 4, none⟩))) 29 (.pointer (some ⟨y, 5, none⟩))), rfl, hN, g, p0.k, p1.k, p2.k, p3.k, p4.k, p5.k, p6.k, p7.k, p8.k, p9.k, p10.k, p11.k, p12.k, p13.k, p14.k, p15.k, p16.k, p17.k, p18.k, p19.k, p20.k, p21.k, PV.made rfl, PV.made rfl, p24.k, p25.k, p26.k, p27.k, p28.k, p29.k, p30.k, p31.k, p32.k, p33.k, p34.k, p35.k, p36.k, p37.k, p38.k, p39.k, qa0.keep (by decide) (by decide) (fun _ _ h => h)⟩
  · rintro l A W ⟨hl, X, rfl, hN, g, F⟩ h1 hp K hK
    have e23 := F.2.2.2.2.2.2.2.2.2.2.2.2.2.2.2.2.2.2.2.2.2.2.2.1 (hp ⟨23, .data⟩ (by simp) rfl)
    obtain ⟨c1, c2, c3, c4, c5, c6, d1, d2, d3, d4, d5, d6⟩ := GC.out W g
    rw [fnrT_eq]
    have g' := Lib.hid g
    have F' := Lib.hid F; clear F g
    have hN' := Lib.hid hN; clear hN; have hl' := Lib.hid hl; clear hl; have h1' := Lib.hid h1; clear h1; have hp' := Lib.hid hp; clear hp; have hK' := Lib.hid hK; clear hK
    go_simp
    have hK := hK'.out; have hN := hN'.out; have hl := hl'.out; have h1 := h1'.out
    obtain ⟨p0, p1, p2, p3, p4, p5, p6, p7, p8, p9, p10, p11, p12, p13, p14, p15, p16, p17, p18, p19, p20, p21, p22, p23, p24, p25, p26, p27, p28, p29, p30, p31, p32, p33, p34, p35, p36, p37, p38, p39, qa0⟩ := F'.out
    have g := g'.out
    refine hK _ _ ⟨by simpa using hl, (upd (upd X 29 (.pointer (some ⟨y, 5, none⟩))) 30 (.int .i64 bh.2.1)), rfl, hN, g, p0.k, p1.k, p2.k, p3.k, p4.k, p5.k, p6.k, p7.k, p8.k, p9.k, p10.k, p11.k, p12.k, p13.k, p14.k, p15.k, p16.k, p17.k, p18.k, p19.k, p20.k, p21.k, p22.k, PV.made rfl, PV.made rfl, p25.k, p26.k, p27.k, p28.k, p29.k, p30.k, p31.k, p32.k, p33.k, p34.k, p35.k, p36.k, p37.k, p38.k, p39.k, qa0.keep (by decide) (by decide) (fun _ _ h => h)⟩
  · rintro l A W ⟨hl, X, rfl, hN, g, F⟩ h1 hp K hK
    have e15 := F.2.2.2.2.2.2.2.2.2.2.2.2.2.2.2.1 (hp ⟨15, .data⟩ (by simp) rfl)
    have e18 := F.2.2.2.2.2.2.2.2.2.2.2.2.2.2.2.2.2.2.1 (hp ⟨18, .data⟩ (by simp) rfl)
    have e21 := F.2.2.2.2.2.2.2.2.2.2.2.2.2.2.2.2.2.2.2.2.2.1 (hp ⟨21, .data⟩ (by simp) rfl)
    have e24 := F.2.2.2.2.2.2.2.2.2.2.2.2.2.2.2.2.2.2.2.2.2.2.2.2.1 (hp ⟨24, .data⟩ (by simp) rfl)
    rw [fnrT_eq]
    have g' := Lib.hid g
    have F' := Lib.hid F; clear F g
    have hN' := Lib.hid hN; clear hN; have hl' := Lib.hid hl; clear hl; have h1' := Lib.hid h1; clear h1; have hp' := Lib.hid hp; clear hp; have hK' := Lib.hid hK; clear hK
    go_simp
    go_at_call 172
    refine (fgap_any al.2.1 ah.2.1 bl.2.1 bh.2.1 _ G2.out.1 G2.out.2).mono ?_
    rintro e W1 ⟨rfl, hb⟩
    (try dsimp only)
    have hK := hK'.out; have hN := hN'.out; have hl := hl'.out; have h1 := h1'.out
    obtain ⟨p0, p1, p2, p3, p4, p5, p6, p7, p8, p9, p10, p11, p12, p13, p14, p15, p16, p17, p18, p19, p20, p21, p22, p23, p24, p25, p26, p27, p28, p29, p30, p31, p32, p33, p34, p35, p36, p37, p38, p39, qa0⟩ := F'.out
    have g := g'.out
    refine hK _ _ ⟨by simpa using hl, (upd (upd (upd (upd (upd X 21 (.int .i64 al.2.1)) 24 (.int .i64 ah.2.1)) 27 (.int .i64 bl.2.1)) 30 (.int .i64 bh.2.1)) 31 (.int .i64 (gp al.2.1 ah.2.1 bl.2.1 bh.2.1))), rfl, Nat.le_trans hN hb.size, GI.out _ _ (hb.mono hN) g, p0.k, p1.k, p2.k, p3.k, p4.k, p5.k, p6.k, p7.k, p8.k, p9.k, p10.k, p11.k, p12.k, p13.k, p14.k, PV.made rfl, p16.k, p17.k, PV.made rfl, p19.k, p20.k, PV.made rfl, p22.k, p23.k, PV.made rfl, PV.made rfl, p26.k, p27.k, p28.k, p29.k, p30.k, p31.k, p32.k, p33.k, p34.k, p35.k, p36.k, p37.k, p38.k, p39.k, qa0.keep (by decide) (by decide) (fun _ _ h => own_below h hb)⟩
  · rintro l A W ⟨hl, X, rfl, hN, g, F⟩ h1 hp K hK
    rw [fnrT_eq]
    have g' := Lib.hid g
    have F' := Lib.hid F; clear F g
    have hN' := Lib.hid hN; clear hN; have hl' := Lib.hid hl; clear hl; have h1' := Lib.hid h1; clear h1; have hp' := Lib.hid hp; clear hp; have hK' := Lib.hid hK; clear hK
    go_simp
    have hK := hK'.out; have hN := hN'.out; have hl := hl'.out; have h1 := h1'.out
    obtain ⟨p0, p1, p2, p3, p4, p5, p6, p7, p8, p9, p10, p11, p12, p13, p14, p15, p16, p17, p18, p19, p20, p21, p22, p23, p24, p25, p26, p27, p28, p29, p30, p31, p32, p33, p34, p35, p36, p37, p38, p39, qa0⟩ := F'.out
    have g := g'.out
    refine hK _ _ ⟨by simpa using hl, (upd X 32 (.pointer (some ⟨x, 1, none⟩))), rfl, hN, g, p0.k, p1.k, p2.k, p3.k, p4.k, p5.k, p6.k, p7.k, p8.k, p9.k, p10.k, p11.k, p12.k, p13.k, p14.k, p15.k, p16.k, p17.k, p18.k, p19.k, p20.k, p21.k, p22.k, p23.k, p24.k, p25.k, PV.made rfl, p27.k, p28.k, p29.k, p30.k, p31.k, p32.k, p33.k, p34.k, p35.k, p36.k, p37.k, p38.k, p39.k, qa0.keep (by decide) (by decide) (fun _ _ h => h)⟩
  · rintro l A W ⟨hl, X, rfl, hN, g, F⟩ h1 hp K hK
    have e26 := F.2.2.2.2.2.2.2.2.2.2.2.2.2.2.2.2.2.2.2.2.2.2.2.2.2.2.1 (hp ⟨26, .data⟩ (by simp) rfl)
    rw [fnrT_eq]
    have g' := Lib.hid g
    have F' := Lib.hid F; clear F g
    have hN' := Lib.hid hN; clear hN; have hl' := Lib.hid hl; clear hl; have h1' := Lib.hid h1; clear h1; have hp' := Lib.hid hp; clear hp; have hK' := Lib.hid hK; clear hK
    go_simp
    have hK := hK'.out; have hN := hN'.out; have hl := hl'.out; have h1 := h1'.out
    obtain ⟨p0, p1, p2, p3, p4, p5, p6, p7, p8, p9, p10, p11, p12, p13, p14, p15, p16, p17, p18, p19, p20, p21, p22, p23, p24, p25, p26, p27, p28, p29, p30, p31, p32, p33, p34, p35, p36, p37, p38, p39, qa0⟩ := F'.out
    have g := g'.out
    refine hK _ _ ⟨by simpa using hl, (upd (upd X 32 (.pointer (some ⟨x, 1, none⟩))) 33 (.pointer (some ⟨x, 3, none⟩))), rfl, hN, g, p0.k, p1.k, p2.k, p3.k, p4.k, p5.k, p6.k, p7.k, p8.k, p9.k, p10.k, p11.k, p12.k, p13.k, p14.k, p15.k, p16.k, p17.k, p18.k, p19.k, p20.k, p21.k, p22.k, p23.k, p24.k, p25.k, PV.made rfl, PV.made rfl, p28.k, p29.k, p30.k, p31.k, p32.k, p33.k, p34.k, p35.k, p36.k, p37.k, p38.k, p39.k, qa0.keep (by decide) (by decide) (fun _ _ h => h)⟩
  · rintro l A W ⟨hl, X, rfl, hN, g, F⟩ h1 hp K hK
    have e27 := F.2.2.2.2.2.2.2.2.2.2.2.2.2.2.2.2.2.2.2.2.2.2.2.2.2.2.2.1 (hp ⟨27, .data⟩ (by simp) rfl)
    obtain ⟨c1, c2, c3, c4, c5, c6, d1, d2, d3, d4, d5, d6⟩ := GC.out W g
    rw [fnrT_eq]
    have g' := Lib.hid g
    have F' := Lib.hid F; clear F g
    have hN' := Lib.hid hN; clear hN; have hl' := Lib.hid hl; clear hl; have h1' := Lib.hid h1; clear h1; have hp' := Lib.hid hp; clear hp; have hK' := Lib.hid hK; clear hK
    go_simp
    have hK := hK'.out; have hN := hN'.out; have hl := hl'.out; have h1 := h1'.out
    obtain ⟨p0, p1, p2, p3, p4, p5, p6, p7, p8, p9, p10, p11, p12, p13, p14, p15, p16, p17, p18, p19, p20, p21, p22, p23, p24, p25, p26, p27, p28, p29, p30, p31, p32, p33, p34, p35, p36, p37, p38, p39, qa0⟩ := F'.out
    have g := g'.out
    refine hK _ _ ⟨by simpa using hl, (upd (upd X 33 (.pointer (some ⟨x, 3, none⟩))) 34 (.int .i64 al.2.2)), rfl, hN, g, p0.k, p1.k, p2.k, p3.k, p4.k, p5.k, p6.k, p7.k, p8.k, p9.k, p10.k, p11.k, p12.k, p13.k, p14.k, p15.k, p16.k, p17.k, p18.k, p19.k, p20.k, p21.k, p22.k, p23.k, p24.k, p25.k, p26.k, PV.made rfl, PV.made rfl, p29.k, p30.k, p31.k, p32.k, p33.k, p34.k, p35.k, p36.k, p37.k, p38.k, p39.k, qa0.keep (by decide) (by decide) (fun _ _ h => h)⟩
  · rintro l A W ⟨hl, X, rfl, hN, g, F⟩ h1 hp K hK
    rw [fnrT_eq]
    have g' := Lib.hid g
    have F' := Lib.hid F; clear F g
    have hN' := Lib.hid hN; clear hN; have hl' := Lib.hid hl; clear hl; have h1' := Lib.hid h1; clear h1; have hp' := Lib.hid hp; clear hp; have hK' := Lib.hid hK; clear hK
    go_simp
    have hK := hK'.out; have hN := hN'.out; have hl := hl'.out; have h1 := h1'.out
    obtain ⟨p0, p1, p2, p3, p4, p5, p6, p7, p8, p9, p10, p11, p12, p13, p14, p15, p16, p17, p18, p19, p20, p21, p22, p23, p24, p25, p26, p27, p28, p29, p30, p31, p32, p33, p34, p35, p36, p37, p38, p39, qa0⟩ := F'.out
    have g := g'.out
    refine hK _ _ ⟨by simpa using hl, (upd X 35 (.pointer (some ⟨x, 4, none⟩))), rfl, hN, g, p0.k, p1.k, p2.k, p3.k, p4.k, p5.k, p6.k, p7.k, p8.k, p9.k, p10.k, p11.k, p12.k, p13.k, p14.k, p15.k, p16.k, p17.k, p18.k, p19.k, p20.k, p21.k, p22.k, p23.k, p24.k, p25.k, p26.k, p27.k, p28.k, PV.made rfl, p30.k, p31.k, p32.k, p33.k, p34.k, p35.k, p36.k, p37.k, p38.k, p39.k, qa0.keep (by decide) (by decide) (fun _ _ h => h)⟩
  · rintro l A W ⟨hl, X, rfl, hN, g, F⟩ h1 hp K hK
    have e29 := F.2.2.2.2.2.2.2.2.2.2.2.2.2.2.2.2.2.2.2.2.2.2.2.2.2.2.2.2.2.1 (hp ⟨29, .data⟩ (by simp) rfl)
    rw [fnrT_eq]
    have g' := Lib.hid g
    have F' := Lib.hid F; clear F g
    have hN' := Lib.hid hN; clear hN; have hl' := Lib.hid hl; clear hl; have h1' := Lib.hid h1; clear h1; have hp' := Lib.hid hp; clear hp; have hK' := Lib.hid hK; clear hK
    go_simp
    have hK := hK'.out; have hN := hN'.out; have hl := hl'.out; have h1 := h1'.out
    obtain ⟨p0, p1, p2, p3, p4, p5, p6, p7, p8, p9, p10, p11, p12, p13, p14, p15, p16, p17, p18, p19, p20, p21, p22, p23, p24, p25, p26, p27, p28, p29, p30, p31, p32, p33, p34, p35, p36, p37, p38, p39, qa0⟩ := F'.out
    have g := g'.out
    refine hK _ _ ⟨by simpa using hl, (upd (upd X 35 (.pointer (some ⟨x, 4, none⟩))) 36 (.pointer (some ⟨x, 6, none⟩))), rfl, hN, g, p0.k, p1.k, p2.k, p3.k, p4.k, p5.k, p6.k, p7.k, p8.k, p9.k, p10.k, p11.k, p12.k, p13.k, p14.k, p15.k, p16.k, p17.k, p18.k, p19.k, p20.k, p21.k, p22.k, p23.k, p24.k, p25.k, p26.k, p27.k, p28.k, PV.made rfl, PV.made rfl, p31.k, p32.k, p33.k, p34.k, p35.k, p36.k, p37.k, p38.k, p39.k, qa0.keep (by decide) (by decide) (fun _ _ h => h)⟩
  · rintro l A W ⟨hl, X, rfl, hN, g, F⟩ h1 hp K hK
    have e30 := F.2.2.2.2.2.2.2.2.2.2.2.2.2.2.2.2.2.2.2.2.2.2.2.2.2.2.2.2.2.2.1 (hp ⟨30, .data⟩ (by simp) rfl)
    obtain ⟨c1, c2, c3, c4, c5, c6, d1, d2, d3, d4, d5, d6⟩ := GC.out W g
    rw [fnrT_eq]
    have g' := Lib.hid g
    have F' := Lib.hid F; clear F g
    have hN' := Lib.hid hN; clear hN; have hl' := Lib.hid hl; clear hl; have h1' := Lib.hid h1; clear h1; have hp' := Lib.hid hp; clear hp; have hK' := Lib.hid hK; clear hK
    go_simp
    have hK := hK'.out; have hN := hN'.out; have hl := hl'.out; have h1 := h1'.out
    obtain ⟨p0, p1, p2, p3, p4, p5, p6, p7, p8, p9, p10, p11, p12, p13, p14, p15, p16, p17, p18, p19, p20, p21, p22, p23, p24, p25, p26, p27, p28, p29, p30, p31, p32, p33, p34, p35, p36, p37, p38, p39, qa0⟩ := F'.out
    have g := g'.out
    refine hK _ _ ⟨by simpa using hl, (upd (upd X 36 (.pointer (some ⟨x, 6, none⟩))) 37 (.int .i64 ah.2.2)), rfl, hN, g, p0.k, p1.k, p2.k, p3.k, p4.k, p5.k, p6.k, p7.k, p8.k, p9.k, p10.k, p11.k, p12.k, p13.k, p14.k, p15.k, p16.k, p17.k, p18.k, p19.k, p20.k, p21.k, p22.k, p23.k, p24.k, p25.k, p26.k, p27.k, p28.k, p29.k, PV.made rfl, PV.made rfl, p32.k, p33.k, p34.k, p35.k, p36.k, p37.k, p38.k, p39.k, qa0.keep (by decide) (by decide) (fun _ _ h => h)⟩
  · rintro l A W ⟨hl, X, rfl, hN, g, F⟩ h1 hp K hK
    rw [fnrT_eq]
    have g' := Lib.hid g
    have F' := Lib.hid F; clear F g
    have hN' := Lib.hid hN; clear hN; have hl' := Lib.hid hl; clear hl; have h1' := Lib.hid h1; clear h1; have hp' := Lib.hid hp; clear hp; have hK' := Lib.hid hK; clear hK
    go_simp
    have hK := hK'.out; have hN := hN'.out; have hl := hl'.out; have h1 := h1'.out
    obtain ⟨p0, p1, p2, p3, p4, p5, p6, p7, p8, p9, p10, p11, p12, p13, p14, p15, p16, p17, p18, p19, p20, p21, p22, p23, p24, p25, p26, p27, p28, p29, p30, p31, p32, p33, p34, p35, p36, p37, p38, p39, qa0⟩ := F'.out
    have g := g'.out
    refine hK _ _ ⟨by simpa using hl, (upd X 38 (.pointer (some ⟨y, 1, none⟩))), rfl, hN, g, p0.k, p1.k, p2.k, p3.k, p4.k, p5.k, p6.k, p7.k, p8.k, p9.k, p10.k, p11.k, p12.k, p13.k, p14.k, p15.k, p16.k, p17.k, p18.k, p19.k, p20.k, p21.k, p22.k, p23.k, p24.k, p25.k, p26.k, p27.k, p28.k, p29.k, p30.k, p31.k, PV.made rfl, p33.k, p34.k, p35.k, p36.k, p37.k, p38.k, p39.k, qa0.keep (by decide) (by decide) (fun _ _ h => h)⟩
  · rintro l A W ⟨hl, X, rfl, hN, g, F⟩ h1 hp K hK
    have e32 := F.2.2.2.2.2.2.2.2.2.2.2.2.2.2.2.2.2.2.2.2.2.2.2.2.2.2.2.2.2.2.2.2.1 (hp ⟨32, .data⟩ (by simp) rfl)
    rw [fnrT_eq]
    have g' := Lib.hid g
    have F' := Lib.hid F; clear F g
    have hN' := Lib.hid hN; clear hN; have hl' := Lib.hid hl; clear hl; have h1' := Lib.hid h1; clear h1; have hp' := Lib.hid hp; clear hp; have hK' := Lib.hid hK; clear hK
    go_simp
    have hK := hK'.out; have hN := hN'.out; have hl := hl'.out; have h1 := h1'.out
    obtain ⟨p0, p1, p2, p3, p4, p5, p6, p7, p8, p9, p10, p11, p12, p13, p14, p15, p16, p17, p18, p19, p20, p21, p22, p23, p24, p25, p26, p27, p28, p29, p30, p31, p32, p33, p34, p35, p36, p37, p38, p39, qa0⟩ := F'.out
    have g := g'.out
    refine hK _ _ ⟨by simpa using hl, (upd (upd X 38 (.pointer (some ⟨y, 1, none⟩))) 39 (.pointer (some ⟨y, 3, none⟩))), rfl, hN, g, p0.k, p1.k, p2.k, p3.k, p4.k, p5.k, p6.k, p7.k, p8.k, p9.k, p10.k, p11.k, p12.k, p13.k, p14.k, p15.k, p16.k, p17.k, p18.k, p19.k, p20.k, p21.k, p22.k, p23.k, p24.k, p25.k, p26.k, p27.k, p28.k, p29.k, p30.k, p31.k, PV.made rfl, PV.made rfl, p34.k, p35.k, p36.k, p37.k, p38.k, p39.k, qa0.keep (by decide) (by decide) (fun _ _ h => h)⟩
  · rintro l A W ⟨hl, X, rfl, hN, g, F⟩ h1 hp K hK
    have e33 := F.2.2.2.2.2.2.2.2.2.2.2.2.2.2.2.2.2.2.2.2.2.2.2.2.2.2.2.2.2.2.2.2.2.1 (hp ⟨33, .data⟩ (by simp) rfl)
    obtain ⟨c1, c2, c3, c4, c5, c6, d1, d2, d3, d4, d5, d6⟩ := GC.out W g
    rw [fnrT_eq]
    have g' := Lib.hid g
    have F' := Lib.hid F; clear F g
    have hN' := Lib.hid hN; clear hN; have hl' := Lib.hid hl; clear hl; have h1' := Lib.hid h1; clear h1; have hp' := Lib.hid hp; clear hp; have hK' := Lib.hid hK; clear hK
    go_simp
    have hK := hK'.out; have hN := hN'.out; have hl := hl'.out; have h1 := h1'.out
    obtain ⟨p0, p1, p2, p3, p4, p5, p6, p7, p8, p9, p10, p11, p12, p13, p14, p15, p16, p17, p18, p19, p20, p21, p22, p23, p24, p25, p26, p27, p28, p29, p30, p31, p32, p33, p34, p35, p36, p37, p38, p39, qa0⟩ := F'.out
    have g := g'.out
    refine hK _ _ ⟨by simpa using hl, (upd (upd X 39 (.pointer (some ⟨y, 3, none⟩))) 40 (.int .i64 bl.2.2)), rfl, hN, g, p0.k, p1.k, p2.k, p3.k, p4.k, p5.k, p6.k, p7.k, p8.k, p9.k, p10.k, p11.k, p12.k, p13.k, p14.k, p15.k, p16.k, p17.k, p18.k, p19.k, p20.k, p21.k, p22.k, p23.k, p24.k, p25.k, p26.k, p27.k, p28.k, p29.k, p30.k, p31.k, p32.k, PV.made rfl, PV.made rfl, p35.k, p36.k, p37.k, p38.k, p39.k, qa0.keep (by decide) (by decide) (fun _ _ h => h)⟩
  · rintro l A W ⟨hl, X, rfl, hN, g, F⟩ h1 hp K hK
    rw [fnrT_eq]
    have g' := Lib.hid g
    have F' := Lib.hid F; clear F g
    have hN' := Lib.hid hN; clear hN; have hl' := Lib.hid hl; clear hl; have h1' := Lib.hid h1; clear h1; have hp' := Lib.hid hp; clear hp; have hK' := Lib.hid hK; clear hK
    go_simp
    have hK := hK'.out; have hN := hN'.out; have hl := hl'.out; have h1 := h1'.out
    obtain ⟨p0, p1, p2, p3, p4, p5, p6, p7, p8, p9, p10, p11, p12, p13, p14, p15, p16, p17, p18, p19, p20, p21, p22, p23, p24, p25, p26, p27, p28, p29, p30, p31, p32, p33, p34, p35, p36, p37, p38, p39, qa0⟩ := F'.out
    have g := g'.out
    refine hK _ _ ⟨by simpa using hl, (upd X 41 (.pointer (some ⟨y, 4, none⟩))), rfl, hN, g, p0.k, p1.k, p2.k, p3.k, p4.k, p5.k, p6.k, p7.k, p8.k, p9.k, p10.k, p11.k, p12.k, p13.k, p14.k, p15.k, p16.k, p17.k, p18.k, p19.k, p20.k, p21.k, p22.k, p23.k, p24.k, p25.k, p26.k, p27.k, p28.k, p29.k, p30.k, p31.k, p32.k, p33.k, p34.k, PV.made rfl, p36.k, p37.k, p38.k, p39.k, qa0.keep (by decide) (by decide) (fun _ _ h => h)⟩
  · rintro l A W ⟨hl, X, rfl, hN, g, F⟩ h1 hp K hK
    have e35 := F.2.2.2.2.2.2.2.2.2.2.2.2.2.2.2.2.2.2.2.2.2.2.2.2.2.2.2.2.2.2.2.2.2.2.2.1 (hp ⟨35, .data⟩ (by simp) rfl)
    rw [fnrT_eq]
    have g' := Lib.hid g
    have F' := Lib.hid F; clear F g
    have hN' := Lib.hid hN; clear hN; have hl' := Lib.hid hl; clear hl; have h1' := Lib.hid h1; clear h1; have hp' := Lib.hid hp; clear hp; have hK' := Lib.hid hK; clear hK
    go_simp
    have hK := hK'.out; have hN := hN'.out; have hl := hl'.out; have h1 := h1'.out
    obtain ⟨p0, p1, p2, p3, p4, p5, p6, p7, p8, p9, p10, p11, p12, p13, p14, p15, p16, p17, p18, p19, p20, p21, p22, p23, p24, p25, p26, p27, p28, p29, p30, p31, p32, p33, p34, p35, p36, p37, p38, p39, qa0⟩ := F'.out
    have g := g'.out
    refine hK _ _ ⟨by simpa using hl, (upd (upd X 41 (.pointer (some ⟨y, 4, none⟩))) 42 (.pointer (some ⟨y, 6, none⟩))), rfl, hN, g, p0.k, p1.k, p2.k, p3.k, p4.k, p5.k, p6.k, p7.k, p8.k, p9.k, p10.k, p11.k, p12.k, p13.k, p14.k, p15.k, p16.k, p17.k, p18.k, p19.k, p20.k, p21.k, p22.k, p23.k, p24.k, p25.k, p26.k, p27.k, p28.k, p29.k, p30.k, p31.k, p32.k, p33.k, p34.k, PV.made rfl, PV.made rfl, p37.k, p38.k, p39.k, qa0.keep (by decide) (by decide) (fun _ _ h => h)⟩
  · rintro l A W ⟨hl, X, rfl, hN, g, F⟩ h1 hp K hK
    have e36 := F.2.2.2.2.2.2.2.2.2.2.2.2.2.2.2.2.2.2.2.2.2.2.2.2.2.2.2.2.2.2.2.2.2.2.2.2.1 (hp ⟨36, .data⟩ (by simp) rfl)
    obtain ⟨c1, c2, c3, c4, c5, c6, d1, d2, d3, d4, d5, d6⟩ := GC.out W g
    rw [fnrT_eq]
    have g' := Lib.hid g
    have F' := Lib.hid F; clear F g
    have hN' := Lib.hid hN; clear hN; have hl' := Lib.hid hl; clear hl; have h1' := Lib.hid h1; clear h1; have hp' := Lib.hid hp; clear hp; have hK' := Lib.hid hK; clear hK
    go_simp
    have hK := hK'.out; have hN := hN'.out; have hl := hl'.out; have h1 := h1'.out
    obtain ⟨p0, p1, p2, p3, p4, p5, p6, p7, p8, p9, p10, p11, p12, p13, p14, p15, p16, p17, p18, p19, p20, p21, p22, p23, p24, p25, p26, p27, p28, p29, p30, p31, p32, p33, p34, p35, p36, p37, p38, p39, qa0⟩ := F'.out
    have g := g'.out
    refine hK _ _ ⟨by simpa using hl, (upd (upd X 42 (.pointer (some ⟨y, 6, none⟩))) 43 (.int .i64 bh.2.2)), rfl, hN, g, p0.k, p1.k, p2.k, p3.k, p4.k, p5.k, p6.k, p7.k, p8.k, p9.k, p10.k, p11.k, p12.k, p13.k, p14.k, p15.k, p16.k, p17.k, p18.k, p19.k, p20.k, p21.k, p22.k, p23.k, p24.k, p25.k, p26.k, p27.k, p28.k, p29.k, p30.k, p31.k, p32.k, p33.k, p34.k, p35.k, PV.made rfl, PV.made rfl, p38.k, p39.k, qa0.keep (by decide) (by decide) (fun _ _ h => h)⟩
  · rintro l A W ⟨hl, X, rfl, hN, g, F⟩ h1 hp K hK
    have e28 := F.2.2.2.2.2.2.2.2.2.2.2.2.2.2.2.2.2.2.2.2.2.2.2.2.2.2.2.2.1 (hp ⟨28, .data⟩ (by simp) rfl)
    have e31 := F.2.2.2.2.2.2.2.2.2.2.2.2.2.2.2.2.2.2.2.2.2.2.2.2.2.2.2.2.2.2.2.1 (hp ⟨31, .data⟩ (by simp) rfl)
    have e34 := F.2.2.2.2.2.2.2.2.2.2.2.2.2.2.2.2.2.2.2.2.2.2.2.2.2.2.2.2.2.2.2.2.2.2.1 (hp ⟨34, .data⟩ (by simp) rfl)
    have e37 := F.2.2.2.2.2.2.2.2.2.2.2.2.2.2.2.2.2.2.2.2.2.2.2.2.2.2.2.2.2.2.2.2.2.2.2.2.2.1 (hp ⟨37, .data⟩ (by simp) rfl)
    rw [fnrT_eq]
    have g' := Lib.hid g
    have F' := Lib.hid F; clear F g
    have hN' := Lib.hid hN; clear hN; have hl' := Lib.hid hl; clear hl; have h1' := Lib.hid h1; clear h1; have hp' := Lib.hid hp; clear hp; have hK' := Lib.hid hK; clear hK
    go_simp
    go_at_call 172
    refine (fgap_any al.2.2 ah.2.2 bl.2.2 bh.2.2 _ G3.out.1 G3.out.2).mono ?_
    rintro e W1 ⟨rfl, hb⟩
    (try dsimp only)
    have hK := hK'.out; have hN := hN'.out; have hl := hl'.out; have h1 := h1'.out
    obtain ⟨p0, p1, p2, p3, p4, p5, p6, p7, p8, p9, p10, p11, p12, p13, p14, p15, p16, p17, p18, p19, p20, p21, p22, p23, p24, p25, p26, p27, p28, p29, p30, p31, p32, p33, p34, p35, p36, p37, p38, p39, qa0⟩ := F'.out
    have g := g'.out
    refine hK _ _ ⟨by simpa using hl, (upd (upd (upd (upd (upd X 34 (.int .i64 al.2.2)) 37 (.int .i64 ah.2.2)) 40 (.int .i64 bl.2.2)) 43 (.int .i64 bh.2.2)) 44 (.int .i64 (gp al.2.2 ah.2.2 bl.2.2 bh.2.2))), rfl, Nat.le_trans hN hb.size, GI.out _ _ (hb.mono hN) g, p0.k, p1.k, p2.k, p3.k, p4.k, p5.k, p6.k, p7.k, p8.k, p9.k, p10.k, p11.k, p12.k, p13.k, p14.k, p15.k, p16.k, p17.k, p18.k, p19.k, p20.k, p21.k, p22.k, p23.k, p24.k, p25.k, p26.k, p27.k, PV.made rfl, p29.k, p30.k, PV.made rfl, p32.k, p33.k, PV.made rfl, p35.k, p36.k, PV.made rfl, PV.made rfl, p39.k, qa0.keep (by decide) (by decide) (fun _ _ h => own_below h hb)⟩
  · rintro l A W ⟨hl, X, rfl, hN, g, F⟩ h1 hp K hK
    have e12 := F.2.2.2.2.2.2.2.2.2.2.2.2.1 (hp ⟨12, .data⟩ (by simp) rfl)
    have e25 := F.2.2.2.2.2.2.2.2.2.2.2.2.2.2.2.2.2.2.2.2.2.2.2.2.2.1 (hp ⟨25, .data⟩ (by simp) rfl)
    have e38 := F.2.2.2.2.2.2.2.2.2.2.2.2.2.2.2.2.2.2.2.2.2.2.2.2.2.2.2.2.2.2.2.2.2.2.2.2.2.2.1 (hp ⟨38, .data⟩ (by simp) rfl)
    rw [fnrT_eq]
    have g' := Lib.hid g
    have F' := Lib.hid F; clear F g
    have hN' := Lib.hid hN; clear hN; have hl' := Lib.hid hl; clear hl; have h1' := Lib.hid h1; clear h1; have hp' := Lib.hid hp; clear hp; have hK' := Lib.hid hK; clear hK
    go_simp
    have hK := hK'.out; have hN := hN'.out; have hl := hl'.out; have h1 := h1'.out
    obtain ⟨p0, p1, p2, p3, p4, p5, p6, p7, p8, p9, p10, p11, p12, p13, p14, p15, p16, p17, p18, p19, p20, p21, p22, p23, p24, p25, p26, p27, p28, p29, p30, p31, p32, p33, p34, p35, p36, p37, p38, p39, qa0⟩ := F'.out
    have g := g'.out
    refine hK _ _ ⟨by simpa using hl, (upd (upd (upd (upd X 18 (.int .i64 (gp al.1 ah.1 bl.1 bh.1))) 31 (.int .i64 (gp al.2.1 ah.2.1 bl.2.1 bh.2.1))) 44 (.int .i64 (gp al.2.2 ah.2.2 bl.2.2 bh.2.2))) 45 (ptv (gp3 al ah bl bh))), rfl, hN, g, p0.k, p1.k, p2.k, p3.k, p4.k, p5.k, p6.k, p7.k, p8.k, p9.k, p10.k, p11.k, PV.made rfl, p13.k, p14.k, p15.k, p16.k, p17.k, p18.k, p19.k, p20.k, p21.k, p22.k, p23.k, p24.k, PV.made rfl, p26.k, p27.k, p28.k, p29.k, p30.k, p31.k, p32.k, p33.k, p34.k, p35.k, p36.k, p37.k, PV.made rfl, PV.made rfl, qa0.keep (by decide) (by decide) (fun _ _ h => h)⟩
  · rintro l A W ⟨hl, X, rfl, hN, g, F⟩ h1 hp K hK
    rw [fnrT_eq]
    have g' := Lib.hid g
    have F' := Lib.hid F; clear F g
    have hN' := Lib.hid hN; clear hN; have hl' := Lib.hid hl; clear hl; have h1' := Lib.hid h1; clear h1; have hp' := Lib.hid hp; clear hp; have hK' := Lib.hid hK; clear hK
    go_simp
    have hK := hK'.out; have hN := hN'.out; have hl := hl'.out; have h1 := h1'.out
    obtain ⟨p0, p1, p2, p3, p4, p5, p6, p7, p8, p9, p10, p11, p12, p13, p14, p15, p16, p17, p18, p19, p20, p21, p22, p23, p24, p25, p26, p27, p28, p29, p30, p31, p32, p33, p34, p35, p36, p37, p38, p39, qa0⟩ := F'.out
    have g := g'.out
    refine hK _ _ ⟨by simpa using hl, (upd X 5 (.pointer (some ⟨W.heap.size, 0, none⟩))), rfl, (by simp; omega), GI.out _ _ (((Below.refl _ W).alloc (Nat.le_refl _) _).mono hN) g, p0.k, p1.k, p2.k, p3.k, p4.k, p5.k, p6.k, p7.k, p8.k, p9.k, p10.k, p11.k, p12.k, p13.k, p14.k, p15.k, p16.k, p17.k, p18.k, p19.k, p20.k, p21.k, p22.k, p23.k, p24.k, p25.k, p26.k, p27.k, p28.k, p29.k, p30.k, p31.k, p32.k, p33.k, p34.k, p35.k, p36.k, p37.k, p38.k, p39.k, qa0.made (by decide) (by rw [hl]; decide) h1 hN (own_new W (0, 0, 0) _)⟩
  · rintro l A W ⟨hl, X, rfl, hN, g, F⟩ h1 hp K hK
    have la := hp ⟨40, .data⟩ (by simp) rfl
    have e39 := F.2.2.2.2.2.2.2.2.2.2.2.2.2.2.2.2.2.2.2.2.2.2.2.2.2.2.2.2.2.2.2.2.2.2.2.2.2.2.2.1 (hp ⟨39, .data⟩ (by simp) rfl)
    obtain ⟨b', v', e2, hb', ow, _⟩ := F.2.2.2.2.2.2.2.2.2.2.2.2.2.2.2.2.2.2.2.2.2.2.2.2.2.2.2.2.2.2.2.2.2.2.2.2.2.2.2.2.2 la
    obtain ⟨o0, o1, o2, o3, o4, o5, o6⟩ := id ow
    rw [fnrT_eq]
    have g' := Lib.hid g
    have F' := Lib.hid F; clear F g
    have hN' := Lib.hid hN; clear hN; have hl' := Lib.hid hl; clear hl; have h1' := Lib.hid h1; clear h1; have hp' := Lib.hid hp; clear hp; have hK' := Lib.hid hK; clear hK
    have la' := Lib.hid la; clear la; have hb'' := Lib.hid hb'; clear hb'; have ow' := Lib.hid ow; clear ow
    go_simp
    have hK := hK'.out; have hN := hN'.out; have hl := hl'.out; have h1 := h1'.out
    obtain ⟨p0, p1, p2, p3, p4, p5, p6, p7, p8, p9, p10, p11, p12, p13, p14, p15, p16, p17, p18, p19, p20, p21, p22, p23, p24, p25, p26, p27, p28, p29, p30, p31, p32, p33, p34, p35, p36, p37, p38, p39, qa0⟩ := F'.out
    have g := g'.out
    have la := la'.out; have hb' := hb''.out; have ow := ow'.out
    refine hK _ _ ⟨by simpa using hl, (upd (upd X 45 (ptv (gp3 al ah bl bh))) 5 (.pointer (some ⟨b', 0, none⟩))), rfl, (by simpa using hN), GI.out _ _ (below_set3 _ _ _ hb') g, p0.k, p1.k, p2.k, p3.k, p4.k, p5.k, p6.k, p7.k, p8.k, p9.k, p10.k, p11.k, p12.k, p13.k, p14.k, p15.k, p16.k, p17.k, p18.k, p19.k, p20.k, p21.k, p22.k, p23.k, p24.k, p25.k, p26.k, p27.k, p28.k, p29.k, p30.k, p31.k, p32.k, p33.k, p34.k, p35.k, p36.k, p37.k, p38.k, PV.made rfl, QA.put (by decide) la rfl hb' (own_put ow _)⟩
set_option maxRecDepth 100000 in
set_option maxHeartbeats 4000000 in
theorem fnr_reg (G : World → Prop) (N : Nat) (x y : Nat) (al ah bl bh : P3) {y0 y1 y46 y47 y48 x5 x6 x7 x8 x9 x10 x11 x12 x13 x14 x15 x16 x17 x18 x19 x20 x21 x22 x23 x24 x25 x26 x27 x28 x29 x30 x31 x32 x33 x34 x35 x36 x37 x38 x39 x40 x41 x42 x43 x44 x45 : Value} {W : World} {Q : Exit → Act → World → Prop} (G1 : Hid ((-4611686018427387904 ≤ bl.1 - ah.1 ∧ bl.1 - ah.1 ≤ 4611686018427387904) ∧ (-4611686018427387904 ≤ al.1 - bh.1 ∧ al.1 - bh.1 ≤ 4611686018427387904))) (G2 : Hid ((-4611686018427387904 ≤ bl.2.1 - ah.2.1 ∧ bl.2.1 - ah.2.1 ≤ 4611686018427387904) ∧ (-4611686018427387904 ≤ al.2.1 - bh.2.1 ∧ al.2.1 - bh.2.1 ≤ 4611686018427387904))) (G3 : Hid ((-4611686018427387904 ≤ bl.2.2 - ah.2.2 ∧ bl.2.2 - ah.2.2 ≤ 4611686018427387904) ∧ (-4611686018427387904 ≤ al.2.2 - bh.2.2 ∧ al.2.2 - bh.2.2 ≤ 4611686018427387904))) (GC : Hid (∀ W : World, G W → W.cell? ⟨x, 1, none⟩ = some (.int .i64 al.1) ∧ W.cell? ⟨x, 2, none⟩ = some (.int .i64 al.2.1) ∧ W.cell? ⟨x, 3, none⟩ = some (.int .i64 al.2.2) ∧ W.cell? ⟨x, 4, none⟩ = some (.int .i64 ah.1) ∧ W.cell? ⟨x, 5, none⟩ = some (.int .i64 ah.2.1) ∧ W.cell? ⟨x, 6, none⟩ = some (.int .i64 ah.2.2) ∧ W.cell? ⟨y, 1, none⟩ = some (.int .i64 bl.1) ∧ W.cell? ⟨y, 2, none⟩ = some (.int .i64 bl.2.1) ∧ W.cell? ⟨y, 3, none⟩ = some (.int .i64 bl.2.2) ∧ W.cell? ⟨y, 4, none⟩ = some (.int .i64 bh.1) ∧ W.cell? ⟨y, 5, none⟩ = some (.int .i64 bh.2.1) ∧ W.cell? ⟨y, 6, none⟩ = some (.int .i64 bh.2.2))) (GI : Hid (∀ W W' : World, Below N W W' → G W → G W')) (hN : N ≤ W.heap.size) (g0 : G W.drew)
    (hK : ∀ (x6 x7 x8 x9 x10 x11 x12 x13 x14 x15 x16 x17 x18 x19 x20 x21 x22 x23 x24 x25 x26 x27 x28 x29 x30 x31 x32 x33 x34 x35 x36 x37 x38 x39 x40 x41 x42 x43 x44 x45 : Value) (b0 : Nat) (W' : World), N ≤ W'.heap.size → G W' → N ≤ b0 → Own W' b0 ((gp3 al ah bl bh)) → Q .normal { tmps := #[y0, y1, .pointer (some ⟨x, 0, none⟩), .pointer (some ⟨y, 0, none⟩), .int .i64 0, .pointer (some ⟨b0, 0, none⟩), x6, x7, x8, x9, x10, x11, x12, x13, x14, x15, x16, x17, x18, x19, x20, x21, x22, x23, x24, x25, x26, x27, x28, x29, x30, x31, x32, x33, x34, x35, x36, x37, x38, x39, x40, x41, x42, x43, x44, x45, y46, y47, y48], defers := [] } W') :
    Code.wp Try.prog (.region 1 fnrOps true) Q { tmps := #[y0, y1, .pointer (some ⟨x, 0, none⟩), .pointer (some ⟨y, 0, none⟩), .int .i64 0, x5, x6, x7, x8, x9, x10, x11, x12, x13, x14, x15, x16, x17, x18, x19, x20, x21, x22, x23, x24, x25, x26, x27, x28, x29, x30, x31, x32, x33, x34, x35, x36, x37, x38, x39, x40, x41, x42, x43, x44, x45, y46, y47, y48], defers := [] } W := by
  refine wp_region_inv (fnrI G N x y al ah bl bh y0 y1 y46 y47 y48) (by kernel_rfl) ?_ (fnr_steps G N x y al ah bl bh y0 y1 y46 y47 y48 Q G1 G2 G3 GC GI) ?_
  · exact ⟨by simp [fnrOps], fun i => (#[undef, undef, undef, undef, undef, x5, x6, x7, x8, x9, x10, x11, x12, x13, x14, x15, x16, x17, x18, x19, x20, x21, x22, x23, x24, x25, x26, x27, x28, x29, x30, x31, x32, x33, x34, x35, x36, x37, x38, x39, x40, x41, x42, x43, x44, x45, undef, undef, undef] : Array Value).getD i undef, rfl, hN, g0, PV.nought, PV.nought, PV.nought, PV.nought, PV.nought, PV.nought, PV.nought, PV.nought, PV.nought, PV.nought, PV.nought, PV.nought, PV.nought, PV.nought, PV.nought, PV.nought, PV.nought, PV.nought, PV.nought, PV.nought, PV.nought, PV.nought, PV.nought, PV.nought, PV.nought, PV.nought, PV.nought, PV.nought, PV.nought, PV.nought, PV.nought, PV.nought, PV.nought, PV.nought, PV.nought, PV.nought, PV.nought, PV.nought, PV.nought, PV.nought, QA.nought⟩
  · rintro l A W ⟨hl, X, rfl, hN, g, p0, p1, p2, p3, p4, p5, p6, p7, p8, p9, p10, p11, p12, p13, p14, p15, p16, p17, p18, p19, p20, p21, p22, p23, p24, p25, p26, p27, p28, p29, p30, p31, p32, p33, p34, p35, p36, p37, p38, p39, qa0⟩ hr
    unfold fnrOps at hr
    have l0 := ready_end hr 0 (by rw [hl]; decide) rfl (fun e he hbn => by
      simp at he
      (try (repeat (rcases he with rfl | he; · first | assumption | exact absurd hbn (by decide))))
      (try (first | exact he.elim | (subst he; first | assumption | exact absurd hbn (by decide)))))
    have l1 := ready_end hr 1 (by rw [hl]; decide) rfl (fun e he hbn => by
      simp at he
      (try (repeat (rcases he with rfl | he; · first | assumption | exact absurd hbn (by decide))))
      (try (first | exact he.elim | (subst he; first | assumption | exact absurd hbn (by decide)))))
    have l2 := ready_end hr 2 (by rw [hl]; decide) rfl (fun e he hbn => by
      simp at he
      (try (repeat (rcases he with rfl | he; · first | assumption | exact absurd hbn (by decide))))
      (try (first | exact he.elim | (subst he; first | assumption | exact absurd hbn (by decide)))))
    have l3 := ready_end hr 3 (by rw [hl]; decide) rfl (fun e he hbn => by
      simp at he
      (try (repeat (rcases he with rfl | he; · first | assumption | exact absurd hbn (by decide))))
      (try (first | exact he.elim | (subst he; first | assumption | exact absurd hbn (by decide)))))
    have l4 := ready_end hr 4 (by rw [hl]; decide) rfl (fun e he hbn => by
      simp at he
      (try (repeat (rcases he with rfl | he; · first | assumption | exact absurd hbn (by decide))))
      (try (first | exact he.elim | (subst he; first | assumption | exact absurd hbn (by decide)))))
    have l5 := ready_end hr 5 (by rw [hl]; decide) rfl (fun e he hbn => by
      simp at he
      (try (repeat (rcases he with rfl | he; · first | assumption | exact absurd hbn (by decide))))
      (try (first | exact he.elim | (subst he; first | assumption | exact absurd hbn (by decide)))))
    have l6 := ready_end hr 6 (by rw [hl]; decide) rfl (fun e he hbn => by
      simp at he
      (try (repeat (rcases he with rfl | he; · first | assumption | exact absurd hbn (by decide))))
      (try (first | exact he.elim | (subst he; first | assumption | exact absurd hbn (by decide)))))
    have l7 := ready_end hr 7 (by rw [hl]; decide) rfl (fun e he hbn => by
      simp at he
      (try (repeat (rcases he with rfl | he; · first | assumption | exact absurd hbn (by decide))))
      (try (first | exact he.elim | (subst he; first | assumption | exact absurd hbn (by decide)))))
    have l8 := ready_end hr 8 (by rw [hl]; decide) rfl (fun e he hbn => by
      simp at he
      (try (repeat (rcases he with rfl | he; · first | assumption | exact absurd hbn (by decide))))
      (try (first | exact he.elim | (subst he; first | assumption | exact absurd hbn (by decide)))))
    have l9 := ready_end hr 9 (by rw [hl]; decide) rfl (fun e he hbn => by
      simp at he
      (try (repeat (rcases he with rfl | he; · first | assumption | exact absurd hbn (by decide))))
      (try (first | exact he.elim | (subst he; first | assumption | exact absurd hbn (by decide)))))
    have l10 := ready_end hr 10 (by rw [hl]; decide) rfl (fun e he hbn => by
      simp at he
      (try (repeat (rcases he with rfl | he; · first | assumption | exact absurd hbn (by decide))))
      (try (first | exact he.elim | (subst he; first | assumption | exact absurd hbn (by decide)))))
    have l11 := ready_end hr 11 (by rw [hl]; decide) rfl (fun e he hbn => by
      simp at he
      (try (repeat (rcases he with rfl | he; · first | assumption | exact absurd hbn (by decide))))
      (try (first | exact he.elim | (subst he; first | assumption | exact absurd hbn (by decide)))))
    have l12 := ready_end hr 12 (by rw [hl]; decide) rfl (fun e he hbn => by
      simp at he
      (try (repeat (rcases he with rfl | he; · first | assumption | exact absurd hbn (by decide))))
      (try (first | exact he.elim | (subst he; first | assumption | exact absurd hbn (by decide)))))
    have l13 := ready_end hr 13 (by rw [hl]; decide) rfl (fun e he hbn => by
      simp at he
      (try (repeat (rcases he with rfl | he; · first | assumption | exact absurd hbn (by decide))))
      (try (first | exact he.elim | (subst he; first | assumption | exact absurd hbn (by decide)))))
    have l14 := ready_end hr 14 (by rw [hl]; decide) rfl (fun e he hbn => by
      simp at he
      (try (repeat (rcases he with rfl | he; · first | assumption | exact absurd hbn (by decide))))
      (try (first | exact he.elim | (subst he; first | assumption | exact absurd hbn (by decide)))))
    have l15 := ready_end hr 15 (by rw [hl]; decide) rfl (fun e he hbn => by
      simp at he
      (try (repeat (rcases he with rfl | he; · first | assumption | exact absurd hbn (by decide))))
      (try (first | exact he.elim | (subst he; first | assumption | exact absurd hbn (by decide)))))
    have l16 := ready_end hr 16 (by rw [hl]; decide) rfl (fun e he hbn => by
      simp at he
      (try (repeat (rcases he with rfl | he; · first | assumption | exact absurd hbn (by decide))))
      (try (first | exact he.elim | (subst he; first | assumption | exact absurd hbn (by decide)))))
    have l17 := ready_end hr 17 (by rw [hl]; decide) rfl (fun e he hbn => by
      simp at he
      (try (repeat (rcases he with rfl | he; · first | assumption | exact absurd hbn (by decide))))
      (try (first | exact he.elim | (subst he; first | assumption | exact absurd hbn (by decide)))))
    have l18 := ready_end hr 18 (by rw [hl]; decide) rfl (fun e he hbn => by
      simp at he
      (try (repeat (rcases he with rfl | he; · first | assumption | exact absurd hbn (by decide))))
      (try (first | exact he.elim | (subst he; first | assumption | exact absurd hbn (by decide)))))
    have l19 := ready_end hr 19 (by rw [hl]; decide) rfl (fun e he hbn => by
      simp at he
      (try (repeat (rcases he with rfl | he; · first | assumption | exact absurd hbn (by decide))))
      (try (first | exact he.elim | (subst he; first | assumption | exact absurd hbn (by decide)))))
    have l20 := ready_end hr 20 (by rw [hl]; decide) rfl (fun e he hbn => by
      simp at he
      (try (repeat (rcases he with rfl | he; · first | assumption | exact absurd hbn (by decide))))
      (try (first | exact he.elim | (subst he; first | assumption | exact absurd hbn (by decide)))))
    have l21 := ready_end hr 21 (by rw [hl]; decide) rfl (fun e he hbn => by
      simp at he
      (try (repeat (rcases he with rfl | he; · first | assumption | exact absurd hbn (by decide))))
      (try (first | exact he.elim | (subst he; first | assumption | exact absurd hbn (by decide)))))
    have l22 := ready_end hr 22 (by rw [hl]; decide) rfl (fun e he hbn => by
      simp at he
      (try (repeat (rcases he with rfl | he; · first | assumption | exact absurd hbn (by decide))))
      (try (first | exact he.elim | (subst he; first | assumption | exact absurd hbn (by decide)))))
    have l23 := ready_end hr 23 (by rw [hl]; decide) rfl (fun e he hbn => by
      simp at he
      (try (repeat (rcases he with rfl | he; · first | assumption | exact absurd hbn (by decide))))
      (try (first | exact he.elim | (subst he; first | assumption | exact absurd hbn (by decide)))))
    have l24 := ready_end hr 24 (by rw [hl]; decide) rfl (fun e he hbn => by
      simp at he
      (try (repeat (rcases he with rfl | he; · first | assumption | exact absurd hbn (by decide))))
      (try (first | exact he.elim | (subst he; first | assumption | exact absurd hbn (by decide)))))
    have l25 := ready_end hr 25 (by rw [hl]; decide) rfl (fun e he hbn => by
      simp at he
      (try (repeat (rcases he with rfl | he; · first | assumption | exact absurd hbn (by decide))))
      (try (first | exact he.elim | (subst he; first | assumption | exact absurd hbn (by decide)))))
    have l26 := ready_end hr 26 (by rw [hl]; decide) rfl (fun e he hbn => by
      simp at he
      (try (repeat (rcases he with rfl | he; · first | assumption | exact absurd hbn (by decide))))
      (try (first | exact he.elim | (subst he; first | assumption | exact absurd hbn (by decide)))))
    have l27 := ready_end hr 27 (by rw [hl]; decide) rfl (fun e he hbn => by
      simp at he
      (try (repeat (rcases he with rfl | he; · first | assumption | exact absurd hbn (by decide))))
      (try (first | exact he.elim | (subst he; first | assumption | exact absurd hbn (by decide)))))
    have l28 := ready_end hr 28 (by rw [hl]; decide) rfl (fun e he hbn => by
      simp at he
      (try (repeat (rcases he with rfl | he; · first | assumption | exact absurd hbn (by decide))))
      (try (first | exact he.elim | (subst he; first | assumption | exact absurd hbn (by decide)))))
    have l29 := ready_end hr 29 (by rw [hl]; decide) rfl (fun e he hbn => by
      simp at he
      (try (repeat (rcases he with rfl | he; · first | assumption | exact absurd hbn (by decide))))
      (try (first | exact he.elim | (subst he; first | assumption | exact absurd hbn (by decide)))))
    have l30 := ready_end hr 30 (by rw [hl]; decide) rfl (fun e he hbn => by
      simp at he
      (try (repeat (rcases he with rfl | he; · first | assumption | exact absurd hbn (by decide))))
      (try (first | exact he.elim | (subst he; first | assumption | exact absurd hbn (by decide)))))
    have l31 := ready_end hr 31 (by rw [hl]; decide) rfl (fun e he hbn => by
      simp at he
      (try (repeat (rcases he with rfl | he; · first | assumption | exact absurd hbn (by decide))))
      (try (first | exact he.elim | (subst he; first | assumption | exact absurd hbn (by decide)))))
    have l32 := ready_end hr 32 (by rw [hl]; decide) rfl (fun e he hbn => by
      simp at he
      (try (repeat (rcases he with rfl | he; · first | assumption | exact absurd hbn (by decide))))
      (try (first | exact he.elim | (subst he; first | assumption | exact absurd hbn (by decide)))))
    have l33 := ready_end hr 33 (by rw [hl]; decide) rfl (fun e he hbn => by
      simp at he
      (try (repeat (rcases he with rfl | he; · first | assumption | exact absurd hbn (by decide))))
      (try (first | exact he.elim | (subst he; first | assumption | exact absurd hbn (by decide)))))
    have l34 := ready_end hr 34 (by rw [hl]; decide) rfl (fun e he hbn => by
      simp at he
      (try (repeat (rcases he with rfl | he; · first | assumption | exact absurd hbn (by decide))))
      (try (first | exact he.elim | (subst he; first | assumption | exact absurd hbn (by decide)))))
    have l35 := ready_end hr 35 (by rw [hl]; decide) rfl (fun e he hbn => by
      simp at he
      (try (repeat (rcases he with rfl | he; · first | assumption | exact absurd hbn (by decide))))
      (try (first | exact he.elim | (subst he; first | assumption | exact absurd hbn (by decide)))))
    have l36 := ready_end hr 36 (by rw [hl]; decide) rfl (fun e he hbn => by
      simp at he
      (try (repeat (rcases he with rfl | he; · first | assumption | exact absurd hbn (by decide))))
      (try (first | exact he.elim | (subst he; first | assumption | exact absurd hbn (by decide)))))
    have l37 := ready_end hr 37 (by rw [hl]; decide) rfl (fun e he hbn => by
      simp at he
      (try (repeat (rcases he with rfl | he; · first | assumption | exact absurd hbn (by decide))))
      (try (first | exact he.elim | (subst he; first | assumption | exact absurd hbn (by decide)))))
    have l38 := ready_end hr 38 (by rw [hl]; decide) rfl (fun e he hbn => by
      simp at he
      (try (repeat (rcases he with rfl | he; · first | assumption | exact absurd hbn (by decide))))
      (try (first | exact he.elim | (subst he; first | assumption | exact absurd hbn (by decide)))))
    have l39 := ready_end hr 39 (by rw [hl]; decide) rfl (fun e he hbn => by
      simp at he
      (try (repeat (rcases he with rfl | he; · first | assumption | exact absurd hbn (by decide))))
      (try (first | exact he.elim | (subst he; first | assumption | exact absurd hbn (by decide)))))
    have l40 := ready_end hr 40 (by rw [hl]; decide) rfl (fun e he hbn => by
      simp at he
      (try (repeat (rcases he with rfl | he; · first | assumption | exact absurd hbn (by decide))))
      (try (first | exact he.elim | (subst he; first | assumption | exact absurd hbn (by decide)))))
    have l41 := ready_end hr 41 (by rw [hl]; decide) rfl (fun e he hbn => by
      simp at he
      (try (repeat (rcases he with rfl | he; · first | assumption | exact absurd hbn (by decide))))
      (try (first | exact he.elim | (subst he; first | assumption | exact absurd hbn (by decide)))))
    obtain ⟨b0, v0, e0x, n0, o0, t0⟩ := qa0.2 l40
    obtain rfl := t0 l41
    have z := hK (X 6) (X 7) (X 8) (X 9) (X 10) (X 11) (X 12) (X 13) (X 14) (X 15) (X 16) (X 17) (X 18) (X 19) (X 20) (X 21) (X 22) (X 23) (X 24) (X 25) (X 26) (X 27) (X 28) (X 29) (X 30) (X 31) (X 32) (X 33) (X 34) (X 35) (X 36) (X 37) (X 38) (X 39) (X 40) (X 41) (X 42) (X 43) (X 44) (X 45) b0 W hN g n0 o0
    rw [← e0x] at z
    exact z

end Go.Proofs.Ytjigcgpcglfjfaa
