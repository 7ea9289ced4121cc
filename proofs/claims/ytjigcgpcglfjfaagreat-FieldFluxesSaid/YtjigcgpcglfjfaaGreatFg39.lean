/-
  The contract of the document's Flux; the law FieldFluxes: its walk.
-/
import Derived.Test.YtjigcgpcglfjfaaGreatFg38
namespace Go.Proofs.YtjigcgpcglfjfaaGreat
open Go.ChangeShapes Go.WideShapes Go.RowKit
open Sh
def rfxOps : Array Oper := #[{ dst := some 39, op := Op.move (Operand.tmp 8), type := 39, pos := "ref.go:225", after := #[], guard := none }, { dst := some 40, op := Op.move (Operand.tmp 11), type := 3, pos := "ref.go:225", after := #[], guard := none }, { dst := some 41, op := Op.indexAddr 39 (Operand.tmp 39) (Operand.tmp 40), type := 0, pos := "ref.go:225", after := #[{ on := 0, ground := Ground.data }, { on := 1, ground := Ground.data }], guard := none }, { dst := some 42, op := Op.load 38 (Operand.tmp 41), type := 38, pos := "ref.go:225", after := #[{ on := 2, ground := Ground.data }], guard := none }, { dst := some 43, op := Op.load 27 (Operand.tmp 4), type := 27, pos := "ref.go:225", after := #[], guard := none }, { dst := some 44, op := Op.move (Operand.tmp 2), type := 3, pos := "ref.go:225", after := #[], guard := none }, { dst := some 45, op := Op.call { callee := Callee.value (Operand.func 17), args := #[Operand.tmp 42, Operand.tmp 43, Operand.tmp 44], argTypes := #[38, 27, 3] }, type := 33, pos := "ref.go:225", after := #[{ on := 3, ground := Ground.data }, { on := 4, ground := Ground.data }, { on := 5, ground := Ground.data }], guard := none }, { dst := some 38, op := Op.move (Operand.tmp 45), type := 33, pos := "ref.go:225", after := #[{ on := 6, ground := Ground.data }], guard := none }, { dst := some 46, op := Op.extract (Operand.tmp 38) 0, type := 31, pos := "ref.go:225", after := #[{ on := 7, ground := Ground.data }], guard := none }, { dst := some 47, op := Op.extract (Operand.tmp 38) 1, type := 32, pos := "ref.go:225", after := #[{ on := 7, ground := Ground.data }, { on := 11, ground := Ground.gcOnly Departure.lateStores }], guard := none }, { dst := some 12, op := Op.alloc 31, type := 0, pos := "ref.go:225", after := #[], guard := none }, { dst := none, op := Op.store 31 (Operand.tmp 12) (Operand.tmp 46), type := 0, pos := "ref.go:225", after := #[{ on := 10, ground := Ground.data }, { on := 8, ground := Ground.data }, { on := 6, ground := Ground.chain }, { on := 0, ground := Ground.phase }, { on := 1, ground := Ground.phase }, { on := 2, ground := Ground.phase }, { on := 3, ground := Ground.phase }, { on := 4, ground := Ground.phase }, { on := 5, ground := Ground.phase }, { on := 6, ground := Ground.phase }, { on := 7, ground := Ground.phase }, { on := 8, ground := Ground.phase }, { on := 9, ground := Ground.textOnly Departure.lateStores }, { on := 10, ground := Ground.phase }], guard := none }, { dst := some 13, op := Op.assign (Operand.tmp 47), type := 32, pos := "ref.go:225", after := #[{ on := 9, ground := Ground.data }, { on := 11, ground := Ground.chain }, { on := 0, ground := Ground.phase }, { on := 1, ground := Ground.phase }, { on := 2, ground := Ground.phase }, { on := 3, ground := Ground.phase }, { on := 4, ground := Ground.phase }, { on := 5, ground := Ground.phase }, { on := 6, ground := Ground.phase }, { on := 7, ground := Ground.phase }, { on := 8, ground := Ground.phase }, { on := 9, ground := Ground.phase }, { on := 10, ground := Ground.phase }, { on := 11, ground := Ground.phase }], guard := none }]
def rfxT (u : Nat) (n : Nat) (cap : Nat) (k : Nat) (y : Nat) (D : Int) (y0 y1 y3 y5 y6 y7 y9 y10 y14 y15 y16 y17 y18 y19 y20 y21 y22 y23 y24 y25 y26 y27 y28 y29 y30 y31 y32 y33 y34 y35 y36 y37 y48 y49 y50 y51 y52 y53 y54 y55 y56 y57 y58 y59 : Value) (X : Nat → Value) : Array Value := #[y0, y1, .int .i64 D, y3, .pointer (some ⟨y, 0, none⟩), y5, y6, y7, .slice (some ⟨u, 0, none⟩) n cap, y9, y10, .int .i64 k, X 12, X 13, y14, y15, y16, y17, y18, y19, y20, y21, y22, y23, y24, y25, y26, y27, y28, y29, y30, y31, y32, y33, y34, y35, y36, y37, X 38, X 39, X 40, X 41, X 42, X 43, X 44, X 45, X 46, X 47, y48, y49, y50, y51, y52, y53, y54, y55, y56, y57, y58, y59]
theorem rfxT_eq (u : Nat) (n : Nat) (cap : Nat) (k : Nat) (y : Nat) (D : Int) (y0 y1 y3 y5 y6 y7 y9 y10 y14 y15 y16 y17 y18 y19 y20 y21 y22 y23 y24 y25 y26 y27 y28 y29 y30 y31 y32 y33 y34 y35 y36 y37 y48 y49 y50 y51 y52 y53 y54 y55 y56 y57 y58 y59 : Value) (X : Nat → Value) : rfxT u n cap k y D y0 y1 y3 y5 y6 y7 y9 y10 y14 y15 y16 y17 y18 y19 y20 y21 y22 y23 y24 y25 y26 y27 y28 y29 y30 y31 y32 y33 y34 y35 y36 y37 y48 y49 y50 y51 y52 y53 y54 y55 y56 y57 y58 y59 X = #[y0, y1, .int .i64 D, y3, .pointer (some ⟨y, 0, none⟩), y5, y6, y7, .slice (some ⟨u, 0, none⟩) n cap, y9, y10, .int .i64 k, X 12, X 13, y14, y15, y16, y17, y18, y19, y20, y21, y22, y23, y24, y25, y26, y27, y28, y29, y30, y31, y32, y33, y34, y35, y36, y37, X 38, X 39, X 40, X 41, X 42, X 43, X 44, X 45, X 46, X 47, y48, y49, y50, y51, y52, y53, y54, y55, y56, y57, y58, y59] := rfl
def rfxI (G : World → Prop) (N : Nat) (u n cap k y : Nat) (q : P9) (x : P3) (D : Int) (r : Sp.R) (y0 y1 y3 y5 y6 y7 y9 y10 y14 y15 y16 y17 y18 y19 y20 y21 y22 y23 y24 y25 y26 y27 y28 y29 y30 y31 y32 y33 y34 y35 y36 y37 y48 y49 y50 y51 y52 y53 y54 y55 y56 y57 y58 y59 : Value) (l : Array Bool) (A : Act) (W : World) : Prop :=
  l.size = 13 ∧ ∃ X : Nat → Value, A = { tmps := rfxT u n cap k y D y0 y1 y3 y5 y6 y7 y9 y10 y14 y15 y16 y17 y18 y19 y20 y21 y22 y23 y24 y25 y26 y27 y28 y29 y30 y31 y32 y33 y34 y35 y36 y37 y48 y49 y50 y51 y52 y53 y54 y55 y56 y57 y58 y59 X, defers := [] } ∧ N ≤ W.heap.size ∧ G W ∧ PV l 0 (X 39) (.slice (some ⟨u, 0, none⟩) n cap) ∧ PV l 1 (X 40) (.int .i64 k) ∧ PV l 2 (X 41) (.pointer (some ⟨u, k * 9, none⟩)) ∧ PV l 3 (X 42) (pnv q.1 q.2.1 q.2.2) ∧ PV l 4 (X 43) (ptv x) ∧ PV l 5 (X 44) (.int .i64 D) ∧ PV l 6 (X 45) (spr r) ∧ PV l 7 (X 38) (spr r) ∧ PV l 8 (X 46) (.agg #[.int .i64 r.1.1, .int .i64 r.1.2]) ∧ PV l 9 (X 47) (.int .i64 r.2) ∧ PV l 12 (X 13) (.int .i64 r.2) ∧ QX OwP l W (X 12) 10 11 N (r.1)
set_option maxRecDepth 100000 in
set_option maxHeartbeats 4000000 in
theorem rfx_steps (G : World → Prop) (N : Nat) (u n cap k y : Nat) (q : P9) (x : P3) (D : Int) (r : Sp.R) (y0 y1 y3 y5 y6 y7 y9 y10 y14 y15 y16 y17 y18 y19 y20 y21 y22 y23 y24 y25 y26 y27 y28 y29 y30 y31 y32 y33 y34 y35 y36 y37 y48 y49 y50 y51 y52 y53 y54 y55 y56 y57 y58 y59 : Value) (Q : Exit → Act → World → Prop) (HK : Hid ((k : Int) < (n : Int) ∧ 0 ≤ (k : Int))) (SC : Hid (∀ W, Calls Tryz.prog 17 #[pnv q.1 q.2.1 q.2.2, ptv x, .int .i64 D] W fun e w' => e = .returned (spr r) ∧ Below W.heap.size W w')) (GC : Hid (∀ W : World, G W → W.cell? ⟨u, k * 9, none⟩ = some (.int .i64 q.1.1) ∧ W.cell? ⟨u, k * 9 + 1, none⟩ = some (.int .i64 q.1.2.1) ∧ W.cell? ⟨u, k * 9 + 1 + 1, none⟩ = some (.int .i64 q.1.2.2) ∧ W.cell? ⟨u, k * 9 + 1 + 1 + 1, none⟩ = some (.int .i64 q.2.1.1) ∧ W.cell? ⟨u, k * 9 + 1 + 1 + 1 + 1, none⟩ = some (.int .i64 q.2.1.2.1) ∧ W.cell? ⟨u, k * 9 + 1 + 1 + 1 + 1 + 1, none⟩ = some (.int .i64 q.2.1.2.2) ∧ W.cell? ⟨u, k * 9 + 1 + 1 + 1 + 1 + 1 + 1, none⟩ = some (.int .i64 q.2.2.1) ∧ W.cell? ⟨u, k * 9 + 1 + 1 + 1 + 1 + 1 + 1 + 1, none⟩ = some (.int .i64 q.2.2.2.1) ∧ W.cell? ⟨u, k * 9 + 1 + 1 + 1 + 1 + 1 + 1 + 1 + 1, none⟩ = some (.int .i64 q.2.2.2.2) ∧ W.cell? ⟨y, 0, none⟩ = some (.int .i64 x.1) ∧ W.cell? ⟨y, 1, none⟩ = some (.int .i64 x.2.1) ∧ W.cell? ⟨y, 2, none⟩ = some (.int .i64 x.2.2))) (GI : Hid (∀ W W' : World, Below N W W' → G W → G W')) :
    allOps (fun i o => ∀ (l : Array Bool) (A : Act) (W : World), rfxI G N u n cap k y q x D r y0 y1 y3 y5 y6 y7 y9 y10 y14 y15 y16 y17 y18 y19 y20 y21 y22 y23 y24 y25 y26 y27 y28 y29 y30 y31 y32 y33 y34 y35 y36 y37 y48 y49 y50 y51 y52 y53 y54 y55 y56 y57 y58 y59 l A W → l.getD i true = false → (∀ e ∈ o.after, Region.binds .any e = true → l.getD e.on false = true) → ∀ K' : Act → World → Prop, (∀ A' W', rfxI G N u n cap k y q x D r y0 y1 y3 y5 y6 y7 y9 y10 y14 y15 y16 y17 y18 y19 y20 y21 y22 y23 y24 y25 y26 y27 y28 y29 y30 y31 y32 y33 y34 y35 y36 y37 y48 y49 y50 y51 y52 y53 y54 y55 y56 y57 y58 y59 (l.setIfInBounds i true) A' W' → K' A' W') → if Region.wanted o (yielded rfxOps A.tmps) = true then Oper.wp Tryz.prog o A W K' Q else K' (A.put o.dst undef) W) 0 rfxOps.toList := by
  simp only [rfxOps, allOps]
  refine ⟨?_, ?_, ?_, ?_, ?_, ?_, ?_, ?_, ?_, ?_, ?_, ?_, ?_, trivial⟩
  · rintro l A W ⟨hl, X, rfl, hN, g, F⟩ h1 hp K hK
    rw [rfxT_eq]
    have g' := Lib.hid g
    have F' := Lib.hid F; clear F g
    have hN' := Lib.hid hN; clear hN; have hl' := Lib.hid hl; clear hl; have h1' := Lib.hid h1; clear h1; have hp' := Lib.hid hp; clear hp; have hK' := Lib.hid hK; clear hK
    go_simp
    have hK := hK'.out; have hN := hN'.out; have hl := hl'.out; have h1 := h1'.out
    obtain ⟨p0, p1, p2, p3, p4, p5, p6, p7, p8, p9, p12, qa0⟩ := F'.out
    have g := g'.out
    refine hK _ _ ⟨by simpa using hl, (upd X 39 (.slice (some ⟨u, 0, none⟩) n cap)), rfl, hN, g, PV.made rfl, p1.k, p2.k, p3.k, p4.k, p5.k, p6.k, p7.k, p8.k, p9.k, p12.k, qa0.keep (by decide) (by decide) (fun _ _ h => h)⟩
  · rintro l A W ⟨hl, X, rfl, hN, g, F⟩ h1 hp K hK
    rw [rfxT_eq]
    have g' := Lib.hid g
    have F' := Lib.hid F; clear F g
    have hN' := Lib.hid hN; clear hN; have hl' := Lib.hid hl; clear hl; have h1' := Lib.hid h1; clear h1; have hp' := Lib.hid hp; clear hp; have hK' := Lib.hid hK; clear hK
    go_simp
    have hK := hK'.out; have hN := hN'.out; have hl := hl'.out; have h1 := h1'.out
    obtain ⟨p0, p1, p2, p3, p4, p5, p6, p7, p8, p9, p12, qa0⟩ := F'.out
    have g := g'.out
    refine hK _ _ ⟨by simpa using hl, (upd X 40 (.int .i64 k)), rfl, hN, g, p0.k, PV.made rfl, p2.k, p3.k, p4.k, p5.k, p6.k, p7.k, p8.k, p9.k, p12.k, qa0.keep (by decide) (by decide) (fun _ _ h => h)⟩
  · rintro l A W ⟨hl, X, rfl, hN, g, F⟩ h1 hp K hK
    have e0 := F.1 (hp ⟨0, .data⟩ (by simp) rfl)
    have e1 := F.2.1 (hp ⟨1, .data⟩ (by simp) rfl)
    obtain ⟨hk1, hk2⟩ := HK.out
    rw [rfxT_eq]
    have g' := Lib.hid g
    have F' := Lib.hid F; clear F g
    have hN' := Lib.hid hN; clear hN; have hl' := Lib.hid hl; clear hl; have h1' := Lib.hid h1; clear h1; have hp' := Lib.hid hp; clear hp; have hK' := Lib.hid hK; clear hK
    go_simp
    have hK := hK'.out; have hN := hN'.out; have hl := hl'.out; have h1 := h1'.out
    obtain ⟨p0, p1, p2, p3, p4, p5, p6, p7, p8, p9, p12, qa0⟩ := F'.out
    have g := g'.out
    refine hK _ _ ⟨by simpa using hl, (upd (upd (upd X 39 (.slice (some ⟨u, 0, none⟩) n cap)) 40 (.int .i64 k)) 41 (.pointer (some ⟨u, k * 9, none⟩))), rfl, hN, g, PV.made rfl, PV.made rfl, PV.made rfl, p3.k, p4.k, p5.k, p6.k, p7.k, p8.k, p9.k, p12.k, qa0.keep (by decide) (by decide) (fun _ _ h => h)⟩
  · rintro l A W ⟨hl, X, rfl, hN, g, F⟩ h1 hp K hK
    have e2 := F.2.2.1 (hp ⟨2, .data⟩ (by simp) rfl)
    obtain ⟨c0, c1, c2, c3, c4, c5, c6, c7, c8, o0, o1, o2⟩ := GC.out W g
    rw [rfxT_eq]
    have g' := Lib.hid g
    have F' := Lib.hid F; clear F g
    have hN' := Lib.hid hN; clear hN; have hl' := Lib.hid hl; clear hl; have h1' := Lib.hid h1; clear h1; have hp' := Lib.hid hp; clear hp; have hK' := Lib.hid hK; clear hK
    go_simp
    have hK := hK'.out; have hN := hN'.out; have hl := hl'.out; have h1 := h1'.out
    obtain ⟨p0, p1, p2, p3, p4, p5, p6, p7, p8, p9, p12, qa0⟩ := F'.out
    have g := g'.out
    refine hK _ _ ⟨by simpa using hl, (upd (upd X 41 (.pointer (some ⟨u, k * 9, none⟩))) 42 (pnv q.1 q.2.1 q.2.2)), rfl, hN, g, p0.k, p1.k, PV.made rfl, PV.made rfl, p4.k, p5.k, p6.k, p7.k, p8.k, p9.k, p12.k, qa0.keep (by decide) (by decide) (fun _ _ h => h)⟩
  · rintro l A W ⟨hl, X, rfl, hN, g, F⟩ h1 hp K hK
    obtain ⟨c0, c1, c2, c3, c4, c5, c6, c7, c8, o0, o1, o2⟩ := GC.out W g
    rw [rfxT_eq]
    have g' := Lib.hid g
    have F' := Lib.hid F; clear F g
    have hN' := Lib.hid hN; clear hN; have hl' := Lib.hid hl; clear hl; have h1' := Lib.hid h1; clear h1; have hp' := Lib.hid hp; clear hp; have hK' := Lib.hid hK; clear hK
    go_simp
    have hK := hK'.out; have hN := hN'.out; have hl := hl'.out; have h1 := h1'.out
    obtain ⟨p0, p1, p2, p3, p4, p5, p6, p7, p8, p9, p12, qa0⟩ := F'.out
    have g := g'.out
    refine hK _ _ ⟨by simpa using hl, (upd X 43 (ptv x)), rfl, hN, g, p0.k, p1.k, p2.k, p3.k, PV.made rfl, p5.k, p6.k, p7.k, p8.k, p9.k, p12.k, qa0.keep (by decide) (by decide) (fun _ _ h => h)⟩
  · rintro l A W ⟨hl, X, rfl, hN, g, F⟩ h1 hp K hK
    rw [rfxT_eq]
    have g' := Lib.hid g
    have F' := Lib.hid F; clear F g
    have hN' := Lib.hid hN; clear hN; have hl' := Lib.hid hl; clear hl; have h1' := Lib.hid h1; clear h1; have hp' := Lib.hid hp; clear hp; have hK' := Lib.hid hK; clear hK
    go_simp
    have hK := hK'.out; have hN := hN'.out; have hl := hl'.out; have h1 := h1'.out
    obtain ⟨p0, p1, p2, p3, p4, p5, p6, p7, p8, p9, p12, qa0⟩ := F'.out
    have g := g'.out
    refine hK _ _ ⟨by simpa using hl, (upd X 44 (.int .i64 D)), rfl, hN, g, p0.k, p1.k, p2.k, p3.k, p4.k, PV.made rfl, p6.k, p7.k, p8.k, p9.k, p12.k, qa0.keep (by decide) (by decide) (fun _ _ h => h)⟩
  · rintro l A W ⟨hl, X, rfl, hN, g, F⟩ h1 hp K hK
    have e3 := F.2.2.2.1 (hp ⟨3, .data⟩ (by simp) rfl)
    have e4 := F.2.2.2.2.1 (hp ⟨4, .data⟩ (by simp) rfl)
    have e5 := F.2.2.2.2.2.1 (hp ⟨5, .data⟩ (by simp) rfl)
    rw [rfxT_eq]
    have g' := Lib.hid g
    have F' := Lib.hid F; clear F g
    have hN' := Lib.hid hN; clear hN; have hl' := Lib.hid hl; clear hl; have h1' := Lib.hid h1; clear h1; have hp' := Lib.hid hp; clear hp; have hK' := Lib.hid hK; clear hK
    go_simp
    go_at_call 17
    refine (SC.out _).mono ?_
    rintro e W1 ⟨rfl, hb⟩
    (try dsimp only)
    have hK := hK'.out; have hN := hN'.out; have hl := hl'.out; have h1 := h1'.out
    obtain ⟨p0, p1, p2, p3, p4, p5, p6, p7, p8, p9, p12, qa0⟩ := F'.out
    have g := g'.out
    refine hK _ _ ⟨by simpa using hl, (upd (upd (upd (upd X 42 (pnv q.1 q.2.1 q.2.2)) 43 (ptv x)) 44 (.int .i64 D)) 45 (spr r)), rfl, Nat.le_trans hN hb.size, GI.out _ _ (hb.mono hN) g, p0.k, p1.k, p2.k, PV.made rfl, PV.made rfl, PV.made rfl, PV.made rfl, p7.k, p8.k, p9.k, p12.k, qa0.keep (by decide) (by decide) (fun _ _ h => owp_below h hb)⟩
  · rintro l A W ⟨hl, X, rfl, hN, g, F⟩ h1 hp K hK
    have e6 := F.2.2.2.2.2.2.1 (hp ⟨6, .data⟩ (by simp) rfl)
    rw [rfxT_eq]
    have g' := Lib.hid g
    have F' := Lib.hid F; clear F g
    have hN' := Lib.hid hN; clear hN; have hl' := Lib.hid hl; clear hl; have h1' := Lib.hid h1; clear h1; have hp' := Lib.hid hp; clear hp; have hK' := Lib.hid hK; clear hK
    go_simp
    have hK := hK'.out; have hN := hN'.out; have hl := hl'.out; have h1 := h1'.out
    obtain ⟨p0, p1, p2, p3, p4, p5, p6, p7, p8, p9, p12, qa0⟩ := F'.out
    have g := g'.out
    refine hK _ _ ⟨by simpa using hl, (upd (upd X 45 (spr r)) 38 (spr r)), rfl, hN, g, p0.k, p1.k, p2.k, p3.k, p4.k, p5.k, PV.made rfl, PV.made rfl, p8.k, p9.k, p12.k, qa0.keep (by decide) (by decide) (fun _ _ h => h)⟩
  · rintro l A W ⟨hl, X, rfl, hN, g, F⟩ h1 hp K hK
    have e7 := F.2.2.2.2.2.2.2.1 (hp ⟨7, .data⟩ (by simp) rfl)
    rw [rfxT_eq]
    have g' := Lib.hid g
    have F' := Lib.hid F; clear F g
    have hN' := Lib.hid hN; clear hN; have hl' := Lib.hid hl; clear hl; have h1' := Lib.hid h1; clear h1; have hp' := Lib.hid hp; clear hp; have hK' := Lib.hid hK; clear hK
    go_simp
    have hK := hK'.out; have hN := hN'.out; have hl := hl'.out; have h1 := h1'.out
    obtain ⟨p0, p1, p2, p3, p4, p5, p6, p7, p8, p9, p12, qa0⟩ := F'.out
    have g := g'.out
    refine hK _ _ ⟨by simpa using hl, (upd (upd X 38 (spr r)) 46 (.agg #[.int .i64 r.1.1, .int .i64 r.1.2])), rfl, hN, g, p0.k, p1.k, p2.k, p3.k, p4.k, p5.k, p6.k, PV.made rfl, PV.made rfl, p9.k, p12.k, qa0.keep (by decide) (by decide) (fun _ _ h => h)⟩
  · rintro l A W ⟨hl, X, rfl, hN, g, F⟩ h1 hp K hK
    have e7 := F.2.2.2.2.2.2.2.1 (hp ⟨7, .data⟩ (by simp) rfl)
    rw [rfxT_eq]
    have g' := Lib.hid g
    have F' := Lib.hid F; clear F g
    have hN' := Lib.hid hN; clear hN; have hl' := Lib.hid hl; clear hl; have h1' := Lib.hid h1; clear h1; have hp' := Lib.hid hp; clear hp; have hK' := Lib.hid hK; clear hK
    go_simp
    have hK := hK'.out; have hN := hN'.out; have hl := hl'.out; have h1 := h1'.out
    obtain ⟨p0, p1, p2, p3, p4, p5, p6, p7, p8, p9, p12, qa0⟩ := F'.out
    have g := g'.out
    refine hK _ _ ⟨by simpa using hl, (upd (upd X 38 (spr r)) 47 (.int .i64 r.2)), rfl, hN, g, p0.k, p1.k, p2.k, p3.k, p4.k, p5.k, p6.k, PV.made rfl, p8.k, PV.made rfl, p12.k, qa0.keep (by decide) (by decide) (fun _ _ h => h)⟩
  · rintro l A W ⟨hl, X, rfl, hN, g, F⟩ h1 hp K hK
    rw [rfxT_eq]
    have g' := Lib.hid g
    have F' := Lib.hid F; clear F g
    have hN' := Lib.hid hN; clear hN; have hl' := Lib.hid hl; clear hl; have h1' := Lib.hid h1; clear h1; have hp' := Lib.hid hp; clear hp; have hK' := Lib.hid hK; clear hK
    go_simp
    have hK := hK'.out; have hN := hN'.out; have hl := hl'.out; have h1 := h1'.out
    obtain ⟨p0, p1, p2, p3, p4, p5, p6, p7, p8, p9, p12, qa0⟩ := F'.out
    have g := g'.out
    refine hK _ _ ⟨by simpa using hl, (upd X 12 (.pointer (some ⟨W.heap.size, 0, none⟩))), rfl, (by simp; omega), GI.out _ _ (((Below.refl _ W).alloc (Nat.le_refl _) _).mono hN) g, p0.k, p1.k, p2.k, p3.k, p4.k, p5.k, p6.k, p7.k, p8.k, p9.k, p12.k, qa0.made (by decide) (by rw [hl]; decide) h1 hN (owp_new W (0, 0) _)⟩
  · rintro l A W ⟨hl, X, rfl, hN, g, F⟩ h1 hp K hK
    have la := hp ⟨10, .data⟩ (by simp) rfl
    have e8 := F.2.2.2.2.2.2.2.2.1 (hp ⟨8, .data⟩ (by simp) rfl)
    obtain ⟨b', v', e2, hb', ow, _⟩ := F.2.2.2.2.2.2.2.2.2.2.2.2 la
    obtain ⟨o0, o1, o2, o3, o4⟩ := id ow
    rw [rfxT_eq]
    have g' := Lib.hid g
    have F' := Lib.hid F; clear F g
    have hN' := Lib.hid hN; clear hN; have hl' := Lib.hid hl; clear hl; have h1' := Lib.hid h1; clear h1; have hp' := Lib.hid hp; clear hp; have hK' := Lib.hid hK; clear hK
    have la' := Lib.hid la; clear la; have hb'' := Lib.hid hb'; clear hb'; have ow' := Lib.hid ow; clear ow
    go_simp
    have hK := hK'.out; have hN := hN'.out; have hl := hl'.out; have h1 := h1'.out
    obtain ⟨p0, p1, p2, p3, p4, p5, p6, p7, p8, p9, p12, qa0⟩ := F'.out
    have g := g'.out
    have la := la'.out; have hb' := hb''.out; have ow := ow'.out
    refine hK _ _ ⟨by simpa using hl, (upd (upd X 46 (.agg #[.int .i64 r.1.1, .int .i64 r.1.2])) 12 (.pointer (some ⟨b', 0, none⟩))), rfl, (by simpa using hN), GI.out _ _ (below_set2 _ _ hb') g, p0.k, p1.k, p2.k, p3.k, p4.k, p5.k, p6.k, p7.k, PV.made rfl, p9.k, p12.k, QX.put (by decide) la rfl hb' (owp_put ow r.1)⟩
  · rintro l A W ⟨hl, X, rfl, hN, g, F⟩ h1 hp K hK
    have e9 := F.2.2.2.2.2.2.2.2.2.1 (hp ⟨9, .data⟩ (by simp) rfl)
    rw [rfxT_eq]
    have g' := Lib.hid g
    have F' := Lib.hid F; clear F g
    have hN' := Lib.hid hN; clear hN; have hl' := Lib.hid hl; clear hl; have h1' := Lib.hid h1; clear h1; have hp' := Lib.hid hp; clear hp; have hK' := Lib.hid hK; clear hK
    go_simp
    have hK := hK'.out; have hN := hN'.out; have hl := hl'.out; have h1 := h1'.out
    obtain ⟨p0, p1, p2, p3, p4, p5, p6, p7, p8, p9, p12, qa0⟩ := F'.out
    have g := g'.out
    refine hK _ _ ⟨by simpa using hl, (upd (upd X 47 (.int .i64 r.2)) 13 (.int .i64 r.2)), rfl, hN, g, p0.k, p1.k, p2.k, p3.k, p4.k, p5.k, p6.k, p7.k, p8.k, PV.made rfl, PV.made rfl, qa0.keep (by decide) (by decide) (fun _ _ h => h)⟩
set_option maxRecDepth 100000 in
set_option maxHeartbeats 4000000 in
theorem rfx_reg (G : World → Prop) (N : Nat) (u n cap k y : Nat) (q : P9) (x : P3) (D : Int) (r : Sp.R) {y0 y1 y3 y5 y6 y7 y9 y10 y14 y15 y16 y17 y18 y19 y20 y21 y22 y23 y24 y25 y26 y27 y28 y29 y30 y31 y32 y33 y34 y35 y36 y37 y48 y49 y50 y51 y52 y53 y54 y55 y56 y57 y58 y59 x12 x13 x38 x39 x40 x41 x42 x43 x44 x45 x46 x47 : Value} {W : World} {Q : Exit → Act → World → Prop} (HK : Hid ((k : Int) < (n : Int) ∧ 0 ≤ (k : Int))) (SC : Hid (∀ W, Calls Tryz.prog 17 #[pnv q.1 q.2.1 q.2.2, ptv x, .int .i64 D] W fun e w' => e = .returned (spr r) ∧ Below W.heap.size W w')) (GC : Hid (∀ W : World, G W → W.cell? ⟨u, k * 9, none⟩ = some (.int .i64 q.1.1) ∧ W.cell? ⟨u, k * 9 + 1, none⟩ = some (.int .i64 q.1.2.1) ∧ W.cell? ⟨u, k * 9 + 1 + 1, none⟩ = some (.int .i64 q.1.2.2) ∧ W.cell? ⟨u, k * 9 + 1 + 1 + 1, none⟩ = some (.int .i64 q.2.1.1) ∧ W.cell? ⟨u, k * 9 + 1 + 1 + 1 + 1, none⟩ = some (.int .i64 q.2.1.2.1) ∧ W.cell? ⟨u, k * 9 + 1 + 1 + 1 + 1 + 1, none⟩ = some (.int .i64 q.2.1.2.2) ∧ W.cell? ⟨u, k * 9 + 1 + 1 + 1 + 1 + 1 + 1, none⟩ = some (.int .i64 q.2.2.1) ∧ W.cell? ⟨u, k * 9 + 1 + 1 + 1 + 1 + 1 + 1 + 1, none⟩ = some (.int .i64 q.2.2.2.1) ∧ W.cell? ⟨u, k * 9 + 1 + 1 + 1 + 1 + 1 + 1 + 1 + 1, none⟩ = some (.int .i64 q.2.2.2.2) ∧ W.cell? ⟨y, 0, none⟩ = some (.int .i64 x.1) ∧ W.cell? ⟨y, 1, none⟩ = some (.int .i64 x.2.1) ∧ W.cell? ⟨y, 2, none⟩ = some (.int .i64 x.2.2))) (GI : Hid (∀ W W' : World, Below N W W' → G W → G W')) (hN : N ≤ W.heap.size) (g0 : G W.drew)
    (hK : ∀ (x38 x39 x40 x41 x42 x43 x44 x45 x46 x47 : Value) (b0 : Nat) (W' : World), N ≤ W'.heap.size → G W' → N ≤ b0 → OwP W' b0 (r.1) → Q .normal { tmps := #[y0, y1, .int .i64 D, y3, .pointer (some ⟨y, 0, none⟩), y5, y6, y7, .slice (some ⟨u, 0, none⟩) n cap, y9, y10, .int .i64 k, .pointer (some ⟨b0, 0, none⟩), .int .i64 r.2, y14, y15, y16, y17, y18, y19, y20, y21, y22, y23, y24, y25, y26, y27, y28, y29, y30, y31, y32, y33, y34, y35, y36, y37, x38, x39, x40, x41, x42, x43, x44, x45, x46, x47, y48, y49, y50, y51, y52, y53, y54, y55, y56, y57, y58, y59], defers := [] } W') :
    Code.wp Tryz.prog (.region 10 rfxOps true) Q { tmps := #[y0, y1, .int .i64 D, y3, .pointer (some ⟨y, 0, none⟩), y5, y6, y7, .slice (some ⟨u, 0, none⟩) n cap, y9, y10, .int .i64 k, x12, x13, y14, y15, y16, y17, y18, y19, y20, y21, y22, y23, y24, y25, y26, y27, y28, y29, y30, y31, y32, y33, y34, y35, y36, y37, x38, x39, x40, x41, x42, x43, x44, x45, x46, x47, y48, y49, y50, y51, y52, y53, y54, y55, y56, y57, y58, y59], defers := [] } W := by
  refine wp_region_inv (rfxI G N u n cap k y q x D r y0 y1 y3 y5 y6 y7 y9 y10 y14 y15 y16 y17 y18 y19 y20 y21 y22 y23 y24 y25 y26 y27 y28 y29 y30 y31 y32 y33 y34 y35 y36 y37 y48 y49 y50 y51 y52 y53 y54 y55 y56 y57 y58 y59) (by kernel_rfl) ?_ (rfx_steps G N u n cap k y q x D r y0 y1 y3 y5 y6 y7 y9 y10 y14 y15 y16 y17 y18 y19 y20 y21 y22 y23 y24 y25 y26 y27 y28 y29 y30 y31 y32 y33 y34 y35 y36 y37 y48 y49 y50 y51 y52 y53 y54 y55 y56 y57 y58 y59 Q HK SC GC GI) ?_
  · exact ⟨by simp [rfxOps], fun i => (#[undef, undef, undef, undef, undef, undef, undef, undef, undef, undef, undef, undef, x12, x13, undef, undef, undef, undef, undef, undef, undef, undef, undef, undef, undef, undef, undef, undef, undef, undef, undef, undef, undef, undef, undef, undef, undef, undef, x38, x39, x40, x41, x42, x43, x44, x45, x46, x47, undef, undef, undef, undef, undef, undef, undef, undef, undef, undef, undef, undef] : Array Value).getD i undef, rfl, hN, g0, PV.nought, PV.nought, PV.nought, PV.nought, PV.nought, PV.nought, PV.nought, PV.nought, PV.nought, PV.nought, PV.nought, QX.nought⟩
  · rintro l A W ⟨hl, X, rfl, hN, g, p0, p1, p2, p3, p4, p5, p6, p7, p8, p9, p12, qa0⟩ hr
    unfold rfxOps at hr
    have l0 := ready_end hr 0 (by rw [hl]; decide) rfl (fun e he hbn => by
      simp at he
      (try (repeat (rcases he with rfl | he; · first | assumption | exact absurd hbn (by decide))))
      (try (first | exact he.elim | (subst he; first | assumption | exact absurd hbn (by decide)))))
    have l1 := ready_end hr 1 (by rw [hl]; decide) rfl (fun e he hbn => by
      simp at he
      (try (repeat (rcases he with rfl | he; · first | assumption | exact absurd hbn (by decide))))
      (try (first | exact he.elim | (subst he; first | assumption | exact absurd hbn (by decide)))))
    have l2 := ready_end hr 2 (by rw [hl]; decide) rfl (fun e he hbn => by
      simp at he
      (try (repeat (rcases he with rfl | he; · first | assumption | exact absurd hbn (by decide))))
      (try (first | exact he.elim | (subst he; first | assumption | exact absurd hbn (by decide)))))
    have l3 := ready_end hr 3 (by rw [hl]; decide) rfl (fun e he hbn => by
      simp at he
      (try (repeat (rcases he with rfl | he; · first | assumption | exact absurd hbn (by decide))))
      (try (first | exact he.elim | (subst he; first | assumption | exact absurd hbn (by decide)))))
    have l4 := ready_end hr 4 (by rw [hl]; decide) rfl (fun e he hbn => by
      simp at he
      (try (repeat (rcases he with rfl | he; · first | assumption | exact absurd hbn (by decide))))
      (try (first | exact he.elim | (subst he; first | assumption | exact absurd hbn (by decide)))))
    have l5 := ready_end hr 5 (by rw [hl]; decide) rfl (fun e he hbn => by
      simp at he
      (try (repeat (rcases he with rfl | he; · first | assumption | exact absurd hbn (by decide))))
      (try (first | exact he.elim | (subst he; first | assumption | exact absurd hbn (by decide)))))
    have l6 := ready_end hr 6 (by rw [hl]; decide) rfl (fun e he hbn => by
      simp at he
      (try (repeat (rcases he with rfl | he; · first | assumption | exact absurd hbn (by decide))))
      (try (first | exact he.elim | (subst he; first | assumption | exact absurd hbn (by decide)))))
    have l7 := ready_end hr 7 (by rw [hl]; decide) rfl (fun e he hbn => by
      simp at he
      (try (repeat (rcases he with rfl | he; · first | assumption | exact absurd hbn (by decide))))
      (try (first | exact he.elim | (subst he; first | assumption | exact absurd hbn (by decide)))))
    have l8 := ready_end hr 8 (by rw [hl]; decide) rfl (fun e he hbn => by
      simp at he
      (try (repeat (rcases he with rfl | he; · first | assumption | exact absurd hbn (by decide))))
      (try (first | exact he.elim | (subst he; first | assumption | exact absurd hbn (by decide)))))
    have l9 := ready_end hr 9 (by rw [hl]; decide) rfl (fun e he hbn => by
      simp at he
      (try (repeat (rcases he with rfl | he; · first | assumption | exact absurd hbn (by decide))))
      (try (first | exact he.elim | (subst he; first | assumption | exact absurd hbn (by decide)))))
    have l10 := ready_end hr 10 (by rw [hl]; decide) rfl (fun e he hbn => by
      simp at he
      (try (repeat (rcases he with rfl | he; · first | assumption | exact absurd hbn (by decide))))
      (try (first | exact he.elim | (subst he; first | assumption | exact absurd hbn (by decide)))))
    have l11 := ready_end hr 11 (by rw [hl]; decide) rfl (fun e he hbn => by
      simp at he
      (try (repeat (rcases he with rfl | he; · first | assumption | exact absurd hbn (by decide))))
      (try (first | exact he.elim | (subst he; first | assumption | exact absurd hbn (by decide)))))
    have l12 := ready_end hr 12 (by rw [hl]; decide) rfl (fun e he hbn => by
      simp at he
      (try (repeat (rcases he with rfl | he; · first | assumption | exact absurd hbn (by decide))))
      (try (first | exact he.elim | (subst he; first | assumption | exact absurd hbn (by decide)))))
    obtain ⟨b0, v0, e0x, n0, o0, t0⟩ := qa0.2 l10
    obtain rfl := t0 l11
    have z := hK (X 38) (X 39) (X 40) (X 41) (X 42) (X 43) (X 44) (X 45) (X 46) (X 47) b0 W hN g n0 o0
    rw [← e0x, ← p12 l12] at z
    exact z
set_option maxRecDepth 100000 in
set_option maxHeartbeats 4000000 in
theorem rflux_v (a : Option Addr) (np c : Nat) (a' : Option Addr) (nf c' : Nat) (x : P3) (D : Int) (T : Nat → P3 × P3 × P3) (cc : Int) (w : World) (PP : Hid (∀ W, Below w.heap.size w W → Calls Tryz.prog 14 #[msv a np c a' nf c'] W fun e w' => ∃ b cap, e = .returned (.tuple #[.slice b 0 cap, .int .i64 cc]) ∧ Lst9 w' b 0 T ∧ Below W.heap.size W w')) (z : (cc != 0) = true) : Calls Tryz.prog 7 #[msv a np c a' nf c', ptv x, .int .i64 D] w fun e w' => e = .returned (spr ((0, 0), cc)) ∧ Below w.heap.size w w' := by
  have M0 := Lib.hid (mes_below (mes_new w a np c a' nf c' 25) (((Below.refl (w.alloc (msc a np c a' nf c' 25)).heap.size (w.alloc (msc a np c a' nf c' 25))).alloc (Nat.le_refl _) (ptc x 27)).alloc (by simp) (.cells #[.int .i64 0, .int .i64 0] 31)))
  have X0 := Lib.hid (own_alloc (own_new (w.alloc (msc a np c a' nf c' 25)) x 27) (.cells #[.int .i64 0, .int .i64 0] 31))
  have Z0 := Lib.hid (owp_new ((w.alloc (msc a np c a' nf c' 25)).alloc (ptc x 27)) (0, 0) 31)
  simp only [World.size_alloc] at Z0 X0
  have B0 := Lib.hid (show Below w.heap.size w (((w.alloc (msc a np c a' nf c' 25)).alloc (ptc x 27)).alloc (.cells #[.int .i64 0, .int .i64 0] 31)) by (repeat' (first | exact Below.refl _ _ | refine Below.setCell ?_ (by simp <;> omega) _ | refine balloc ?_ _ | refine Below.drew ?_ | refine bdrewN ?_ _)))
  obtain ⟨m0, m1, ml⟩ := M0.out
  go_enter Tryz.func7, Tryz.ntmps7
  go_wp2_with fail
  with_reducible refine (PP.out _ B0.out).mono ?_
  rintro e w1 ⟨b, cap, rfl, hl, hb1⟩
  have L1 := Lib.hid hl
  have X1 := Lib.hid (own_below X0.out hb1)
  have Z1 := Lib.hid (owp_below Z0.out hb1)
  have B1 := Lib.hid (bstep B0.out hb1)
  clear X0 Z0 B0 hb1 hl m0 m1 ml M0
  obtain ⟨o0, o1, o2, o3, o4⟩ := Z1.out
  have hB := B1.out
  go_wp2
  refine bodyPost_ret (v := spr ((0, 0), cc)) (by rw [results_cell_tmp rfl]; go_simp) rfl ⟨rfl, ?_⟩
  (repeat' (first | with_reducible exact hB | with_reducible refine Below.drew ?_ | (with_reducible refine Below.setCell ?_ (by simp <;> omega) _)))
set_option maxRecDepth 100000 in
set_option maxHeartbeats 4000000 in
theorem rflux_a (a : Option Addr) (np c : Nat) (a' : Option Addr) (nf c' : Nat) (x : P3) (D : Int) (T : Nat → P3 × P3 × P3) (n : Nat) (w : World) (PP : Hid (∀ W, Below w.heap.size w W → Calls Tryz.prog 14 #[msv a np c a' nf c'] W fun e w' => ∃ b cap, e = .returned (.tuple #[.slice b n cap, .int .i64 0]) ∧ Lst9 w' b n T ∧ Below W.heap.size W w')) (A : Hid (∀ W, Calls Tryz.prog 15 #[ptv x] W fun e w' => e = .returned (.bool false) ∧ Below W.heap.size W w')) : Calls Tryz.prog 7 #[msv a np c a' nf c', ptv x, .int .i64 D] w fun e w' => e = .returned (spr ((0, 0), 1)) ∧ Below w.heap.size w w' := by
  have M0 := Lib.hid (mes_below (mes_new w a np c a' nf c' 25) (((Below.refl (w.alloc (msc a np c a' nf c' 25)).heap.size (w.alloc (msc a np c a' nf c' 25))).alloc (Nat.le_refl _) (ptc x 27)).alloc (by simp) (.cells #[.int .i64 0, .int .i64 0] 31)))
  have X0 := Lib.hid (own_alloc (own_new (w.alloc (msc a np c a' nf c' 25)) x 27) (.cells #[.int .i64 0, .int .i64 0] 31))
  have Z0 := Lib.hid (owp_new ((w.alloc (msc a np c a' nf c' 25)).alloc (ptc x 27)) (0, 0) 31)
  simp only [World.size_alloc] at Z0 X0
  have B0 := Lib.hid (show Below w.heap.size w (((w.alloc (msc a np c a' nf c' 25)).alloc (ptc x 27)).alloc (.cells #[.int .i64 0, .int .i64 0] 31)) by (repeat' (first | exact Below.refl _ _ | refine Below.setCell ?_ (by simp <;> omega) _ | refine balloc ?_ _ | refine Below.drew ?_ | refine bdrewN ?_ _)))
  obtain ⟨m0, m1, ml⟩ := M0.out
  go_enter Tryz.func7, Tryz.ntmps7
  go_wp2_with fail
  with_reducible refine (PP.out _ B0.out).mono ?_
  rintro e w1 ⟨b, cap, rfl, hl, hb1⟩
  have L1 := Lib.hid hl
  have X1 := Lib.hid (own_below X0.out hb1)
  have Z1 := Lib.hid (owp_below Z0.out hb1)
  have B1 := Lib.hid (bstep B0.out hb1)
  clear X0 Z0 B0 hb1 hl m0 m1 ml M0
  obtain ⟨x0, x1, x2, x3, x4, x5, x6⟩ := X1.out
  go_wp2_with fail
  with_reducible refine (A.out _).mono ?_
  rintro e w2 ⟨rfl, hb2⟩
  have X2 := Lib.hid (own_below X1.out hb2)
  have L2 := Lib.hid (lst9_below L1.out hb2)
  have Z2 := Lib.hid (owp_below Z1.out hb2)
  have B2 := Lib.hid (bstep B1.out hb2)
  clear x0 x1 x2 x3 x4 x5 x6 X1 Z1 B1 hb2 L1
  obtain ⟨o0, o1, o2, o3, o4⟩ := Z2.out
  have hB := B2.out
  go_wp2
  refine bodyPost_ret (v := spr ((0, 0), 1)) (by rw [results_cell_tmp rfl]; go_simp) rfl ⟨rfl, ?_⟩
  (repeat' (first | with_reducible exact hB | with_reducible refine Below.drew ?_ | (with_reducible refine Below.setCell ?_ (by simp <;> omega) _)))
set_option maxRecDepth 100000 in
set_option maxHeartbeats 4000000 in
theorem rflux_b (a : Option Addr) (np c : Nat) (a' : Option Addr) (nf c' : Nat) (x : P3) (D : Int) (T : Nat → P3 × P3 × P3) (n : Nat) (w : World) (PP : Hid (∀ W, Below w.heap.size w W → Calls Tryz.prog 14 #[msv a np c a' nf c'] W fun e w' => ∃ b cap, e = .returned (.tuple #[.slice b n cap, .int .i64 0]) ∧ Lst9 w' b n T ∧ Below W.heap.size W w')) (A : Hid (∀ W, Calls Tryz.prog 15 #[ptv x] W fun e w' => e = .returned (.bool true) ∧ Below W.heap.size W w')) (I : Hid (∀ W, Calls Tryz.prog 16 #[.int .i64 D, .int .i64 0, .int .i64 3] W fun e w' => e = .returned (.bool false) ∧ W = w')) : Calls Tryz.prog 7 #[msv a np c a' nf c', ptv x, .int .i64 D] w fun e w' => e = .returned (spr ((0, 0), 1)) ∧ Below w.heap.size w w' := by
  have M0 := Lib.hid (mes_below (mes_new w a np c a' nf c' 25) (((Below.refl (w.alloc (msc a np c a' nf c' 25)).heap.size (w.alloc (msc a np c a' nf c' 25))).alloc (Nat.le_refl _) (ptc x 27)).alloc (by simp) (.cells #[.int .i64 0, .int .i64 0] 31)))
  have X0 := Lib.hid (own_alloc (own_new (w.alloc (msc a np c a' nf c' 25)) x 27) (.cells #[.int .i64 0, .int .i64 0] 31))
  have Z0 := Lib.hid (owp_new ((w.alloc (msc a np c a' nf c' 25)).alloc (ptc x 27)) (0, 0) 31)
  simp only [World.size_alloc] at Z0 X0
  have B0 := Lib.hid (show Below w.heap.size w (((w.alloc (msc a np c a' nf c' 25)).alloc (ptc x 27)).alloc (.cells #[.int .i64 0, .int .i64 0] 31)) by (repeat' (first | exact Below.refl _ _ | refine Below.setCell ?_ (by simp <;> omega) _ | refine balloc ?_ _ | refine Below.drew ?_ | refine bdrewN ?_ _)))
  obtain ⟨m0, m1, ml⟩ := M0.out
  go_enter Tryz.func7, Tryz.ntmps7
  go_wp2_with fail
  with_reducible refine (PP.out _ B0.out).mono ?_
  rintro e w1 ⟨b, cap, rfl, hl, hb1⟩
  have L1 := Lib.hid hl
  have X1 := Lib.hid (own_below X0.out hb1)
  have Z1 := Lib.hid (owp_below Z0.out hb1)
  have B1 := Lib.hid (bstep B0.out hb1)
  clear X0 Z0 B0 hb1 hl m0 m1 ml M0
  obtain ⟨x0, x1, x2, x3, x4, x5, x6⟩ := X1.out
  go_wp2_with fail
  with_reducible refine (A.out _).mono ?_
  rintro e w2 ⟨rfl, hb2⟩
  have X2 := Lib.hid (own_below X1.out hb2)
  have L2 := Lib.hid (lst9_below L1.out hb2)
  have Z2 := Lib.hid (owp_below Z1.out hb2)
  have B2 := Lib.hid (bstep B1.out hb2)
  clear x0 x1 x2 x3 x4 x5 x6 X1 Z1 B1 hb2 L1
  go_wp2_with fail
  refine (I.out _).mono ?_
  rintro e w3 ⟨rfl, rfl⟩
  obtain ⟨o0, o1, o2, o3, o4⟩ := Z2.out
  have hB := B2.out
  go_wp2
  refine bodyPost_ret (v := spr ((0, 0), 1)) (by rw [results_cell_tmp rfl]; go_simp) rfl ⟨rfl, ?_⟩
  (repeat' (first | with_reducible exact hB | with_reducible refine Below.drew ?_ | (with_reducible refine Below.setCell ?_ (by simp <;> omega) _)))
set_option maxRecDepth 100000 in
set_option maxHeartbeats 4000000 in
theorem rflux_walk (a : Option Addr) (np c : Nat) (a' : Option Addr) (nf c' : Nat) (x : P3) (D : Int) (T : Nat → P3 × P3 × P3) (n : Nat) (g : Nat → Sp.R) (r res : Sp.R) (w : World) (hn : n ≤ 96) (PP : Hid (∀ W, Below w.heap.size w W → Calls Tryz.prog 14 #[msv a np c a' nf c'] W fun e w' => ∃ b cap, e = .returned (.tuple #[.slice b n cap, .int .i64 0]) ∧ Lst9 w' b n T ∧ Below W.heap.size W w')) (A : Hid (∀ W, Calls Tryz.prog 15 #[ptv x] W fun e w' => e = .returned (.bool true) ∧ Below W.heap.size W w')) (I : Hid (∀ W, Calls Tryz.prog 16 #[.int .i64 D, .int .i64 0, .int .i64 3] W fun e w' => e = .returned (.bool true) ∧ W = w'))
    (G : Hid (∀ k, k < n → ∀ W, Calls Tryz.prog 17 #[pnv (T k).1 (T k).2.1 (T k).2.2, ptv x, .int .i64 D] W fun e w' => e = .returned (spr (g k)) ∧ Below W.heap.size W w'))
    (R1 : Hid (geN g n ≠ 0 → res = ((0, 0), geN g n))) (R2 : Hid (geN g n = 0 → res = r)) (SM : Hid (geN g n = 0 → ∀ u W, World.ownsRow W 0 31 2 u n (svs (gsN g n)) → Calls Tryz.prog 18 #[u] W fun e w' => e = .returned (spr r) ∧ Below W.heap.size W w')) : Calls Tryz.prog 7 #[msv a np c a' nf c', ptv x, .int .i64 D] w fun e w' => e = .returned (spr res) ∧ Below w.heap.size w w' := by
  obtain ⟨i0, hi, hz0, hz1, hz2⟩ := info_parts infoSp8
  have HI := Lib.hid hi
  have HZ0 := Lib.hid hz0
  have HZ1 := Lib.hid hz1
  have HZ2 := Lib.hid hz2
  clear hi hz0 hz1 hz2
  have hn' : (n : Int) ≤ 96 := by omega
  have M0 := Lib.hid (mes_below (mes_new w a np c a' nf c' 25) (((Below.refl (w.alloc (msc a np c a' nf c' 25)).heap.size (w.alloc (msc a np c a' nf c' 25))).alloc (Nat.le_refl _) (ptc x 27)).alloc (by simp) (.cells #[.int .i64 0, .int .i64 0] 31)))
  have X0 := Lib.hid (own_alloc (own_new (w.alloc (msc a np c a' nf c' 25)) x 27) (.cells #[.int .i64 0, .int .i64 0] 31))
  have Z0 := Lib.hid (owp_new ((w.alloc (msc a np c a' nf c' 25)).alloc (ptc x 27)) (0, 0) 31)
  simp only [World.size_alloc] at Z0 X0
  have B0 := Lib.hid (show Below w.heap.size w (((w.alloc (msc a np c a' nf c' 25)).alloc (ptc x 27)).alloc (.cells #[.int .i64 0, .int .i64 0] 31)) by (repeat' (first | exact Below.refl _ _ | refine Below.setCell ?_ (by simp <;> omega) _ | refine balloc ?_ _ | refine Below.drew ?_ | refine bdrewN ?_ _)))
  obtain ⟨m0, m1, ml⟩ := M0.out
  go_enter Tryz.func7, Tryz.ntmps7
  go_wp2_with fail
  with_reducible refine (PP.out _ B0.out).mono ?_
  rintro e w1 ⟨b, cap, rfl, hl, hb1⟩
  have L1 := Lib.hid hl
  have X1 := Lib.hid (own_below X0.out hb1)
  have Z1 := Lib.hid (owp_below Z0.out hb1)
  have B1 := Lib.hid (bstep B0.out hb1)
  clear X0 Z0 B0 hb1 hl m0 m1 ml M0
  obtain ⟨x0, x1, x2, x3, x4, x5, x6⟩ := X1.out
  go_wp2_with fail
  with_reducible refine (A.out _).mono ?_
  rintro e w2 ⟨rfl, hb2⟩
  have X2 := Lib.hid (own_below X1.out hb2)
  have L2 := Lib.hid (lst9_below L1.out hb2)
  have Z2 := Lib.hid (owp_below Z1.out hb2)
  have B2 := Lib.hid (bstep B1.out hb2)
  clear x0 x1 x2 x3 x4 x5 x6 X1 Z1 B1 hb2 L1
  go_wp2_with fail
  refine (I.out _).mono ?_
  rintro e w3 ⟨rfl, rfl⟩
  go_wp2_with fail
  go_loopw [10, 11] (fun sv kv wr => ∃ k : Nat, k ≤ n ∧ kv = .int .i64 k ∧ geN g k = 0 ∧ wr.ownsRow w2.heap.size 31 2 sv k (svs (gsN g k)) ∧ Below w2.heap.size w2 wr) (fun _ kv _ => n - (intOf kv).toNat)
  case atStart => exact ⟨0, Nat.zero_le _, rfl, rfl, World.ownsRow_nil _ _ _ _, Below.refl _ _⟩
  case round =>
    obtain ⟨k, hk, rfl, good, how, hbb⟩ := hrel
    have GOOD := Lib.hid good
    have ROW := Lib.hid how
    have BB := Lib.hid hbb
    clear good how hbb
    have szw := BB.out.size
    by_cases hlt : k < n
    · have hk1 : (k : Int) < (n : Int) := by omega
      have hk0 : 0 ≤ (k : Int) := by omega
      obtain ⟨u, rfl, rw0⟩ := L2.out (show 0 < n by omega)
      have RB := Lib.hid (row9_in rw0 BB.out rw0.1)
      have hur : u < wr.heap.size := RB.out.1
      have GK := Lib.hid (G.out k hlt)
      have HIT := Lib.hid (fun h : (g k).2 ≠ 0 => geN_hit hlt GOOD.out h)
      have NEXT := Lib.hid (fun h : (g k).2 = 0 => geN_next GOOD.out h)
      have GS := Lib.hid (show gsN g (k + 1) = gsN g k ++ [(g k).1] from rfl)
      have XR := Lib.hid (own_in' X2.out BB.out X2.out.2.2.2.2.2.2)
      have RK := Lib.hid (fun (W : World) (h : Below wr.heap.size wr W) => (row9_in RB.out h hur).2 k hlt)
      generalize T k = q at *
      generalize g k = gr at *
      go_wp2_with fail
      rename_i K8 hK8
      have HK8 := Lib.hid hK8
      clear hK8
      refine rfx_reg (fun W => Below wr.heap.size wr W ∧ wr.heap.size ≤ W.heap.size) wr.heap.size u n cap k (w.heap.size + 1) q x D gr (Lib.hid ⟨hk1, hk0⟩) (Lib.hid GK.out) (Lib.hid fun W h => ?_) (Lib.hid fun W W' hb h => ⟨h.1.trans hb, Nat.le_trans h.2 hb.size⟩) (Nat.le_refl _) ⟨Below.drew (Below.refl _ _), Nat.le_refl _⟩ ?_
      · have a := RK.out W h.1
        have b := own_in' XR.out h.1 XR.out.2.2.2.2.2.2
        exact ⟨a.1, a.2.1, a.2.2.1, a.2.2.2.1, a.2.2.2.2.1, a.2.2.2.2.2.1, a.2.2.2.2.2.2.1, a.2.2.2.2.2.2.2.1, a.2.2.2.2.2.2.2.2, b.1, b.2.1, b.2.2.1⟩
      intro x38 x39 x40 x41 x42 x43 x44 x45 x46 x47 z w5 hN g5 nz oz
      have BW := Lib.hid (BB.out.trans (g5.1.mono szw))
      have ROWc := Lib.hid (own_below9 ROW.out g5.1)
      have OZ := Lib.hid oz
      have sz5 := BW.out.size
      clear g5 oz ROW GK RB RK XR rw0
      refine HK8.out _ _ ?_
      clear HK8
      obtain ⟨⟨u1, v1⟩, cz⟩ := gr
      dsimp only at *
      by_cases z0 : cz = 0
      · subst z0
        have NX := Lib.hid (NEXT.out (by first | rfl | trivial))
        clear HIT NEXT
        obtain ⟨e0, e1, e2, e3, el⟩ := OZ.out
        have hm60 : k + 1 ≤ 96 := by omega
        go_wp2_with (at_builtin; (refine wpList_append_own _ rfl _ _ 47 rfl w2.heap.size 31 i0 (.agg #[.int .i64 0, .int .i64 0]) 2 16 Tryz.underlying47 HI.out HZ0.out HZ1.out HZ2.out rfl (by decide) _ k (svs (gsN g k)) rfl (ROWc.out.alloc _) ⟨_, 0, none⟩ 1 1 [.int .i64 u1, .int .i64 v1] rfl rfl (sp2_new' _ _ _ _ _ (by simp)) (by intro u hu; simp at hu; rcases hu with rfl | rfl <;> rfl) (by unfold maxLen; omega) (by omega) (by simp; omega) ?_); intro v' w7 hown' hgrow _; have OW := Lib.hid hown'; have GR := Lib.hid hgrow; clear hown' hgrow)
        have BG := Lib.hid (BW.out.trans (((Below.refl w2.heap.size w5).alloc (by omega) _).grown GR.out (by simp; omega) (fun gg hg => (ROWc.out.lt gg hg).1)))
        go_roundw
        case rel => exact ⟨k + 1, by omega, by go_num, NX.out, by rw [GS.out, ← svs_snoc]; exact OW.out, BG.out⟩
        case measure => simp [intOf]; omega
      · have z1 : (cz != 0) = true := bne_iff_ne.2 z0
        have hf : res = ((0, 0), cz) := by
          have hh := HIT.out z0
          rw [← hh]
          exact R1.out (by rw [hh]; exact z0)
        subst hf
        obtain ⟨g0, g1, g2, g3, gl⟩ := owp_in Z2.out BW.out Z2.out.2.2.2.2
        have hB := bjoin B2.out BW.out
        clear HIT NEXT
        go_wp2
        refine bodyPost_ret (v := spr ((0, 0), cz)) (by rw [results_cell_tmp rfl]; go_simp) rfl ⟨rfl, ?_⟩
        (repeat' (first | with_reducible exact hB | with_reducible refine Below.drew ?_ | (with_reducible refine Below.setCell ?_ (by simp <;> omega) _)))
    · obtain rfl : k = n := by omega
      have hf := R2.out GOOD.out
      subst hf
      have S1 := Lib.hid (SM.out GOOD.out _ wr (own_base9 ROW.out (Nat.zero_le _)))
      have R3 := Lib.hid (owp_in Z2.out BB.out Z2.out.2.2.2.2)
      have B3 := Lib.hid (bjoin B2.out BB.out)
      go_wp2_with fail
      with_reducible refine S1.out.mono ?_
      rintro e w6 ⟨rfl, hb6⟩
      obtain ⟨g0, g1, g2, g3, gl⟩ := owp_below R3.out hb6
      have hB := bstep B3.out hb6
      go_wp2
      refine bodyPost_ret (v := spr res) (by rw [results_cell_tmp rfl]; go_simp) rfl ⟨rfl, ?_⟩
      (repeat' (first | with_reducible exact hB | with_reducible refine Below.drew ?_ | (with_reducible refine Below.setCell ?_ (by simp <;> omega) _)))
theorem rflux_any (a : Option Addr) (np c : Nat) (a' : Option Addr) (nf c' : Nat) (P F : Nat → P3) (x : P3) (D : Int) (w : World) (rp : Lst w a np P) (rf : Lst w a' nf F) (hn : np ≤ 1000000) (hm : nf ≤ 1000000) : Calls Tryz.prog 7 #[msv a np c a' nf c', ptv x, .int .i64 D] w fun e w' => e = .returned (spr (fluxR (vcode ⟨np, nf, P, F⟩) nf (Tr P F) x D)) ∧ Below w.heap.size w w' := by
  have PP : ∀ W, Below w.heap.size w W → Calls Tryz.prog 14 #[msv a np c a' nf c'] W fun e w' => ∃ b cap, e = .returned (.tuple #[.slice b (if vcode ⟨np, nf, P, F⟩ = 0 then nf else 0) cap, .int .i64 (vcode ⟨np, nf, P, F⟩)]) ∧ Lst9 w' b (if vcode ⟨np, nf, P, F⟩ = 0 then nf else 0) (Tr P F) ∧ Below W.heap.size W w' := fun W B => by
    refine (rpans_any a np c a' nf c' P F W (lst_below rp B) (lst_below rf B) hn hm).mono ?_
    rintro e w' ⟨b, n, cap, rfl, rfl, h1, h2⟩
    exact ⟨b, cap, rfl, h1, h2⟩
  unfold fluxR
  by_cases z : vcode ⟨np, nf, P, F⟩ = 0
  · rw [if_pos z]
    have h96 : nf ≤ 96 := (vcode_rows z).2.2.2.1
    have PP' : ∀ W, Below w.heap.size w W → Calls Tryz.prog 14 #[msv a np c a' nf c'] W fun e w' => ∃ b cap, e = .returned (.tuple #[.slice b nf cap, .int .i64 0]) ∧ Lst9 w' b nf (Tr P F) ∧ Below W.heap.size W w' := fun W B => by
      have q := PP W B
      rw [if_pos z, z] at q
      exact q
    clear PP
    have A := fun W => rplc_any x W
    have I := fun W => rfinr_any D 0 3 W
    unfold akc
    cases h : inP 256 x with
    | true =>
      rw [h] at A
      cases k : rngB D 0 3 with
      | true =>
        rw [k] at I
        rw [show (if (true && true) = true then (0 : Int) else 1) = 0 from rfl, if_pos rfl]
        refine rflux_walk a np c a' nf c' x D (Tr P F) nf (fun k => angF (Tr P F k) x D) (smR8 (fun k => ((gsN (fun k => angF (Tr P F k) x D) nf).getD k (0, 0)).1) (fun k => ((gsN (fun k => angF (Tr P F k) x D) nf).getD k (0, 0)).2) nf) _ w h96 (Lib.hid PP') (Lib.hid A) (Lib.hid I) (Lib.hid fun k hk W => rsa_any (Tr P F k) x D W) (Lib.hid fun h => ?_) (Lib.hid fun h => ?_) (Lib.hid fun h u W ho => rsum8_own u nf _ W ho (gsN_len _ _) (by omega))
        · unfold sceR; rw [if_pos h]
        · unfold sceR; rw [if_neg (show ¬ (geN (fun k => angF (Tr P F k) x D) nf ≠ 0) from fun c => c h)]
      | false => rw [k] at I; rw [show (if (true && false) = true then (0 : Int) else 1) = 1 from rfl, if_neg (by decide)]; exact rflux_b a np c a' nf c' x D (Tr P F) nf w (Lib.hid PP') (Lib.hid A) (Lib.hid I)
    | false => rw [h] at A; rw [show (if (false && rngB D 0 3) = true then (0 : Int) else 1) = 1 by simp, if_neg (by decide)]; exact rflux_a a np c a' nf c' x D (Tr P F) nf w (Lib.hid PP') (Lib.hid A)
  · rw [if_neg z]
    have PP' : ∀ W, Below w.heap.size w W → Calls Tryz.prog 14 #[msv a np c a' nf c'] W fun e w' => ∃ b cap, e = .returned (.tuple #[.slice b 0 cap, .int .i64 (vcode ⟨np, nf, P, F⟩)]) ∧ Lst9 w' b 0 (Tr P F) ∧ Below W.heap.size W w' := fun W B => by
      have q := PP W B
      rw [if_neg z] at q
      exact q
    exact rflux_v a np c a' nf c' x D (Tr P F) _ w (Lib.hid PP') (bne_iff_ne.2 z)
theorem mlong_any (a : Option Addr) (np c : Nat) (a' : Option Addr) (nf c' : Nat) (w : World) (hn : np ≤ maxLen) (hm : nf ≤ maxLen) : Calls Tryz.prog 4 #[msv a np c a' nf c'] w fun e w' => e = .returned (.bool (decide (200 < (np : Int)) || decide (300 < (nf : Int)))) ∧ Below w.heap.size w w' := by
  have hn' : (np : Int) ≤ 9223372036854775807 := by unfold maxLen at hn; omega
  have hm' : (nf : Int) ≤ 9223372036854775807 := by unfold maxLen at hm; omega
  clear hn hm
  by_cases h : 200 < (np : Int)
  · rw [decide_eq_true h]
    go_enter Tryz.func4, Tryz.ntmps4
    go_wp2
    go_ret
    exact ⟨rfl, by (repeat' (first | exact Below.refl _ _ | refine Below.setCell ?_ (by simp <;> omega) _ | refine balloc ?_ _ | refine Below.drew ?_ | refine bdrewN ?_ _))⟩
  · rw [decide_eq_false h]
    have h' : decide (200 < (np : Int)) = false := decide_eq_false h
    clear h
    go_enter Tryz.func4, Tryz.ntmps4
    go_wp2
    go_ret
    exact ⟨rfl, by (repeat' (first | exact Below.refl _ _ | refine Below.setCell ?_ (by simp <;> omega) _ | refine balloc ?_ _ | refine Below.drew ?_ | refine bdrewN ?_ _))⟩
set_option maxRecDepth 100000 in
set_option maxHeartbeats 4000000 in
theorem ffl_long (a : Option Addr) (np c : Nat) (a' : Option Addr) (nf c' : Nat) (x : P3) (D : Int) (w : World) (L : Hid (∀ W, Calls Tryz.prog 4 #[msv a np c a' nf c'] W fun e w' => e = .returned (.bool true) ∧ Below W.heap.size W w')) (K : Hid (∀ W, Calls Tryz.prog 5 #[] W fun e w' => e = .returned (.bool true) ∧ Below W.heap.size W w')) : Calls Tryz.prog 3 #[msv a np c a' nf c', ptv x, .int .i64 D] w fun e w' => e = .returned (.bool true) ∧ Below w.heap.size w w' := by
  go_enter Tryz.func3, Tryz.ntmps3
  go_wp2_with fail
  refine (L.out _).mono ?_
  rintro e w1 ⟨rfl, hb1⟩
  go_wp2_with fail
  refine (K.out _).mono ?_
  rintro e w2 ⟨rfl, hb2⟩
  go_wp2
  go_ret
  exact ⟨rfl, by (repeat' (first | exact Below.refl _ _ | refine bstep ?_ hb2 | refine bstep ?_ hb1 | refine Below.setCell ?_ (by simp <;> omega) _ | refine balloc ?_ _ | refine Below.drew ?_ | refine bdrewN ?_ _))⟩
set_option maxRecDepth 100000 in
set_option maxHeartbeats 4000000 in
theorem ffl_walk0 (a : Option Addr) (np c : Nat) (a' : Option Addr) (nf c' : Nat) (x : P3) (D p q cd : Int) (w : World) (L : Hid (∀ W, Calls Tryz.prog 4 #[msv a np c a' nf c'] W fun e w' => e = .returned (.bool false) ∧ Below W.heap.size W w')) (M1 : Hid (∀ W, Below w.heap.size w W → Calls Tryz.prog 6 #[msv a np c a' nf c', ptv x, .int .i64 D] W fun e w' => e = .returned (spr ((p, q), cd)) ∧ Below W.heap.size W w')) (M2 : Hid (∀ W, Below w.heap.size w W → Calls Tryz.prog 7 #[msv a np c a' nf c', ptv x, .int .i64 D] W fun e w' => e = .returned (spr ((p, q), cd)) ∧ Below W.heap.size W w')) (K : Hid (∀ W, Calls Tryz.prog 5 #[] W fun e w' => e = .returned (.bool true) ∧ Below W.heap.size W w')) : Calls Tryz.prog 3 #[msv a np c a' nf c', ptv x, .int .i64 D] w fun e w' => e = .returned (.bool true) ∧ Below w.heap.size w w' := by
  have M0 := Lib.hid (mes_below (mes_new w a np c a' nf c' 25) ((Below.refl (w.alloc (msc a np c a' nf c' 25)).heap.size (w.alloc (msc a np c a' nf c' 25))).alloc (Nat.le_refl _) (ptc x 27)))
  have X0 := Lib.hid (own_new (w.alloc (msc a np c a' nf c' 25)) x 27)
  simp only [World.size_alloc] at X0
  have B0 := Lib.hid (show Below w.heap.size w ((w.alloc (msc a np c a' nf c' 25)).alloc (ptc x 27)) by (repeat' (first | exact Below.refl _ _ | refine Below.setCell ?_ (by simp <;> omega) _ | refine balloc ?_ _ | refine Below.drew ?_ | refine bdrewN ?_ _)))
  obtain ⟨m0, m1, ml⟩ := M0.out
  go_enter Tryz.func3, Tryz.ntmps3
  go_wp2_with fail
  refine (L.out _).mono ?_
  rintro e w0 ⟨rfl, hb0⟩
  have M1' := Lib.hid (mes_below M0.out hb0)
  have X1 := Lib.hid (own_below X0.out hb0)
  have B1 := Lib.hid (bstep B0.out hb0)
  clear m0 m1 ml M0 X0 B0 hb0
  obtain ⟨m0, m1, ml⟩ := M1'.out
  obtain ⟨x0, x1, x2, x3, x4, x5, x6⟩ := X1.out
  go_wp2_with fail
  with_reducible refine (M1.out _ B1.out).mono ?_
  rintro e w1 ⟨rfl, hb1⟩
  clear m0 m1 ml x0 x1 x2 x3 x4 x5 x6
  have V1 := Lib.hid (owp_new w1 (p, q) 31)
  have ZB := Lib.hid ((Below.refl w1.heap.size w1).alloc (Nat.le_refl _) (.cells #[.int .i64 p, .int .i64 q] 31))
  have M2' := Lib.hid (mes_below (mes_below M1'.out hb1) ZB.out)
  have X2 := Lib.hid (own_alloc (own_below X1.out hb1) (.cells #[.int .i64 p, .int .i64 q] 31))
  have B2 := Lib.hid (balloc (bstep B1.out hb1) (.cells #[.int .i64 p, .int .i64 q] 31))
  clear M1' X1 B1 hb1
  obtain ⟨m0, m1, ml⟩ := M2'.out
  obtain ⟨x0, x1, x2, x3, x4, x5, x6⟩ := X2.out
  go_wp2_with fail
  with_reducible refine (M2.out _ B2.out).mono ?_
  rintro e w2 ⟨rfl, hb2⟩
  clear m0 m1 ml x0 x1 x2 x3 x4 x5 x6
  have V2 := Lib.hid (owp_alloc (owp_below V1.out hb2) (.cells #[.int .i64 p, .int .i64 q] 31))
  have U2 := Lib.hid (owp_new w2 (p, q) 31)
  have B3 := Lib.hid (balloc (bstep B2.out hb2) (.cells #[.int .i64 p, .int .i64 q] 31))
  clear M2' X2 B2 hb2 V1 ZB
  obtain ⟨v0, v1, v2, v3, v4⟩ := V2.out
  obtain ⟨u0, u1, u2, u3, u4⟩ := U2.out
  go_wp2_with fail
  refine (K.out _).mono ?_
  rintro e w5 ⟨rfl, hb5⟩
  clear v0 v1 v2 v3 v4 u0 u1 u2 u3 u4
  go_wp2
  go_ret
  exact ⟨rfl, bstep B3.out hb5⟩
theorem ffluxes_walk (a : Option Addr) (np c : Nat) (P : Nat → P3) (a' : Option Addr) (nf c' : Nat) (F : Nat → P3) (x : P3) (D : Int) (w : World) (hn : np ≤ maxLen) (hm : nf ≤ maxLen) (rp : Lst w a np P) (rf : Lst w a' nf F) : Calls Tryz.prog 3 #[msv a np c a' nf c', ptv x, .int .i64 D] w fun e w' => e = .returned (.bool true) ∧ Below w.heap.size w w' := by
  have L := fun W => mlong_any a np c a' nf c' W hn hm
  have KK := Lib.hid (fun W => fkn_any W)
  by_cases h : (decide (200 < (np : Int)) || decide (300 < (nf : Int))) = true
  · rw [h] at L
    exact ffl_long a np c a' nf c' x D w (Lib.hid L) KK
  · have h' : (decide (200 < (np : Int)) || decide (300 < (nf : Int))) = false := by simpa using h
    rw [h'] at L
    rw [Bool.or_eq_false_iff] at h'
    have h1 := of_decide_eq_false h'.1
    have h2 := of_decide_eq_false h'.2
    have M1 := fun W (B : Below w.heap.size w W) => flux_any a np c a' nf c' P F x D W (lst_below rp B) (lst_below rf B) (by omega) (by omega)
    have M2 := fun W (B : Below w.heap.size w W) => rflux_any a np c a' nf c' P F x D W (lst_below rp B) (lst_below rf B) (by omega) (by omega)
    generalize fluxR (vcode ⟨np, nf, P, F⟩) nf (Tr P F) x D = r at *
    obtain ⟨⟨p, q⟩, cd⟩ := r
    exact ffl_walk0 a np c a' nf c' x D p q cd w (Lib.hid L) (Lib.hid M1) (Lib.hid M2) KK

end Go.Proofs.YtjigcgpcglfjfaaGreat
