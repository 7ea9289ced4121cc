/-
  The document's far: the greatest squared distance between corners and points.
-/
import Derived.Test.YtjigcgpcglfjfaaFg18
namespace Go.Proofs.Ytjigcgpcglfjfaa
open Go.ChangeShapes Go.WideShapes Go.RowKit
open Sh
def cI (P : Nat → P3) (q : P3) : Nat → Int → Int
  | 0, a => a
  | k + 1, a => Sp.mx (cI P q k a) (sq (sub (P k) q))
def cG (P Q : Nat → P3) (n : Nat) : Nat → Int
  | 0 => 0
  | j + 1 => cI P (Q j) n (cG P Q n j)
theorem cG_one (t : P9) (y : P3) : cG (P3F t) (fun _ => y) 3 1 = farN t y := by
  have a := sq_nn (sub t.1 y)
  show Sp.mx (Sp.mx (Sp.mx 0 (sq (sub t.1 y))) (sq (sub t.2.1 y))) (sq (sub t.2.2 y)) = Sp.mx (Sp.mx (sq (sub t.1 y)) (sq (sub t.2.1 y))) (sq (sub t.2.2 y))
  simp only [Sp.mx_eq]
  omega
def rfaOps : Array Oper := #[{ dst := some 29, op := Op.load 23 (Operand.tmp 8), type := 23, pos := "ref.go:38", after := #[], guard := none }, { dst := some 30, op := Op.move (Operand.tmp 1), type := 54, pos := "ref.go:38", after := #[], guard := none }, { dst := some 31, op := Op.move (Operand.tmp 6), type := 3, pos := "ref.go:38", after := #[], guard := none }, { dst := some 32, op := Op.indexAddr 54 (Operand.tmp 30) (Operand.tmp 31), type := 0, pos := "ref.go:38", after := #[{ on := 1, ground := Ground.data }, { on := 2, ground := Ground.data }], guard := none }, { dst := some 33, op := Op.load 23 (Operand.tmp 32), type := 23, pos := "ref.go:38", after := #[{ on := 3, ground := Ground.data }], guard := none }, { dst := some 34, op := Op.call { callee := Callee.value (Operand.func 127), args := #[Operand.tmp 29, Operand.tmp 33], argTypes := #[23, 23] }, type := 23, pos := "ref.go:38", after := #[{ on := 0, ground := Ground.data }, { on := 4, ground := Ground.data }], guard := none }, { dst := some 9, op := Op.alloc 23, type := 0, pos := "ref.go:38", after := #[], guard := none }, { dst := none, op := Op.store 23 (Operand.tmp 9) (Operand.tmp 34), type := 0, pos := "ref.go:38", after := #[{ on := 6, ground := Ground.data }, { on := 5, ground := Ground.data }, { on := 5, ground := Ground.chain }, { on := 0, ground := Ground.phase }, { on := 1, ground := Ground.phase }, { on := 2, ground := Ground.phase }, { on := 3, ground := Ground.phase }, { on := 4, ground := Ground.phase }, { on := 5, ground := Ground.phase }, { on := 6, ground := Ground.phase }], guard := none }]
def rfaT (x : Nat) (d : Nat) (m : Nat) (e : Nat) (j : Nat) (y0 y2 y3 y4 y5 y7 y10 y11 y12 y13 y14 y15 y16 y17 y18 y19 y20 y21 y22 y23 y24 y25 y26 y27 y28 y35 y36 y37 y38 y39 y40 y41 y42 y43 : Value) (X : Nat → Value) : Array Value := #[y0, .slice (some ⟨d, 0, none⟩) m e, y2, y3, y4, y5, .int .i64 j, y7, .pointer (some ⟨x, 0, none⟩), X 9, y10, y11, y12, y13, y14, y15, y16, y17, y18, y19, y20, y21, y22, y23, y24, y25, y26, y27, y28, X 29, X 30, X 31, X 32, X 33, X 34, y35, y36, y37, y38, y39, y40, y41, y42, y43]
theorem rfaT_eq (x : Nat) (d : Nat) (m : Nat) (e : Nat) (j : Nat) (y0 y2 y3 y4 y5 y7 y10 y11 y12 y13 y14 y15 y16 y17 y18 y19 y20 y21 y22 y23 y24 y25 y26 y27 y28 y35 y36 y37 y38 y39 y40 y41 y42 y43 : Value) (X : Nat → Value) : rfaT x d m e j y0 y2 y3 y4 y5 y7 y10 y11 y12 y13 y14 y15 y16 y17 y18 y19 y20 y21 y22 y23 y24 y25 y26 y27 y28 y35 y36 y37 y38 y39 y40 y41 y42 y43 X = #[y0, .slice (some ⟨d, 0, none⟩) m e, y2, y3, y4, y5, .int .i64 j, y7, .pointer (some ⟨x, 0, none⟩), X 9, y10, y11, y12, y13, y14, y15, y16, y17, y18, y19, y20, y21, y22, y23, y24, y25, y26, y27, y28, X 29, X 30, X 31, X 32, X 33, X 34, y35, y36, y37, y38, y39, y40, y41, y42, y43] := rfl
def rfaI (G : World → Prop) (N : Nat) (x d m e j : Nat) (p q : P3) (y0 y2 y3 y4 y5 y7 y10 y11 y12 y13 y14 y15 y16 y17 y18 y19 y20 y21 y22 y23 y24 y25 y26 y27 y28 y35 y36 y37 y38 y39 y40 y41 y42 y43 : Value) (l : Array Bool) (A : Act) (W : World) : Prop :=
  l.size = 8 ∧ ∃ X : Nat → Value, A = { tmps := rfaT x d m e j y0 y2 y3 y4 y5 y7 y10 y11 y12 y13 y14 y15 y16 y17 y18 y19 y20 y21 y22 y23 y24 y25 y26 y27 y28 y35 y36 y37 y38 y39 y40 y41 y42 y43 X, defers := [] } ∧ N ≤ W.heap.size ∧ G W ∧ PV l 0 (X 29) (ptv p) ∧ PV l 1 (X 30) (.slice (some ⟨d, 0, none⟩) m e) ∧ PV l 2 (X 31) (.int .i64 j) ∧ PV l 3 (X 32) (.pointer (some ⟨d, j * 3, none⟩)) ∧ PV l 4 (X 33) (ptv q) ∧ PV l 5 (X 34) (ptv (sub p q)) ∧ QA l W (X 9) 6 7 N ((sub p q))
set_option maxRecDepth 100000 in
set_option maxHeartbeats 4000000 in
theorem rfa_steps (G : World → Prop) (N : Nat) (x d m e j : Nat) (p q : P3) (y0 y2 y3 y4 y5 y7 y10 y11 y12 y13 y14 y15 y16 y17 y18 y19 y20 y21 y22 y23 y24 y25 y26 y27 y28 y35 y36 y37 y38 y39 y40 y41 y42 y43 : Value) (Q : Exit → Act → World → Prop) (SB : Hid (BdP 4611686018427387904 (sub p q))) (HK : Hid ((j : Int) < (m : Int) ∧ 0 ≤ (j : Int))) (GC : Hid (∀ W : World, G W → W.cell? ⟨x, 0, none⟩ = some (.int .i64 p.1) ∧ W.cell? ⟨x, 1, none⟩ = some (.int .i64 p.2.1) ∧ W.cell? ⟨x, 2, none⟩ = some (.int .i64 p.2.2) ∧ W.cell? ⟨d, j * 3, none⟩ = some (.int .i64 q.1) ∧ W.cell? ⟨d, j * 3 + 1, none⟩ = some (.int .i64 q.2.1) ∧ W.cell? ⟨d, j * 3 + 1 + 1, none⟩ = some (.int .i64 q.2.2))) (GI : Hid (∀ W W' : World, Below N W W' → G W → G W')) :
    allOps (fun i o => ∀ (l : Array Bool) (A : Act) (W : World), rfaI G N x d m e j p q y0 y2 y3 y4 y5 y7 y10 y11 y12 y13 y14 y15 y16 y17 y18 y19 y20 y21 y22 y23 y24 y25 y26 y27 y28 y35 y36 y37 y38 y39 y40 y41 y42 y43 l A W → l.getD i true = false → (∀ e ∈ o.after, Region.binds .any e = true → l.getD e.on false = true) → ∀ K' : Act → World → Prop, (∀ A' W', rfaI G N x d m e j p q y0 y2 y3 y4 y5 y7 y10 y11 y12 y13 y14 y15 y16 y17 y18 y19 y20 y21 y22 y23 y24 y25 y26 y27 y28 y35 y36 y37 y38 y39 y40 y41 y42 y43 (l.setIfInBounds i true) A' W' → K' A' W') → if Region.wanted o (yielded rfaOps A.tmps) = true then Oper.wp Try.prog o A W K' Q else K' (A.put o.dst undef) W) 0 rfaOps.toList := by
  simp only [rfaOps, allOps]
  refine ⟨?_, ?_, ?_, ?_, ?_, ?_, ?_, ?_, trivial⟩
  · rintro l A W ⟨hl, X, rfl, hN, g, F⟩ h1 hp K hK
    obtain ⟨c0, c1, c2, d0, d1, d2⟩ := GC.out W g
    rw [rfaT_eq]
    have g' := Lib.hid g
    have F' := Lib.hid F; clear F g
    have hN' := Lib.hid hN; clear hN; have hl' := Lib.hid hl; clear hl; have h1' := Lib.hid h1; clear h1; have hp' := Lib.hid hp; clear hp; have hK' := Lib.hid hK; clear hK
    go_simp
    have hK := hK'.out; have hN := hN'.out; have hl := hl'.out; have h1 := h1'.out
    obtain ⟨p0, p1, p2, p3, p4, p5, qa0⟩ := F'.out
    have g := g'.out
    refine hK _ _ ⟨by simpa using hl, (upd X 29 (ptv p)), rfl, hN, g, PV.made rfl, p1.k, p2.k, p3.k, p4.k, p5.k, qa0.keep (by decide) (by decide) (fun _ _ h => h)⟩
  · rintro l A W ⟨hl, X, rfl, hN, g, F⟩ h1 hp K hK
    rw [rfaT_eq]
    have g' := Lib.hid g
    have F' := Lib.hid F; clear F g
    have hN' := Lib.hid hN; clear hN; have hl' := Lib.hid hl; clear hl; have h1' := Lib.hid h1; clear h1; have hp' := Lib.hid hp; clear hp; have hK' := Lib.hid hK; clear hK
    go_simp
    have hK := hK'.out; have hN := hN'.out; have hl := hl'.out; have h1 := h1'.out
    obtain ⟨p0, p1, p2, p3, p4, p5, qa0⟩ := F'.out
    have g := g'.out
    refine hK _ _ ⟨by simpa using hl, (upd X 30 (.slice (some ⟨d, 0, none⟩) m e)), rfl, hN, g, p0.k, PV.made rfl, p2.k, p3.k, p4.k, p5.k, qa0.keep (by decide) (by decide) (fun _ _ h => h)⟩
  · rintro l A W ⟨hl, X, rfl, hN, g, F⟩ h1 hp K hK
    rw [rfaT_eq]
    have g' := Lib.hid g
    have F' := Lib.hid F; clear F g
    have hN' := Lib.hid hN; clear hN; have hl' := Lib.hid hl; clear hl; have h1' := Lib.hid h1; clear h1; have hp' := Lib.hid hp; clear hp; have hK' := Lib.hid hK; clear hK
    go_simp
    have hK := hK'.out; have hN := hN'.out; have hl := hl'.out; have h1 := h1'.out
    obtain ⟨p0, p1, p2, p3, p4, p5, qa0⟩ := F'.out
    have g := g'.out
    refine hK _ _ ⟨by simpa using hl, (upd X 31 (.int .i64 j)), rfl, hN, g, p0.k, p1.k, PV.made rfl, p3.k, p4.k, p5.k, qa0.keep (by decide) (by decide) (fun _ _ h => h)⟩
  · rintro l A W ⟨hl, X, rfl, hN, g, F⟩ h1 hp K hK
    have e1 := F.2.1 (hp ⟨1, .data⟩ (by simp) rfl)
    have e2 := F.2.2.1 (hp ⟨2, .data⟩ (by simp) rfl)
    obtain ⟨hk1, hk2⟩ := HK.out
    rw [rfaT_eq]
    have g' := Lib.hid g
    have F' := Lib.hid F; clear F g
    have hN' := Lib.hid hN; clear hN; have hl' := Lib.hid hl; clear hl; have h1' := Lib.hid h1; clear h1; have hp' := Lib.hid hp; clear hp; have hK' := Lib.hid hK; clear hK
    go_simp
    have hK := hK'.out; have hN := hN'.out; have hl := hl'.out; have h1 := h1'.out
    obtain ⟨p0, p1, p2, p3, p4, p5, qa0⟩ := F'.out
    have g := g'.out
    refine hK _ _ ⟨by simpa using hl, (upd (upd (upd X 30 (.slice (some ⟨d, 0, none⟩) m e)) 31 (.int .i64 j)) 32 (.pointer (some ⟨d, j * 3, none⟩))), rfl, hN, g, p0.k, PV.made rfl, PV.made rfl, PV.made rfl, p4.k, p5.k, qa0.keep (by decide) (by decide) (fun _ _ h => h)⟩
  · rintro l A W ⟨hl, X, rfl, hN, g, F⟩ h1 hp K hK
    have e3 := F.2.2.2.1 (hp ⟨3, .data⟩ (by simp) rfl)
    obtain ⟨c0, c1, c2, d0, d1, d2⟩ := GC.out W g
    rw [rfaT_eq]
    have g' := Lib.hid g
    have F' := Lib.hid F; clear F g
    have hN' := Lib.hid hN; clear hN; have hl' := Lib.hid hl; clear hl; have h1' := Lib.hid h1; clear h1; have hp' := Lib.hid hp; clear hp; have hK' := Lib.hid hK; clear hK
    go_simp
    have hK := hK'.out; have hN := hN'.out; have hl := hl'.out; have h1 := h1'.out
    obtain ⟨p0, p1, p2, p3, p4, p5, qa0⟩ := F'.out
    have g := g'.out
    refine hK _ _ ⟨by simpa using hl, (upd (upd X 32 (.pointer (some ⟨d, j * 3, none⟩))) 33 (ptv q)), rfl, hN, g, p0.k, p1.k, p2.k, PV.made rfl, PV.made rfl, p5.k, qa0.keep (by decide) (by decide) (fun _ _ h => h)⟩
  · rintro l A W ⟨hl, X, rfl, hN, g, F⟩ h1 hp K hK
    have e0 := F.1 (hp ⟨0, .data⟩ (by simp) rfl)
    have e4 := F.2.2.2.2.1 (hp ⟨4, .data⟩ (by simp) rfl)
    rw [rfaT_eq]
    have g' := Lib.hid g
    have F' := Lib.hid F; clear F g
    have hN' := Lib.hid hN; clear hN; have hl' := Lib.hid hl; clear hl; have h1' := Lib.hid h1; clear h1; have hp' := Lib.hid hp; clear hp; have hK' := Lib.hid hK; clear hK
    go_simp
    go_at_call 127
    refine (rminus_any p q _ SB.out).mono ?_
    rintro e W1 ⟨rfl, hb⟩
    (try dsimp only)
    have hK := hK'.out; have hN := hN'.out; have hl := hl'.out; have h1 := h1'.out
    obtain ⟨p0, p1, p2, p3, p4, p5, qa0⟩ := F'.out
    have g := g'.out
    refine hK _ _ ⟨by simpa using hl, (upd (upd (upd X 29 (ptv p)) 33 (ptv q)) 34 (ptv (sub p q))), rfl, Nat.le_trans hN hb.size, GI.out _ _ (hb.mono hN) g, PV.made rfl, p1.k, p2.k, p3.k, PV.made rfl, PV.made rfl, qa0.keep (by decide) (by decide) (fun _ _ h => own_below h hb)⟩
  · rintro l A W ⟨hl, X, rfl, hN, g, F⟩ h1 hp K hK
    rw [rfaT_eq]
    have g' := Lib.hid g
    have F' := Lib.hid F; clear F g
    have hN' := Lib.hid hN; clear hN; have hl' := Lib.hid hl; clear hl; have h1' := Lib.hid h1; clear h1; have hp' := Lib.hid hp; clear hp; have hK' := Lib.hid hK; clear hK
    go_simp
    have hK := hK'.out; have hN := hN'.out; have hl := hl'.out; have h1 := h1'.out
    obtain ⟨p0, p1, p2, p3, p4, p5, qa0⟩ := F'.out
    have g := g'.out
    refine hK _ _ ⟨by simpa using hl, (upd X 9 (.pointer (some ⟨W.heap.size, 0, none⟩))), rfl, (by simp; omega), GI.out _ _ (((Below.refl _ W).alloc (Nat.le_refl _) _).mono hN) g, p0.k, p1.k, p2.k, p3.k, p4.k, p5.k, qa0.made (by decide) (by rw [hl]; decide) h1 hN (own_new W (0, 0, 0) _)⟩
  · rintro l A W ⟨hl, X, rfl, hN, g, F⟩ h1 hp K hK
    have la := hp ⟨6, .data⟩ (by simp) rfl
    have e5 := F.2.2.2.2.2.1 (hp ⟨5, .data⟩ (by simp) rfl)
    obtain ⟨b', v', e2, hb', ow, _⟩ := F.2.2.2.2.2.2.2 la
    obtain ⟨o0, o1, o2, o3, o4, o5, o6⟩ := id ow
    rw [rfaT_eq]
    have g' := Lib.hid g
    have F' := Lib.hid F; clear F g
    have hN' := Lib.hid hN; clear hN; have hl' := Lib.hid hl; clear hl; have h1' := Lib.hid h1; clear h1; have hp' := Lib.hid hp; clear hp; have hK' := Lib.hid hK; clear hK
    have la' := Lib.hid la; clear la; have hb'' := Lib.hid hb'; clear hb'; have ow' := Lib.hid ow; clear ow
    go_simp
    have hK := hK'.out; have hN := hN'.out; have hl := hl'.out; have h1 := h1'.out
    obtain ⟨p0, p1, p2, p3, p4, p5, qa0⟩ := F'.out
    have g := g'.out
    have la := la'.out; have hb' := hb''.out; have ow := ow'.out
    refine hK _ _ ⟨by simpa using hl, (upd (upd X 34 (ptv (sub p q))) 9 (.pointer (some ⟨b', 0, none⟩))), rfl, (by simpa using hN), GI.out _ _ (below_set3 _ _ _ hb') g, p0.k, p1.k, p2.k, p3.k, p4.k, PV.made rfl, QA.put (by decide) la rfl hb' (own_put ow _)⟩
set_option maxRecDepth 100000 in
set_option maxHeartbeats 4000000 in
theorem rfa_reg (G : World → Prop) (N : Nat) (x d m e j : Nat) (p q : P3) {y0 y2 y3 y4 y5 y7 y10 y11 y12 y13 y14 y15 y16 y17 y18 y19 y20 y21 y22 y23 y24 y25 y26 y27 y28 y35 y36 y37 y38 y39 y40 y41 y42 y43 x9 x29 x30 x31 x32 x33 x34 : Value} {W : World} {Q : Exit → Act → World → Prop} (SB : Hid (BdP 4611686018427387904 (sub p q))) (HK : Hid ((j : Int) < (m : Int) ∧ 0 ≤ (j : Int))) (GC : Hid (∀ W : World, G W → W.cell? ⟨x, 0, none⟩ = some (.int .i64 p.1) ∧ W.cell? ⟨x, 1, none⟩ = some (.int .i64 p.2.1) ∧ W.cell? ⟨x, 2, none⟩ = some (.int .i64 p.2.2) ∧ W.cell? ⟨d, j * 3, none⟩ = some (.int .i64 q.1) ∧ W.cell? ⟨d, j * 3 + 1, none⟩ = some (.int .i64 q.2.1) ∧ W.cell? ⟨d, j * 3 + 1 + 1, none⟩ = some (.int .i64 q.2.2))) (GI : Hid (∀ W W' : World, Below N W W' → G W → G W')) (hN : N ≤ W.heap.size) (g0 : G W.drew)
    (hK : ∀ (x29 x30 x31 x32 x33 x34 : Value) (b0 : Nat) (W' : World), N ≤ W'.heap.size → G W' → N ≤ b0 → Own W' b0 ((sub p q)) → Q .normal { tmps := #[y0, .slice (some ⟨d, 0, none⟩) m e, y2, y3, y4, y5, .int .i64 j, y7, .pointer (some ⟨x, 0, none⟩), .pointer (some ⟨b0, 0, none⟩), y10, y11, y12, y13, y14, y15, y16, y17, y18, y19, y20, y21, y22, y23, y24, y25, y26, y27, y28, x29, x30, x31, x32, x33, x34, y35, y36, y37, y38, y39, y40, y41, y42, y43], defers := [] } W') :
    Code.wp Try.prog (.region 8 rfaOps true) Q { tmps := #[y0, .slice (some ⟨d, 0, none⟩) m e, y2, y3, y4, y5, .int .i64 j, y7, .pointer (some ⟨x, 0, none⟩), x9, y10, y11, y12, y13, y14, y15, y16, y17, y18, y19, y20, y21, y22, y23, y24, y25, y26, y27, y28, x29, x30, x31, x32, x33, x34, y35, y36, y37, y38, y39, y40, y41, y42, y43], defers := [] } W := by
  refine wp_region_inv (rfaI G N x d m e j p q y0 y2 y3 y4 y5 y7 y10 y11 y12 y13 y14 y15 y16 y17 y18 y19 y20 y21 y22 y23 y24 y25 y26 y27 y28 y35 y36 y37 y38 y39 y40 y41 y42 y43) (by kernel_rfl) ?_ (rfa_steps G N x d m e j p q y0 y2 y3 y4 y5 y7 y10 y11 y12 y13 y14 y15 y16 y17 y18 y19 y20 y21 y22 y23 y24 y25 y26 y27 y28 y35 y36 y37 y38 y39 y40 y41 y42 y43 Q SB HK GC GI) ?_
  · exact ⟨by simp [rfaOps], fun i => (#[undef, undef, undef, undef, undef, undef, undef, undef, undef, x9, undef, undef, undef, undef, undef, undef, undef, undef, undef, undef, undef, undef, undef, undef, undef, undef, undef, undef, undef, x29, x30, x31, x32, x33, x34, undef, undef, undef, undef, undef, undef, undef, undef, undef] : Array Value).getD i undef, rfl, hN, g0, PV.nought, PV.nought, PV.nought, PV.nought, PV.nought, PV.nought, QA.nought⟩
  · rintro l A W ⟨hl, X, rfl, hN, g, p0, p1, p2, p3, p4, p5, qa0⟩ hr
    unfold rfaOps at hr
    have l0 := ready_end hr 0 (by rw [hl]; decide) rfl (fun e he hbn => by
      simp at he
      (try (repeat (rcases he with rfl | he; · first | assumption | exact absurd hbn (by decide))))
      (try (first | exact he.elim | (subst he; first | assumption | exact absurd hbn (by decide)))))
    have l1 := ready_end hr 1 (by rw [hl]; decide) rfl (fun e he hbn => by
      simp at he
      (try (repeat (rcases he with rfl | he; · first | assumption | exact absurd hbn (by decide))))
      (try (first | exact he.elim | (subst he; first | assumption | exact absurd hbn (by decide)))))
    have l2 := ready_end hr 2 (by rw [hl]; decide) rfl (fun e he hbn => by
      simp at he
      (try (repeat (rcases he with rfl | he; · first | assumption | exact absurd hbn (by decide))))
      (try (first | exact he.elim | (subst he; first | assumption | exact absurd hbn (by decide)))))
    have l3 := ready_end hr 3 (by rw [hl]; decide) rfl (fun e he hbn => by
      simp at he
      (try (repeat (rcases he with rfl | he; · first | assumption | exact absurd hbn (by decide))))
      (try (first | exact he.elim | (subst he; first | assumption | exact absurd hbn (by decide)))))
    have l4 := ready_end hr 4 (by rw [hl]; decide) rfl (fun e he hbn => by
      simp at he
      (try (repeat (rcases he with rfl | he; · first | assumption | exact absurd hbn (by decide))))
      (try (first | exact he.elim | (subst he; first | assumption | exact absurd hbn (by decide)))))
    have l5 := ready_end hr 5 (by rw [hl]; decide) rfl (fun e he hbn => by
      simp at he
      (try (repeat (rcases he with rfl | he; · first | assumption | exact absurd hbn (by decide))))
      (try (first | exact he.elim | (subst he; first | assumption | exact absurd hbn (by decide)))))
    have l6 := ready_end hr 6 (by rw [hl]; decide) rfl (fun e he hbn => by
      simp at he
      (try (repeat (rcases he with rfl | he; · first | assumption | exact absurd hbn (by decide))))
      (try (first | exact he.elim | (subst he; first | assumption | exact absurd hbn (by decide)))))
    have l7 := ready_end hr 7 (by rw [hl]; decide) rfl (fun e he hbn => by
      simp at he
      (try (repeat (rcases he with rfl | he; · first | assumption | exact absurd hbn (by decide))))
      (try (first | exact he.elim | (subst he; first | assumption | exact absurd hbn (by decide)))))
    obtain ⟨b0, v0, e0x, n0, o0, t0⟩ := qa0.2 l6
    obtain rfl := t0 l7
    have z := hK (X 29) (X 30) (X 31) (X 32) (X 33) (X 34) b0 W hN g n0 o0
    rw [← e0x] at z
    exact z
set_option maxRecDepth 100000 in
set_option maxHeartbeats 4000000 in
theorem rfar_any (a b c : P3) (d m e : Nat) (Q : Nat → P3) (w : World) (r : RwG w d m Q) (hm : m ≤ 1000) (hb : ∀ i, i < 3 → ∀ j, j < m → BdP 1000000 (sub (P3F (a, b, c) i) (Q j))) :
    Calls Try.prog 116 #[pnv a b c, .slice (some ⟨d, 0, none⟩) m e] w fun e w' => e = .returned (.int .i64 (cG (P3F (a, b, c)) Q 3 m)) ∧ Below w.heap.size w w' := by
  have RQ := Lib.hid r
  have hdl := r.1
  have HB := Lib.hid hb
  have X0 := Lib.hid (pan_new w a b c 25)
  have B0 := Lib.hid (show Below w.heap.size w (w.alloc (pnc a b c 25)) from (Below.refl _ w).alloc (Nat.le_refl _) _)
  have hm' : (m : Int) ≤ 1000 := by omega
  clear r hb
  go_enter Try.func116, Try.ntmps116
  go_wp2
  go_loopw [5, 6] (fun mv kv wr => ∃ j : Nat, j ≤ m ∧ kv = .int .i64 j ∧ mv = .int .i64 (cG (P3F (a, b, c)) Q 3 j) ∧ Pan wr w.heap.size a b c ∧ Below w.heap.size w wr) (fun _ kv _ => m - (intOf kv).toNat)
  case atStart => exact ⟨0, Nat.zero_le _, rfl, rfl, X0.out, B0.out⟩
  case round =>
    obtain ⟨j, hj, rfl, rfl, g1, BB⟩ := hrel
    have G1 := Lib.hid g1
    have B1 := Lib.hid BB
    clear g1 BB X0 B0
    by_cases hlt : j < m
    · have hj1 : (j : Int) < (m : Int) := by omega
      have hj0 : 0 ≤ (j : Int) := by omega
      have NX := Lib.hid (show cG (P3F (a, b, c)) Q 3 (j + 1) = cI (P3F (a, b, c)) (Q j) 3 (cG (P3F (a, b, c)) Q 3 j) from rfl)
      have HBj := Lib.hid (fun i hi => HB.out i hi j hlt)
      have RJ := Lib.hid (RQ.out.2 j hlt)
      obtain ⟨x0, x1, x2, x3, x4, x5, x6, x7, x8, xs⟩ := id G1.out
      generalize cG (P3F (a, b, c)) Q 3 j = y at *
      have R0 := Lib.hid (rwg_new3 wr a b c 23)
      generalize wr = wo at *
      go_wp2_with fail
      go_loopw [5, 25] (fun mv kv wr => ∃ k : Nat, k ≤ 3 ∧ kv = .int .i64 k ∧ mv = .int .i64 (cI (P3F (a, b, c)) (Q j) k y) ∧ Pan wr w.heap.size a b c ∧ RwG wr wo.heap.size 3 (P3F (a, b, c)) ∧ Below w.heap.size w wr) (fun _ kv _ => 3 - (intOf kv).toNat)
      case atStart => exact ⟨0, by omega, rfl, rfl, pan_alloc G1.out _, R0.out, balloc B1.out _⟩
      case round =>
        obtain ⟨k, hk, rfl, rfl, g2, r2, BB2⟩ := hrel
        have G2 := Lib.hid g2
        have R2 := Lib.hid r2
        have B2 := Lib.hid BB2
        clear g2 r2 BB2 R0 x0 x1 x2 x3 x4 x5 x6 x7 x8
        by_cases hkl : k < 3
        · have hk1 : (k : Int) < 3 := by omega
          have hk0 : 0 ≤ (k : Int) := by omega
          obtain ⟨c0, c1, c2⟩ := R2.out.2 k hkl
          have cz := R2.out.1
          have rq := rwg_in RQ.out B2.out hdl
          obtain ⟨d0, d1, d2⟩ := rq.2 j hlt
          have dz := rq.1
          have bd := HBj.out k hkl
          have NY := Lib.hid (show cI (P3F (a, b, c)) (Q j) (k + 1) y = Sp.mx (cI (P3F (a, b, c)) (Q j) k y) (dot (sub (P3F (a, b, c) k) (Q j)) (sub (P3F (a, b, c) k) (Q j))) from rfl)
          have MB := Lib.hid (show BdP 4611686018427387904 (sub (P3F (a, b, c) k) (Q j)) from bd.mono (by decide))
          have SCc := Lib.hid (fun W => rdot_any (sub (P3F (a, b, c) k) (Q j)) (sub (P3F (a, b, c) k) (Q j)) W (pw_sq bd))
          clear rq bd
          generalize cI (P3F (a, b, c)) (Q j) k y = y1 at *
          generalize hp : P3F (a, b, c) k = p at *
          generalize hq : Q j = q at *
          generalize dot (sub p q) (sub p q) = y2 at *
          clear hp
          have nz0 : ¬ (wr.heap.size = d) := by omega
          have nz1 : ¬ (d = wr.heap.size) := by omega
          have OX := Lib.hid (own_new wr p 23)
          have RDn := Lib.hid (rwg_in RQ.out (balloc B2.out (ptc p 23)) hdl)
          have dlt : d < wr.heap.size := dz
          go_wp2_with fail
          rename_i K8 hK8
          have HK8 := Lib.hid hK8
          clear hK8 c0 c1 c2 d0 d1 d2 nz0 nz1
          refine rfa_reg (fun W => Below (wr.heap.size + 1) (wr.alloc (ptc p 23)) W) (wr.heap.size + 1) wr.heap.size d m e j p q (Lib.hid MB.out) (Lib.hid ⟨hj1, hj0⟩) (Lib.hid fun W h => ?_) (Lib.hid fun W W' hb h => h.trans hb) (by simp) (Below.drew (Below.refl _ _)) ?_
          · have o := own_in' OX.out h (by omega)
            have r := (rwg_in RDn.out h (by omega)).2 j hlt
            rw [hq] at r
            exact ⟨o.1, o.2.1, o.2.2.1, r.1, r.2.1, r.2.2⟩
          intro x29 x30 x31 x32 x33 x34 z w3 hN3 g3 nz oz
          have G3 := Lib.hid g3
          obtain ⟨o0, o1, o2, _⟩ := id oz
          clear g3 oz
          refine HK8.out _ _ ?_
          clear HK8
          go_wp2_with fail
          with_reducible refine (SCc.out _).mono ?_
          rintro e w2 ⟨rfl, hb2⟩
          have hB : Below wr.heap.size wr w2 := (((Below.refl wr.heap.size wr).alloc (Nat.le_refl _) _).trans (G3.out.mono (Nat.le_succ _))).trans (hb2.mono (Nat.le_trans (Nat.le_succ _) hN3))
          by_cases z : y1 < y2
          · have MX : Sp.mx y1 y2 = y2 := by rw [Sp.mx_eq]; omega
            go_wp2_with fail
            go_roundw
            case rel => exact ⟨k + 1, by omega, by go_num, by rw [NY.out, MX], pan_below G2.out hB, rwg_below R2.out hB, bstep B2.out hB⟩
            case measure => simp [intOf]; omega
          · have MX : Sp.mx y1 y2 = y1 := by rw [Sp.mx_eq]; omega
            go_wp2_with fail
            go_roundw
            case rel => exact ⟨k + 1, by omega, by go_num, by rw [NY.out, MX], pan_below G2.out hB, rwg_below R2.out hB, bstep B2.out hB⟩
            case measure => simp [intOf]; omega
        · obtain rfl : k = 3 := by omega
          go_wp2_with fail
          go_roundw
          case rel => exact ⟨j + 1, by omega, by go_num, by rw [NX.out], G2.out, B2.out⟩
          case measure => simp [intOf]; omega
    · obtain rfl : j = m := by omega
      go_wp2
      go_ret
      exact ⟨rfl, B1.out⟩

end Go.Proofs.Ytjigcgpcglfjfaa
