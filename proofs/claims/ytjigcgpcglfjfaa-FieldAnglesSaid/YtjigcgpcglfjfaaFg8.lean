/-
  The regions of a view's low and high, that draw their order.
-/
import Derived.Test.YtjigcgpcglfjfaaFg7
namespace Go.Proofs.Ytjigcgpcglfjfaa
open Go.ChangeShapes Go.WideShapes Go.RowKit
open Sh
/-- a block of the call's own behind an alloc of a region, whatever it holds -/
def QX {α : Type} (OW : World → Nat → α → Prop) (l : Array Bool) (W : World) (x : Value) (k s N : Nat) (t : α) : Prop :=
  (l.getD s false = true → l.getD k false = true) ∧ (l.getD k false = true → ∃ b v, x = .pointer (some ⟨b, 0, none⟩) ∧ N ≤ b ∧ OW W b v ∧ (l.getD s false = true → v = t))
theorem QX.nought {α : Type} {OW : World → Nat → α → Prop} {n : Nat} {W : World} {x : Value} {k s N : Nat} {t : α} : QX OW (Array.replicate n false) W x k s N t := ⟨fun h => (rep_no h).elim, fun h => (rep_no h).elim⟩
theorem QX.keep {α : Type} {OW : World → Nat → α → Prop} {l : Array Bool} {W W' : World} {x : Value} {i k s N : Nat} {t : α} (h : QX OW l W x k s N t) (ne : i ≠ k) (ns : i ≠ s) (tr : ∀ b v, OW W b v → OW W' b v) : QX OW (l.setIfInBounds i true) W' x k s N t :=
  ⟨fun e => gs_t ne (h.1 (gs ns e)), fun e => by
    obtain ⟨b, v, h1, h2, h3, h4⟩ := h.2 (gs ne e)
    exact ⟨b, v, h1, h2, tr b v h3, fun e' => h4 (gs ns e')⟩⟩
theorem QX.made {α : Type} {OW : World → Nat → α → Prop} {l : Array Bool} {W W' : World} {x : Value} {k s N : Nat} {t v : α} (h : QX OW l W x k s N t) (ne : k ≠ s) (hl : k < l.size) (hk : l.getD k true = false) (hN : N ≤ W.heap.size) (o : OW W' W.heap.size v) : QX OW (l.setIfInBounds k true) W' (.pointer (some ⟨W.heap.size, 0, none⟩)) k s N t :=
  ⟨fun _ => gs_i hl, fun _ => ⟨_, v, rfl, hN, o, fun e => by
    have z := h.1 (gs ne e)
    rw [Array.getD_eq_getD_getElem?, Array.getElem?_eq_getElem hl] at z hk
    rw [show l[k] = true from z] at hk
    cases hk⟩⟩
theorem QX.put {α : Type} {OW : World → Nat → α → Prop} {l : Array Bool} {W' : World} {x : Value} {k s N b : Nat} {t : α} (ne : s ≠ k) (hk : l.getD k false = true) (hx : x = .pointer (some ⟨b, 0, none⟩)) (hN : N ≤ b) (o : OW W' b t) : QX OW (l.setIfInBounds s true) W' x k s N t :=
  ⟨fun _ => gs_t ne hk, fun _ => ⟨b, t, hx, hN, o, fun _ => rfl⟩⟩
def OwP (w : World) (b : Nat) (p : Int × Int) : Prop := w.cell? ⟨b, 0, none⟩ = some (.int .i64 p.1) ∧ w.cell? ⟨b, 1, none⟩ = some (.int .i64 p.2) ∧ w.frozen? ⟨b, 0, none⟩ = false ∧ w.frozen? ⟨b, 1, none⟩ = false ∧ b < w.heap.size
theorem owp_new (w : World) (p : Int × Int) (t : TypeId) : OwP (w.alloc (.cells #[.int .i64 p.1, .int .i64 p.2] t)) w.heap.size p := ⟨by go_simp, by go_simp, by go_simp, by go_simp, by simp⟩
theorem owp_below {w w1 : World} {b : Nat} {p : Int × Int} (h : OwP w b p) (hb : Below w.heap.size w w1) : OwP w1 b p := by
  obtain ⟨h1, h2, h3, h4, h5⟩ := h
  exact ⟨(hb.cell (p := ⟨b, 0, none⟩) h5).trans h1, (hb.cell (p := ⟨b, 1, none⟩) h5).trans h2, (hb.frozen (p := ⟨b, 0, none⟩) h5).trans h3, (hb.frozen (p := ⟨b, 1, none⟩) h5).trans h4, Nat.lt_of_lt_of_le h5 hb.size⟩
theorem owp_alloc {w : World} {b : Nat} {p : Int × Int} (h : OwP w b p) (o : Obj) : OwP (w.alloc o) b p := owp_below h ((Below.refl _ _).alloc (Nat.le_refl _) _)
theorem owp_put {w : World} {b : Nat} {v : Int × Int} (h : OwP w b v) (p : Int × Int) : OwP ((w.setCell ⟨b, 0, none⟩ (.int .i64 p.1)).setCell ⟨b, 1, none⟩ (.int .i64 p.2)) b p := by
  obtain ⟨h1, h2, h3, h4, h5⟩ := h
  exact ⟨by go_simp, by go_simp, by go_simp, by go_simp, by simpa using h5⟩
theorem below_set2 {N : Nat} {w : World} {b : Nat} (x y : Value) (h : N ≤ b) : Below N w ((w.setCell ⟨b, 0, none⟩ x).setCell ⟨b, 1, none⟩ y) := ((Below.refl _ _).setCell h _).setCell h _
def floiOps : Array Oper := #[{ dst := some 8, op := Op.fieldAddr 132 (Operand.tmp 2) 2, type := 0, pos := "view.go:26", after := #[], guard := none }, { dst := some 9, op := Op.load 128 (Operand.tmp 8), type := 128, pos := "view.go:26", after := #[{ on := 0, ground := Ground.data }], guard := none }, { dst := some 10, op := Op.load 101 (Operand.tmp 3), type := 101, pos := "view.go:26", after := #[], guard := none }, { dst := some 11, op := Op.fieldAddr 132 (Operand.tmp 2) 0, type := 0, pos := "view.go:26", after := #[], guard := none }, { dst := some 12, op := Op.load 101 (Operand.tmp 11), type := 101, pos := "view.go:26", after := #[{ on := 3, ground := Ground.data }], guard := none }, { dst := some 13, op := Op.call { callee := Callee.value (Operand.func 157), args := #[Operand.tmp 10, Operand.tmp 12], argTypes := #[101, 101] }, type := 3, pos := "view.go:26", after := #[{ on := 2, ground := Ground.data }, { on := 4, ground := Ground.data }], guard := none }, { dst := some 14, op := Op.fieldAddr 132 (Operand.tmp 2) 1, type := 0, pos := "view.go:26", after := #[], guard := none }, { dst := some 15, op := Op.load 3 (Operand.tmp 14), type := 3, pos := "view.go:26", after := #[{ on := 6, ground := Ground.data }], guard := none }, { dst := some 16, op := Op.call { callee := Callee.value (Operand.tmp 9), args := #[Operand.tmp 13, Operand.tmp 15], argTypes := #[3, 3] }, type := 36, pos := "view.go:26", after := #[{ on := 1, ground := Ground.data }, { on := 5, ground := Ground.data }, { on := 7, ground := Ground.data }, { on := 5, ground := Ground.chain }], guard := none }, { dst := some 7, op := Op.move (Operand.tmp 16), type := 36, pos := "view.go:26", after := #[{ on := 8, ground := Ground.data }], guard := none }, { dst := some 17, op := Op.extract (Operand.tmp 7) 0, type := 35, pos := "view.go:26", after := #[{ on := 9, ground := Ground.data }], guard := none }, { dst := some 18, op := Op.extract (Operand.tmp 7) 1, type := 27, pos := "view.go:26", after := #[{ on := 9, ground := Ground.data }, { on := 13, ground := Ground.gcOnly Departure.lateStores }], guard := none }, { dst := some 5, op := Op.alloc 35, type := 0, pos := "view.go:26", after := #[], guard := none }, { dst := none, op := Op.store 35 (Operand.tmp 5) (Operand.tmp 17), type := 0, pos := "view.go:26", after := #[{ on := 12, ground := Ground.data }, { on := 10, ground := Ground.data }, { on := 8, ground := Ground.chain }, { on := 0, ground := Ground.phase }, { on := 1, ground := Ground.phase }, { on := 2, ground := Ground.phase }, { on := 3, ground := Ground.phase }, { on := 4, ground := Ground.phase }, { on := 5, ground := Ground.phase }, { on := 6, ground := Ground.phase }, { on := 7, ground := Ground.phase }, { on := 8, ground := Ground.phase }, { on := 9, ground := Ground.phase }, { on := 10, ground := Ground.phase }, { on := 11, ground := Ground.textOnly Departure.lateStores }, { on := 12, ground := Ground.phase }], guard := none }, { dst := some 6, op := Op.assign (Operand.tmp 18), type := 27, pos := "view.go:26", after := #[{ on := 11, ground := Ground.data }, { on := 13, ground := Ground.chain }, { on := 0, ground := Ground.phase }, { on := 1, ground := Ground.phase }, { on := 2, ground := Ground.phase }, { on := 3, ground := Ground.phase }, { on := 4, ground := Ground.phase }, { on := 5, ground := Ground.phase }, { on := 6, ground := Ground.phase }, { on := 7, ground := Ground.phase }, { on := 8, ground := Ground.phase }, { on := 9, ground := Ground.phase }, { on := 10, ground := Ground.phase }, { on := 11, ground := Ground.phase }, { on := 12, ground := Ground.phase }, { on := 13, ground := Ground.phase }], guard := none }]
def floiT (x : Nat) (y : Nat) (y0 y1 y19 y20 : Value) (X : Nat → Value) : Array Value := #[y0, y1, .pointer (some ⟨x, 0, none⟩), .pointer (some ⟨y, 0, none⟩), .int .i64 0, X 5, X 6, X 7, X 8, X 9, X 10, X 11, X 12, X 13, X 14, X 15, X 16, X 17, X 18, y19, y20]
theorem floiT_eq (x : Nat) (y : Nat) (y0 y1 y19 y20 : Value) (X : Nat → Value) : floiT x y y0 y1 y19 y20 X = #[y0, y1, .pointer (some ⟨x, 0, none⟩), .pointer (some ⟨y, 0, none⟩), .int .i64 0, X 5, X 6, X 7, X 8, X 9, X 10, X 11, X 12, X 13, X 14, X 15, X 16, X 17, X 18, y19, y20] := rfl
def floiI (G : World → Prop) (N : Nat) (x y b n c d m e : Nat) (al ah bl bh : P3) (sc f : Int) (r : Sp.R) (y0 y1 y19 y20 : Value) (l : Array Bool) (A : Act) (W : World) : Prop :=
  l.size = 15 ∧ ∃ X : Nat → Value, A = { tmps := floiT x y y0 y1 y19 y20 X, defers := [] } ∧ N ≤ W.heap.size ∧ G W ∧ PV l 0 (X 8) (.pointer (some ⟨x, 8, none⟩)) ∧ PV l 1 (X 9) (.func (.func 50) #[] #[]) ∧ PV l 2 (X 10) (grv b n c al ah) ∧ PV l 3 (X 11) (.pointer (some ⟨x, 0, none⟩)) ∧ PV l 4 (X 12) (grv d m e bl bh) ∧ PV l 5 (X 13) (.int .i64 f) ∧ PV l 6 (X 14) (.pointer (some ⟨x, 7, none⟩)) ∧ PV l 7 (X 15) (.int .i64 sc) ∧ PV l 8 (X 16) (spr r) ∧ PV l 9 (X 7) (spr r) ∧ PV l 10 (X 17) (.agg #[.int .i64 r.1.1, .int .i64 r.1.2]) ∧ PV l 11 (X 18) (.int .i64 r.2) ∧ PV l 14 (X 6) (.int .i64 r.2) ∧ QX OwP l W (X 5) 12 13 N (r.1)
set_option maxRecDepth 100000 in
set_option maxHeartbeats 4000000 in
theorem floi_steps (G : World → Prop) (N : Nat) (x y b n c d m e : Nat) (al ah bl bh : P3) (sc f : Int) (r : Sp.R) (y0 y1 y19 y20 : Value) (Q : Exit → Act → World → Prop) (GC : Hid (∀ W : World, G W → W.cell? ⟨x, 0, none⟩ = some (.slice (some ⟨d, 0, none⟩) m e) ∧ W.cell? ⟨x, 1, none⟩ = some (.int .i64 bl.1) ∧ W.cell? ⟨x, 2, none⟩ = some (.int .i64 bl.2.1) ∧ W.cell? ⟨x, 3, none⟩ = some (.int .i64 bl.2.2) ∧ W.cell? ⟨x, 4, none⟩ = some (.int .i64 bh.1) ∧ W.cell? ⟨x, 5, none⟩ = some (.int .i64 bh.2.1) ∧ W.cell? ⟨x, 6, none⟩ = some (.int .i64 bh.2.2) ∧ W.cell? ⟨x, 7, none⟩ = some (.int .i64 sc) ∧ W.cell? ⟨x, 8, none⟩ = some (.func (.func 50) #[] #[]) ∧ W.cell? ⟨y, 0, none⟩ = some (.slice (some ⟨b, 0, none⟩) n c) ∧ W.cell? ⟨y, 1, none⟩ = some (.int .i64 al.1) ∧ W.cell? ⟨y, 2, none⟩ = some (.int .i64 al.2.1) ∧ W.cell? ⟨y, 3, none⟩ = some (.int .i64 al.2.2) ∧ W.cell? ⟨y, 4, none⟩ = some (.int .i64 ah.1) ∧ W.cell? ⟨y, 5, none⟩ = some (.int .i64 ah.2.1) ∧ W.cell? ⟨y, 6, none⟩ = some (.int .i64 ah.2.2))) (FC : Hid (∀ W, G W → Calls Try.prog 157 #[grv b n c al ah, grv d m e bl bh] W fun e w' => e = .returned (.int .i64 f) ∧ Below W.heap.size W w')) (KC : Hid (∀ W, Calls Try.prog 50 #[.int .i64 f, .int .i64 sc] W fun e w' => e = .returned (spr r) ∧ Below W.heap.size W w')) (GI : Hid (∀ W W' : World, Below N W W' → G W → G W')) :
    allOps (fun i o => ∀ (l : Array Bool) (A : Act) (W : World), floiI G N x y b n c d m e al ah bl bh sc f r y0 y1 y19 y20 l A W → l.getD i true = false → (∀ e ∈ o.after, Region.binds .any e = true → l.getD e.on false = true) → ∀ K' : Act → World → Prop, (∀ A' W', floiI G N x y b n c d m e al ah bl bh sc f r y0 y1 y19 y20 (l.setIfInBounds i true) A' W' → K' A' W') → if Region.wanted o (yielded floiOps A.tmps) = true then Oper.wp Try.prog o A W K' Q else K' (A.put o.dst undef) W) 0 floiOps.toList := by
  simp only [floiOps, allOps]
  refine ⟨?_, ?_, ?_, ?_, ?_, ?_, ?_, ?_, ?_, ?_, ?_, ?_, ?_, ?_, ?_, trivial⟩
  · rintro l A W ⟨hl, X, rfl, hN, g, F⟩ h1 hp K hK
    rw [floiT_eq]
    have g' := Lib.hid g
    have F' := Lib.hid F; clear F g
    have hN' := Lib.hid hN; clear hN; have hl' := Lib.hid hl; clear hl; have h1' := Lib.hid h1; clear h1; have hp' := Lib.hid hp; clear hp; have hK' := Lib.hid hK; clear hK
    go_simp
    have hK := hK'.out; have hN := hN'.out; have hl := hl'.out; have h1 := h1'.out
    obtain ⟨p0, p1, p2, p3, p4, p5, p6, p7, p8, p9, p10, p11, p14, qa0⟩ := F'.out
    have g := g'.out
    refine hK _ _ ⟨by simpa using hl, (upd X 8 (.pointer (some ⟨x, 8, none⟩))), rfl, hN, g, PV.made rfl, p1.k, p2.k, p3.k, p4.k, p5.k, p6.k, p7.k, p8.k, p9.k, p10.k, p11.k, p14.k, qa0.keep (by decide) (by decide) (fun _ _ h => h)⟩
  · rintro l A W ⟨hl, X, rfl, hN, g, F⟩ h1 hp K hK
    have e0 := F.1 (hp ⟨0, .data⟩ (by simp) rfl)
    obtain ⟨c0, c1, c2, c3, c4, c5, c6, v7, v8, d0, d1, d2, d3, d4, d5, d6⟩ := GC.out W g
    rw [floiT_eq]
    have g' := Lib.hid g
    have F' := Lib.hid F; clear F g
    have hN' := Lib.hid hN; clear hN; have hl' := Lib.hid hl; clear hl; have h1' := Lib.hid h1; clear h1; have hp' := Lib.hid hp; clear hp; have hK' := Lib.hid hK; clear hK
    go_simp
    have hK := hK'.out; have hN := hN'.out; have hl := hl'.out; have h1 := h1'.out
    obtain ⟨p0, p1, p2, p3, p4, p5, p6, p7, p8, p9, p10, p11, p14, qa0⟩ := F'.out
    have g := g'.out
    refine hK _ _ ⟨by simpa using hl, (upd (upd X 8 (.pointer (some ⟨x, 8, none⟩))) 9 (.func (.func 50) #[] #[])), rfl, hN, g, PV.made rfl, PV.made rfl, p2.k, p3.k, p4.k, p5.k, p6.k, p7.k, p8.k, p9.k, p10.k, p11.k, p14.k, qa0.keep (by decide) (by decide) (fun _ _ h => h)⟩
  · rintro l A W ⟨hl, X, rfl, hN, g, F⟩ h1 hp K hK
    obtain ⟨c0, c1, c2, c3, c4, c5, c6, v7, v8, d0, d1, d2, d3, d4, d5, d6⟩ := GC.out W g
    rw [floiT_eq]
    have g' := Lib.hid g
    have F' := Lib.hid F; clear F g
    have hN' := Lib.hid hN; clear hN; have hl' := Lib.hid hl; clear hl; have h1' := Lib.hid h1; clear h1; have hp' := Lib.hid hp; clear hp; have hK' := Lib.hid hK; clear hK
    go_simp
    have hK := hK'.out; have hN := hN'.out; have hl := hl'.out; have h1 := h1'.out
    obtain ⟨p0, p1, p2, p3, p4, p5, p6, p7, p8, p9, p10, p11, p14, qa0⟩ := F'.out
    have g := g'.out
    refine hK _ _ ⟨by simpa using hl, (upd X 10 (grv b n c al ah)), rfl, hN, g, p0.k, p1.k, PV.made rfl, p3.k, p4.k, p5.k, p6.k, p7.k, p8.k, p9.k, p10.k, p11.k, p14.k, qa0.keep (by decide) (by decide) (fun _ _ h => h)⟩
  · rintro l A W ⟨hl, X, rfl, hN, g, F⟩ h1 hp K hK
    rw [floiT_eq]
    have g' := Lib.hid g
    have F' := Lib.hid F; clear F g
    have hN' := Lib.hid hN; clear hN; have hl' := Lib.hid hl; clear hl; have h1' := Lib.hid h1; clear h1; have hp' := Lib.hid hp; clear hp; have hK' := Lib.hid hK; clear hK
    go_simp
    have hK := hK'.out; have hN := hN'.out; have hl := hl'.out; have h1 := h1'.out
    obtain ⟨p0, p1, p2, p3, p4, p5, p6, p7, p8, p9, p10, p11, p14, qa0⟩ := F'.out
    have g := g'.out
    refine hK _ _ ⟨by simpa using hl, (upd X 11 (.pointer (some ⟨x, 0, none⟩))), rfl, hN, g, p0.k, p1.k, p2.k, PV.made rfl, p4.k, p5.k, p6.k, p7.k, p8.k, p9.k, p10.k, p11.k, p14.k, qa0.keep (by decide) (by decide) (fun _ _ h => h)⟩
  · rintro l A W ⟨hl, X, rfl, hN, g, F⟩ h1 hp K hK
    have e3 := F.2.2.2.1 (hp ⟨3, .data⟩ (by simp) rfl)
    obtain ⟨c0, c1, c2, c3, c4, c5, c6, v7, v8, d0, d1, d2, d3, d4, d5, d6⟩ := GC.out W g
    rw [floiT_eq]
    have g' := Lib.hid g
    have F' := Lib.hid F; clear F g
    have hN' := Lib.hid hN; clear hN; have hl' := Lib.hid hl; clear hl; have h1' := Lib.hid h1; clear h1; have hp' := Lib.hid hp; clear hp; have hK' := Lib.hid hK; clear hK
    go_simp
    have hK := hK'.out; have hN := hN'.out; have hl := hl'.out; have h1 := h1'.out
    obtain ⟨p0, p1, p2, p3, p4, p5, p6, p7, p8, p9, p10, p11, p14, qa0⟩ := F'.out
    have g := g'.out
    refine hK _ _ ⟨by simpa using hl, (upd (upd X 11 (.pointer (some ⟨x, 0, none⟩))) 12 (grv d m e bl bh)), rfl, hN, g, p0.k, p1.k, p2.k, PV.made rfl, PV.made rfl, p5.k, p6.k, p7.k, p8.k, p9.k, p10.k, p11.k, p14.k, qa0.keep (by decide) (by decide) (fun _ _ h => h)⟩
  · rintro l A W ⟨hl, X, rfl, hN, g, F⟩ h1 hp K hK
    have e2 := F.2.2.1 (hp ⟨2, .data⟩ (by simp) rfl)
    have e4 := F.2.2.2.2.1 (hp ⟨4, .data⟩ (by simp) rfl)
    rw [floiT_eq]
    have g' := Lib.hid g
    have F' := Lib.hid F; clear F g
    have hN' := Lib.hid hN; clear hN; have hl' := Lib.hid hl; clear hl; have h1' := Lib.hid h1; clear h1; have hp' := Lib.hid hp; clear hp; have hK' := Lib.hid hK; clear hK
    go_simp
    go_at_call 157
    refine (FC.out W g'.out).mono ?_
    rintro e W1 ⟨rfl, hb⟩
    (try dsimp only)
    have hK := hK'.out; have hN := hN'.out; have hl := hl'.out; have h1 := h1'.out
    obtain ⟨p0, p1, p2, p3, p4, p5, p6, p7, p8, p9, p10, p11, p14, qa0⟩ := F'.out
    have g := g'.out
    refine hK _ _ ⟨by simpa using hl, (upd (upd (upd X 10 (grv b n c al ah)) 12 (grv d m e bl bh)) 13 (.int .i64 f)), rfl, Nat.le_trans hN hb.size, GI.out _ _ (hb.mono hN) g, p0.k, p1.k, PV.made rfl, p3.k, PV.made rfl, PV.made rfl, p6.k, p7.k, p8.k, p9.k, p10.k, p11.k, p14.k, qa0.keep (by decide) (by decide) (fun _ _ h => owp_below h hb)⟩
  · rintro l A W ⟨hl, X, rfl, hN, g, F⟩ h1 hp K hK
    rw [floiT_eq]
    have g' := Lib.hid g
    have F' := Lib.hid F; clear F g
    have hN' := Lib.hid hN; clear hN; have hl' := Lib.hid hl; clear hl; have h1' := Lib.hid h1; clear h1; have hp' := Lib.hid hp; clear hp; have hK' := Lib.hid hK; clear hK
    go_simp
    have hK := hK'.out; have hN := hN'.out; have hl := hl'.out; have h1 := h1'.out
    obtain ⟨p0, p1, p2, p3, p4, p5, p6, p7, p8, p9, p10, p11, p14, qa0⟩ := F'.out
    have g := g'.out
    refine hK _ _ ⟨by simpa using hl, (upd X 14 (.pointer (some ⟨x, 7, none⟩))), rfl, hN, g, p0.k, p1.k, p2.k, p3.k, p4.k, p5.k, PV.made rfl, p7.k, p8.k, p9.k, p10.k, p11.k, p14.k, qa0.keep (by decide) (by decide) (fun _ _ h => h)⟩
  · rintro l A W ⟨hl, X, rfl, hN, g, F⟩ h1 hp K hK
    have e6 := F.2.2.2.2.2.2.1 (hp ⟨6, .data⟩ (by simp) rfl)
    obtain ⟨c0, c1, c2, c3, c4, c5, c6, v7, v8, d0, d1, d2, d3, d4, d5, d6⟩ := GC.out W g
    rw [floiT_eq]
    have g' := Lib.hid g
    have F' := Lib.hid F; clear F g
    have hN' := Lib.hid hN; clear hN; have hl' := Lib.hid hl; clear hl; have h1' := Lib.hid h1; clear h1; have hp' := Lib.hid hp; clear hp; have hK' := Lib.hid hK; clear hK
    go_simp
    have hK := hK'.out; have hN := hN'.out; have hl := hl'.out; have h1 := h1'.out
    obtain ⟨p0, p1, p2, p3, p4, p5, p6, p7, p8, p9, p10, p11, p14, qa0⟩ := F'.out
    have g := g'.out
    refine hK _ _ ⟨by simpa using hl, (upd (upd X 14 (.pointer (some ⟨x, 7, none⟩))) 15 (.int .i64 sc)), rfl, hN, g, p0.k, p1.k, p2.k, p3.k, p4.k, p5.k, PV.made rfl, PV.made rfl, p8.k, p9.k, p10.k, p11.k, p14.k, qa0.keep (by decide) (by decide) (fun _ _ h => h)⟩
  · rintro l A W ⟨hl, X, rfl, hN, g, F⟩ h1 hp K hK
    have e1 := F.2.1 (hp ⟨1, .data⟩ (by simp) rfl)
    have e5 := F.2.2.2.2.2.1 (hp ⟨5, .data⟩ (by simp) rfl)
    have e7 := F.2.2.2.2.2.2.2.1 (hp ⟨7, .data⟩ (by simp) rfl)
    rw [floiT_eq]
    have g' := Lib.hid g
    have F' := Lib.hid F; clear F g
    have hN' := Lib.hid hN; clear hN; have hl' := Lib.hid hl; clear hl; have h1' := Lib.hid h1; clear h1; have hp' := Lib.hid hp; clear hp; have hK' := Lib.hid hK; clear hK
    go_simp
    go_at_call 50
    refine (KC.out W).mono ?_
    rintro e W1 ⟨rfl, hb⟩
    (try dsimp only)
    have hK := hK'.out; have hN := hN'.out; have hl := hl'.out; have h1 := h1'.out
    obtain ⟨p0, p1, p2, p3, p4, p5, p6, p7, p8, p9, p10, p11, p14, qa0⟩ := F'.out
    have g := g'.out
    refine hK _ _ ⟨by simpa using hl, (upd (upd (upd (upd X 9 (.func (.func 50) #[] #[])) 13 (.int .i64 f)) 15 (.int .i64 sc)) 16 (spr r)), rfl, Nat.le_trans hN hb.size, GI.out _ _ (hb.mono hN) g, p0.k, PV.made rfl, p2.k, p3.k, p4.k, PV.made rfl, p6.k, PV.made rfl, PV.made rfl, p9.k, p10.k, p11.k, p14.k, qa0.keep (by decide) (by decide) (fun _ _ h => owp_below h hb)⟩
  · rintro l A W ⟨hl, X, rfl, hN, g, F⟩ h1 hp K hK
    have e8 := F.2.2.2.2.2.2.2.2.1 (hp ⟨8, .data⟩ (by simp) rfl)
    rw [floiT_eq]
    have g' := Lib.hid g
    have F' := Lib.hid F; clear F g
    have hN' := Lib.hid hN; clear hN; have hl' := Lib.hid hl; clear hl; have h1' := Lib.hid h1; clear h1; have hp' := Lib.hid hp; clear hp; have hK' := Lib.hid hK; clear hK
    go_simp
    have hK := hK'.out; have hN := hN'.out; have hl := hl'.out; have h1 := h1'.out
    obtain ⟨p0, p1, p2, p3, p4, p5, p6, p7, p8, p9, p10, p11, p14, qa0⟩ := F'.out
    have g := g'.out
    refine hK _ _ ⟨by simpa using hl, (upd (upd X 16 (spr r)) 7 (spr r)), rfl, hN, g, p0.k, p1.k, p2.k, p3.k, p4.k, p5.k, p6.k, p7.k, PV.made rfl, PV.made rfl, p10.k, p11.k, p14.k, qa0.keep (by decide) (by decide) (fun _ _ h => h)⟩
  · rintro l A W ⟨hl, X, rfl, hN, g, F⟩ h1 hp K hK
    have e9 := F.2.2.2.2.2.2.2.2.2.1 (hp ⟨9, .data⟩ (by simp) rfl)
    rw [floiT_eq]
    have g' := Lib.hid g
    have F' := Lib.hid F; clear F g
    have hN' := Lib.hid hN; clear hN; have hl' := Lib.hid hl; clear hl; have h1' := Lib.hid h1; clear h1; have hp' := Lib.hid hp; clear hp; have hK' := Lib.hid hK; clear hK
    go_simp
    have hK := hK'.out; have hN := hN'.out; have hl := hl'.out; have h1 := h1'.out
    obtain ⟨p0, p1, p2, p3, p4, p5, p6, p7, p8, p9, p10, p11, p14, qa0⟩ := F'.out
    have g := g'.out
    refine hK _ _ ⟨by simpa using hl, (upd (upd X 7 (spr r)) 17 (.agg #[.int .i64 r.1.1, .int .i64 r.1.2])), rfl, hN, g, p0.k, p1.k, p2.k, p3.k, p4.k, p5.k, p6.k, p7.k, p8.k, PV.made rfl, PV.made rfl, p11.k, p14.k, qa0.keep (by decide) (by decide) (fun _ _ h => h)⟩
  · rintro l A W ⟨hl, X, rfl, hN, g, F⟩ h1 hp K hK
    have e9 := F.2.2.2.2.2.2.2.2.2.1 (hp ⟨9, .data⟩ (by simp) rfl)
    rw [floiT_eq]
    have g' := Lib.hid g
    have F' := Lib.hid F; clear F g
    have hN' := Lib.hid hN; clear hN; have hl' := Lib.hid hl; clear hl; have h1' := Lib.hid h1; clear h1; have hp' := Lib.hid hp; clear hp; have hK' := Lib.hid hK; clear hK
    go_simp
    have hK := hK'.out; have hN := hN'.out; have hl := hl'.out; have h1 := h1'.out
    obtain ⟨p0, p1, p2, p3, p4, p5, p6, p7, p8, p9, p10, p11, p14, qa0⟩ := F'.out
    have g := g'.out
    refine hK _ _ ⟨by simpa using hl, (upd (upd X 7 (spr r)) 18 (.int .i64 r.2)), rfl, hN, g, p0.k, p1.k, p2.k, p3.k, p4.k, p5.k, p6.k, p7.k, p8.k, PV.made rfl, p10.k, PV.made rfl, p14.k, qa0.keep (by decide) (by decide) (fun _ _ h => h)⟩
  · rintro l A W ⟨hl, X, rfl, hN, g, F⟩ h1 hp K hK
    rw [floiT_eq]
    have g' := Lib.hid g
    have F' := Lib.hid F; clear F g
    have hN' := Lib.hid hN; clear hN; have hl' := Lib.hid hl; clear hl; have h1' := Lib.hid h1; clear h1; have hp' := Lib.hid hp; clear hp; have hK' := Lib.hid hK; clear hK
    go_simp
    have hK := hK'.out; have hN := hN'.out; have hl := hl'.out; have h1 := h1'.out
    obtain ⟨p0, p1, p2, p3, p4, p5, p6, p7, p8, p9, p10, p11, p14, qa0⟩ := F'.out
    have g := g'.out
    refine hK _ _ ⟨by simpa using hl, (upd X 5 (.pointer (some ⟨W.heap.size, 0, none⟩))), rfl, (by simp; omega), GI.out _ _ (((Below.refl _ W).alloc (Nat.le_refl _) _).mono hN) g, p0.k, p1.k, p2.k, p3.k, p4.k, p5.k, p6.k, p7.k, p8.k, p9.k, p10.k, p11.k, p14.k, qa0.made (by decide) (by rw [hl]; decide) h1 hN (owp_new W (0, 0) _)⟩
  · rintro l A W ⟨hl, X, rfl, hN, g, F⟩ h1 hp K hK
    have la := hp ⟨12, .data⟩ (by simp) rfl
    have e10 := F.2.2.2.2.2.2.2.2.2.2.1 (hp ⟨10, .data⟩ (by simp) rfl)
    obtain ⟨b', v', e2, hb', ow, _⟩ := F.2.2.2.2.2.2.2.2.2.2.2.2.2.2 la
    obtain ⟨o0, o1, o2, o3, o4⟩ := id ow
    rw [floiT_eq]
    have g' := Lib.hid g
    have F' := Lib.hid F; clear F g
    have hN' := Lib.hid hN; clear hN; have hl' := Lib.hid hl; clear hl; have h1' := Lib.hid h1; clear h1; have hp' := Lib.hid hp; clear hp; have hK' := Lib.hid hK; clear hK
    have la' := Lib.hid la; clear la; have hb'' := Lib.hid hb'; clear hb'; have ow' := Lib.hid ow; clear ow
    go_simp
    have hK := hK'.out; have hN := hN'.out; have hl := hl'.out; have h1 := h1'.out
    obtain ⟨p0, p1, p2, p3, p4, p5, p6, p7, p8, p9, p10, p11, p14, qa0⟩ := F'.out
    have g := g'.out
    have la := la'.out; have hb' := hb''.out; have ow := ow'.out
    refine hK _ _ ⟨by simpa using hl, (upd (upd X 17 (.agg #[.int .i64 r.1.1, .int .i64 r.1.2])) 5 (.pointer (some ⟨b', 0, none⟩))), rfl, (by simpa using hN), GI.out _ _ (below_set2 _ _ hb') g, p0.k, p1.k, p2.k, p3.k, p4.k, p5.k, p6.k, p7.k, p8.k, p9.k, PV.made rfl, p11.k, p14.k, QX.put (by decide) la rfl hb' (owp_put ow r.1)⟩
  · rintro l A W ⟨hl, X, rfl, hN, g, F⟩ h1 hp K hK
    have e11 := F.2.2.2.2.2.2.2.2.2.2.2.1 (hp ⟨11, .data⟩ (by simp) rfl)
    rw [floiT_eq]
    have g' := Lib.hid g
    have F' := Lib.hid F; clear F g
    have hN' := Lib.hid hN; clear hN; have hl' := Lib.hid hl; clear hl; have h1' := Lib.hid h1; clear h1; have hp' := Lib.hid hp; clear hp; have hK' := Lib.hid hK; clear hK
    go_simp
    have hK := hK'.out; have hN := hN'.out; have hl := hl'.out; have h1 := h1'.out
    obtain ⟨p0, p1, p2, p3, p4, p5, p6, p7, p8, p9, p10, p11, p14, qa0⟩ := F'.out
    have g := g'.out
    refine hK _ _ ⟨by simpa using hl, (upd (upd X 18 (.int .i64 r.2)) 6 (.int .i64 r.2)), rfl, hN, g, p0.k, p1.k, p2.k, p3.k, p4.k, p5.k, p6.k, p7.k, p8.k, p9.k, p10.k, PV.made rfl, PV.made rfl, qa0.keep (by decide) (by decide) (fun _ _ h => h)⟩
set_option maxRecDepth 100000 in
set_option maxHeartbeats 4000000 in
theorem floi_reg (G : World → Prop) (N : Nat) (x y b n c d m e : Nat) (al ah bl bh : P3) (sc f : Int) (r : Sp.R) {y0 y1 y19 y20 x5 x6 x7 x8 x9 x10 x11 x12 x13 x14 x15 x16 x17 x18 : Value} {W : World} {Q : Exit → Act → World → Prop} (GC : Hid (∀ W : World, G W → W.cell? ⟨x, 0, none⟩ = some (.slice (some ⟨d, 0, none⟩) m e) ∧ W.cell? ⟨x, 1, none⟩ = some (.int .i64 bl.1) ∧ W.cell? ⟨x, 2, none⟩ = some (.int .i64 bl.2.1) ∧ W.cell? ⟨x, 3, none⟩ = some (.int .i64 bl.2.2) ∧ W.cell? ⟨x, 4, none⟩ = some (.int .i64 bh.1) ∧ W.cell? ⟨x, 5, none⟩ = some (.int .i64 bh.2.1) ∧ W.cell? ⟨x, 6, none⟩ = some (.int .i64 bh.2.2) ∧ W.cell? ⟨x, 7, none⟩ = some (.int .i64 sc) ∧ W.cell? ⟨x, 8, none⟩ = some (.func (.func 50) #[] #[]) ∧ W.cell? ⟨y, 0, none⟩ = some (.slice (some ⟨b, 0, none⟩) n c) ∧ W.cell? ⟨y, 1, none⟩ = some (.int .i64 al.1) ∧ W.cell? ⟨y, 2, none⟩ = some (.int .i64 al.2.1) ∧ W.cell? ⟨y, 3, none⟩ = some (.int .i64 al.2.2) ∧ W.cell? ⟨y, 4, none⟩ = some (.int .i64 ah.1) ∧ W.cell? ⟨y, 5, none⟩ = some (.int .i64 ah.2.1) ∧ W.cell? ⟨y, 6, none⟩ = some (.int .i64 ah.2.2))) (FC : Hid (∀ W, G W → Calls Try.prog 157 #[grv b n c al ah, grv d m e bl bh] W fun e w' => e = .returned (.int .i64 f) ∧ Below W.heap.size W w')) (KC : Hid (∀ W, Calls Try.prog 50 #[.int .i64 f, .int .i64 sc] W fun e w' => e = .returned (spr r) ∧ Below W.heap.size W w')) (GI : Hid (∀ W W' : World, Below N W W' → G W → G W')) (hN : N ≤ W.heap.size) (g0 : G W.drew)
    (hK : ∀ (x6 x7 x8 x9 x10 x11 x12 x13 x14 x15 x16 x17 x18 : Value) (b0 : Nat) (W' : World), N ≤ W'.heap.size → G W' → N ≤ b0 → OwP W' b0 (r.1) → Q .normal { tmps := #[y0, y1, .pointer (some ⟨x, 0, none⟩), .pointer (some ⟨y, 0, none⟩), .int .i64 0, .pointer (some ⟨b0, 0, none⟩), x6, x7, x8, x9, x10, x11, x12, x13, x14, x15, x16, x17, x18, y19, y20], defers := [] } W') :
    Code.wp Try.prog (.region 1 floiOps true) Q { tmps := #[y0, y1, .pointer (some ⟨x, 0, none⟩), .pointer (some ⟨y, 0, none⟩), .int .i64 0, x5, x6, x7, x8, x9, x10, x11, x12, x13, x14, x15, x16, x17, x18, y19, y20], defers := [] } W := by
  refine wp_region_inv (floiI G N x y b n c d m e al ah bl bh sc f r y0 y1 y19 y20) (by kernel_rfl) ?_ (floi_steps G N x y b n c d m e al ah bl bh sc f r y0 y1 y19 y20 Q GC FC KC GI) ?_
  · exact ⟨by simp [floiOps], fun i => (#[undef, undef, undef, undef, undef, x5, x6, x7, x8, x9, x10, x11, x12, x13, x14, x15, x16, x17, x18, undef, undef] : Array Value).getD i undef, rfl, hN, g0, PV.nought, PV.nought, PV.nought, PV.nought, PV.nought, PV.nought, PV.nought, PV.nought, PV.nought, PV.nought, PV.nought, PV.nought, PV.nought, QX.nought⟩
  · rintro l A W ⟨hl, X, rfl, hN, g, p0, p1, p2, p3, p4, p5, p6, p7, p8, p9, p10, p11, p14, qa0⟩ hr
    unfold floiOps at hr
    have l0 := ready_end hr 0 (by rw [hl]; decide) rfl (fun e he hbn => by
      simp at he
      (try (repeat (rcases he with rfl | he; · first | assumption | exact absurd hbn (by decide))))
      (try (first | exact he.elim | (subst he; first | assumption | exact absurd hbn (by decide)))))
    have l1 := ready_end hr 1 (by rw [hl]; decide) rfl (fun e he hbn => by
      simp at he
      (try (repeat (rcases he with rfl | he; · first | assumption | exact absurd hbn (by decide))))
      (try (first | exact he.elim | (subst he; first | assumption | exact absurd hbn (by decide)))))
    have l2 := ready_end hr 2 (by rw [hl]; decide) rfl (fun e he hbn => by
      simp at he
      (try (repeat (rcases he with rfl | he; · first | assumption | exact absurd hbn (by decide))))
      (try (first | exact he.elim | (subst he; first | assumption | exact absurd hbn (by decide)))))
    have l3 := ready_end hr 3 (by rw [hl]; decide) rfl (fun e he hbn => by
      simp at he
      (try (repeat (rcases he with rfl | he; · first | assumption | exact absurd hbn (by decide))))
      (try (first | exact he.elim | (subst he; first | assumption | exact absurd hbn (by decide)))))
    have l4 := ready_end hr 4 (by rw [hl]; decide) rfl (fun e he hbn => by
      simp at he
      (try (repeat (rcases he with rfl | he; · first | assumption | exact absurd hbn (by decide))))
      (try (first | exact he.elim | (subst he; first | assumption | exact absurd hbn (by decide)))))
    have l5 := ready_end hr 5 (by rw [hl]; decide) rfl (fun e he hbn => by
      simp at he
      (try (repeat (rcases he with rfl | he; · first | assumption | exact absurd hbn (by decide))))
      (try (first | exact he.elim | (subst he; first | assumption | exact absurd hbn (by decide)))))
    have l6 := ready_end hr 6 (by rw [hl]; decide) rfl (fun e he hbn => by
      simp at he
      (try (repeat (rcases he with rfl | he; · first | assumption | exact absurd hbn (by decide))))
      (try (first | exact he.elim | (subst he; first | assumption | exact absurd hbn (by decide)))))
    have l7 := ready_end hr 7 (by rw [hl]; decide) rfl (fun e he hbn => by
      simp at he
      (try (repeat (rcases he with rfl | he; · first | assumption | exact absurd hbn (by decide))))
      (try (first | exact he.elim | (subst he; first | assumption | exact absurd hbn (by decide)))))
    have l8 := ready_end hr 8 (by rw [hl]; decide) rfl (fun e he hbn => by
      simp at he
      (try (repeat (rcases he with rfl | he; · first | assumption | exact absurd hbn (by decide))))
      (try (first | exact he.elim | (subst he; first | assumption | exact absurd hbn (by decide)))))
    have l9 := ready_end hr 9 (by rw [hl]; decide) rfl (fun e he hbn => by
      simp at he
      (try (repeat (rcases he with rfl | he; · first | assumption | exact absurd hbn (by decide))))
      (try (first | exact he.elim | (subst he; first | assumption | exact absurd hbn (by decide)))))
    have l10 := ready_end hr 10 (by rw [hl]; decide) rfl (fun e he hbn => by
      simp at he
      (try (repeat (rcases he with rfl | he; · first | assumption | exact absurd hbn (by decide))))
      (try (first | exact he.elim | (subst he; first | assumption | exact absurd hbn (by decide)))))
    have l11 := ready_end hr 11 (by rw [hl]; decide) rfl (fun e he hbn => by
      simp at he
      (try (repeat (rcases he with rfl | he; · first | assumption | exact absurd hbn (by decide))))
      (try (first | exact he.elim | (subst he; first | assumption | exact absurd hbn (by decide)))))
    have l12 := ready_end hr 12 (by rw [hl]; decide) rfl (fun e he hbn => by
      simp at he
      (try (repeat (rcases he with rfl | he; · first | assumption | exact absurd hbn (by decide))))
      (try (first | exact he.elim | (subst he; first | assumption | exact absurd hbn (by decide)))))
    have l13 := ready_end hr 13 (by rw [hl]; decide) rfl (fun e he hbn => by
      simp at he
      (try (repeat (rcases he with rfl | he; · first | assumption | exact absurd hbn (by decide))))
      (try (first | exact he.elim | (subst he; first | assumption | exact absurd hbn (by decide)))))
    have l14 := ready_end hr 14 (by rw [hl]; decide) rfl (fun e he hbn => by
      simp at he
      (try (repeat (rcases he with rfl | he; · first | assumption | exact absurd hbn (by decide))))
      (try (first | exact he.elim | (subst he; first | assumption | exact absurd hbn (by decide)))))
    obtain ⟨b0, v0, e0x, n0, o0, t0⟩ := qa0.2 l12
    obtain rfl := t0 l13
    have z := hK (X 6) (X 7) (X 8) (X 9) (X 10) (X 11) (X 12) (X 13) (X 14) (X 15) (X 16) (X 17) (X 18) b0 W hN g n0 o0
    rw [← e0x] at z
    exact z
def fhiiOps : Array Oper := #[{ dst := some 8, op := Op.fieldAddr 132 (Operand.tmp 2) 2, type := 0, pos := "view.go:32", after := #[], guard := none }, { dst := some 9, op := Op.load 128 (Operand.tmp 8), type := 128, pos := "view.go:32", after := #[{ on := 0, ground := Ground.data }], guard := none }, { dst := some 10, op := Op.load 101 (Operand.tmp 3), type := 101, pos := "view.go:32", after := #[], guard := none }, { dst := some 11, op := Op.fieldAddr 132 (Operand.tmp 2) 0, type := 0, pos := "view.go:32", after := #[], guard := none }, { dst := some 12, op := Op.load 101 (Operand.tmp 11), type := 101, pos := "view.go:32", after := #[{ on := 3, ground := Ground.data }], guard := none }, { dst := some 13, op := Op.call { callee := Callee.value (Operand.func 155), args := #[Operand.tmp 10, Operand.tmp 12], argTypes := #[101, 101] }, type := 3, pos := "view.go:32", after := #[{ on := 2, ground := Ground.data }, { on := 4, ground := Ground.data }], guard := none }, { dst := some 14, op := Op.fieldAddr 132 (Operand.tmp 2) 1, type := 0, pos := "view.go:32", after := #[], guard := none }, { dst := some 15, op := Op.load 3 (Operand.tmp 14), type := 3, pos := "view.go:32", after := #[{ on := 6, ground := Ground.data }], guard := none }, { dst := some 16, op := Op.call { callee := Callee.value (Operand.tmp 9), args := #[Operand.tmp 13, Operand.tmp 15], argTypes := #[3, 3] }, type := 36, pos := "view.go:32", after := #[{ on := 1, ground := Ground.data }, { on := 5, ground := Ground.data }, { on := 7, ground := Ground.data }, { on := 5, ground := Ground.chain }], guard := none }, { dst := some 7, op := Op.move (Operand.tmp 16), type := 36, pos := "view.go:32", after := #[{ on := 8, ground := Ground.data }], guard := none }, { dst := some 17, op := Op.extract (Operand.tmp 7) 0, type := 35, pos := "view.go:32", after := #[{ on := 9, ground := Ground.data }], guard := none }, { dst := some 18, op := Op.extract (Operand.tmp 7) 1, type := 27, pos := "view.go:32", after := #[{ on := 9, ground := Ground.data }, { on := 13, ground := Ground.gcOnly Departure.lateStores }], guard := none }, { dst := some 5, op := Op.alloc 35, type := 0, pos := "view.go:32", after := #[], guard := none }, { dst := none, op := Op.store 35 (Operand.tmp 5) (Operand.tmp 17), type := 0, pos := "view.go:32", after := #[{ on := 12, ground := Ground.data }, { on := 10, ground := Ground.data }, { on := 8, ground := Ground.chain }, { on := 0, ground := Ground.phase }, { on := 1, ground := Ground.phase }, { on := 2, ground := Ground.phase }, { on := 3, ground := Ground.phase }, { on := 4, ground := Ground.phase }, { on := 5, ground := Ground.phase }, { on := 6, ground := Ground.phase }, { on := 7, ground := Ground.phase }, { on := 8, ground := Ground.phase }, { on := 9, ground := Ground.phase }, { on := 10, ground := Ground.phase }, { on := 11, ground := Ground.textOnly Departure.lateStores }, { on := 12, ground := Ground.phase }], guard := none }, { dst := some 6, op := Op.assign (Operand.tmp 18), type := 27, pos := "view.go:32", after := #[{ on := 11, ground := Ground.data }, { on := 13, ground := Ground.chain }, { on := 0, ground := Ground.phase }, { on := 1, ground := Ground.phase }, { on := 2, ground := Ground.phase }, { on := 3, ground := Ground.phase }, { on := 4, ground := Ground.phase }, { on := 5, ground := Ground.phase }, { on := 6, ground := Ground.phase }, { on := 7, ground := Ground.phase }, { on := 8, ground := Ground.phase }, { on := 9, ground := Ground.phase }, { on := 10, ground := Ground.phase }, { on := 11, ground := Ground.phase }, { on := 12, ground := Ground.phase }, { on := 13, ground := Ground.phase }], guard := none }]
def fhiiT (x : Nat) (y : Nat) (y0 y1 y19 y20 : Value) (X : Nat → Value) : Array Value := #[y0, y1, .pointer (some ⟨x, 0, none⟩), .pointer (some ⟨y, 0, none⟩), .int .i64 0, X 5, X 6, X 7, X 8, X 9, X 10, X 11, X 12, X 13, X 14, X 15, X 16, X 17, X 18, y19, y20]
theorem fhiiT_eq (x : Nat) (y : Nat) (y0 y1 y19 y20 : Value) (X : Nat → Value) : fhiiT x y y0 y1 y19 y20 X = #[y0, y1, .pointer (some ⟨x, 0, none⟩), .pointer (some ⟨y, 0, none⟩), .int .i64 0, X 5, X 6, X 7, X 8, X 9, X 10, X 11, X 12, X 13, X 14, X 15, X 16, X 17, X 18, y19, y20] := rfl
def fhiiI (G : World → Prop) (N : Nat) (x y b n c d m e : Nat) (al ah bl bh : P3) (sc f : Int) (r : Sp.R) (y0 y1 y19 y20 : Value) (l : Array Bool) (A : Act) (W : World) : Prop :=
  l.size = 15 ∧ ∃ X : Nat → Value, A = { tmps := fhiiT x y y0 y1 y19 y20 X, defers := [] } ∧ N ≤ W.heap.size ∧ G W ∧ PV l 0 (X 8) (.pointer (some ⟨x, 8, none⟩)) ∧ PV l 1 (X 9) (.func (.func 50) #[] #[]) ∧ PV l 2 (X 10) (grv b n c al ah) ∧ PV l 3 (X 11) (.pointer (some ⟨x, 0, none⟩)) ∧ PV l 4 (X 12) (grv d m e bl bh) ∧ PV l 5 (X 13) (.int .i64 f) ∧ PV l 6 (X 14) (.pointer (some ⟨x, 7, none⟩)) ∧ PV l 7 (X 15) (.int .i64 sc) ∧ PV l 8 (X 16) (spr r) ∧ PV l 9 (X 7) (spr r) ∧ PV l 10 (X 17) (.agg #[.int .i64 r.1.1, .int .i64 r.1.2]) ∧ PV l 11 (X 18) (.int .i64 r.2) ∧ PV l 14 (X 6) (.int .i64 r.2) ∧ QX OwP l W (X 5) 12 13 N (r.1)
set_option maxRecDepth 100000 in
set_option maxHeartbeats 4000000 in
theorem fhii_steps (G : World → Prop) (N : Nat) (x y b n c d m e : Nat) (al ah bl bh : P3) (sc f : Int) (r : Sp.R) (y0 y1 y19 y20 : Value) (Q : Exit → Act → World → Prop) (GC : Hid (∀ W : World, G W → W.cell? ⟨x, 0, none⟩ = some (.slice (some ⟨d, 0, none⟩) m e) ∧ W.cell? ⟨x, 1, none⟩ = some (.int .i64 bl.1) ∧ W.cell? ⟨x, 2, none⟩ = some (.int .i64 bl.2.1) ∧ W.cell? ⟨x, 3, none⟩ = some (.int .i64 bl.2.2) ∧ W.cell? ⟨x, 4, none⟩ = some (.int .i64 bh.1) ∧ W.cell? ⟨x, 5, none⟩ = some (.int .i64 bh.2.1) ∧ W.cell? ⟨x, 6, none⟩ = some (.int .i64 bh.2.2) ∧ W.cell? ⟨x, 7, none⟩ = some (.int .i64 sc) ∧ W.cell? ⟨x, 8, none⟩ = some (.func (.func 50) #[] #[]) ∧ W.cell? ⟨y, 0, none⟩ = some (.slice (some ⟨b, 0, none⟩) n c) ∧ W.cell? ⟨y, 1, none⟩ = some (.int .i64 al.1) ∧ W.cell? ⟨y, 2, none⟩ = some (.int .i64 al.2.1) ∧ W.cell? ⟨y, 3, none⟩ = some (.int .i64 al.2.2) ∧ W.cell? ⟨y, 4, none⟩ = some (.int .i64 ah.1) ∧ W.cell? ⟨y, 5, none⟩ = some (.int .i64 ah.2.1) ∧ W.cell? ⟨y, 6, none⟩ = some (.int .i64 ah.2.2))) (FC : Hid (∀ W, G W → Calls Try.prog 155 #[grv b n c al ah, grv d m e bl bh] W fun e w' => e = .returned (.int .i64 f) ∧ Below W.heap.size W w')) (KC : Hid (∀ W, Calls Try.prog 50 #[.int .i64 f, .int .i64 sc] W fun e w' => e = .returned (spr r) ∧ Below W.heap.size W w')) (GI : Hid (∀ W W' : World, Below N W W' → G W → G W')) :
    allOps (fun i o => ∀ (l : Array Bool) (A : Act) (W : World), fhiiI G N x y b n c d m e al ah bl bh sc f r y0 y1 y19 y20 l A W → l.getD i true = false → (∀ e ∈ o.after, Region.binds .any e = true → l.getD e.on false = true) → ∀ K' : Act → World → Prop, (∀ A' W', fhiiI G N x y b n c d m e al ah bl bh sc f r y0 y1 y19 y20 (l.setIfInBounds i true) A' W' → K' A' W') → if Region.wanted o (yielded fhiiOps A.tmps) = true then Oper.wp Try.prog o A W K' Q else K' (A.put o.dst undef) W) 0 fhiiOps.toList := by
  simp only [fhiiOps, allOps]
  refine ⟨?_, ?_, ?_, ?_, ?_, ?_, ?_, ?_, ?_, ?_, ?_, ?_, ?_, ?_, ?_, trivial⟩
  · rintro l A W ⟨hl, X, rfl, hN, g, F⟩ h1 hp K hK
    rw [fhiiT_eq]
    have g' := Lib.hid g
    have F' := Lib.hid F; clear F g
    have hN' := Lib.hid hN; clear hN; have hl' := Lib.hid hl; clear hl; have h1' := Lib.hid h1; clear h1; have hp' := Lib.hid hp; clear hp; have hK' := Lib.hid hK; clear hK
    go_simp
    have hK := hK'.out; have hN := hN'.out; have hl := hl'.out; have h1 := h1'.out
    obtain ⟨p0, p1, p2, p3, p4, p5, p6, p7, p8, p9, p10, p11, p14, qa0⟩ := F'.out
    have g := g'.out
    refine hK _ _ ⟨by simpa using hl, (upd X 8 (.pointer (some ⟨x, 8, none⟩))), rfl, hN, g, PV.made rfl, p1.k, p2.k, p3.k, p4.k, p5.k, p6.k, p7.k, p8.k, p9.k, p10.k, p11.k, p14.k, qa0.keep (by decide) (by decide) (fun _ _ h => h)⟩
  · rintro l A W ⟨hl, X, rfl, hN, g, F⟩ h1 hp K hK
    have e0 := F.1 (hp ⟨0, .data⟩ (by simp) rfl)
    obtain ⟨c0, c1, c2, c3, c4, c5, c6, v7, v8, d0, d1, d2, d3, d4, d5, d6⟩ := GC.out W g
    rw [fhiiT_eq]
    have g' := Lib.hid g
    have F' := Lib.hid F; clear F g
    have hN' := Lib.hid hN; clear hN; have hl' := Lib.hid hl; clear hl; have h1' := Lib.hid h1; clear h1; have hp' := Lib.hid hp; clear hp; have hK' := Lib.hid hK; clear hK
    go_simp
    have hK := hK'.out; have hN := hN'.out; have hl := hl'.out; have h1 := h1'.out
    obtain ⟨p0, p1, p2, p3, p4, p5, p6, p7, p8, p9, p10, p11, p14, qa0⟩ := F'.out
    have g := g'.out
    refine hK _ _ ⟨by simpa using hl, (upd (upd X 8 (.pointer (some ⟨x, 8, none⟩))) 9 (.func (.func 50) #[] #[])), rfl, hN, g, PV.made rfl, PV.made rfl, p2.k, p3.k, p4.k, p5.k, p6.k, p7.k, p8.k, p9.k, p10.k, p11.k, p14.k, qa0.keep (by decide) (by decide) (fun _ _ h => h)⟩
  · rintro l A W ⟨hl, X, rfl, hN, g, F⟩ h1 hp K hK
    obtain ⟨c0, c1, c2, c3, c4, c5, c6, v7, v8, d0, d1, d2, d3, d4, d5, d6⟩ := GC.out W g
    rw [fhiiT_eq]
    have g' := Lib.hid g
    have F' := Lib.hid F; clear F g
    have hN' := Lib.hid hN; clear hN; have hl' := Lib.hid hl; clear hl; have h1' := Lib.hid h1; clear h1; have hp' := Lib.hid hp; clear hp; have hK' := Lib.hid hK; clear hK
    go_simp
    have hK := hK'.out; have hN := hN'.out; have hl := hl'.out; have h1 := h1'.out
    obtain ⟨p0, p1, p2, p3, p4, p5, p6, p7, p8, p9, p10, p11, p14, qa0⟩ := F'.out
    have g := g'.out
    refine hK _ _ ⟨by simpa using hl, (upd X 10 (grv b n c al ah)), rfl, hN, g, p0.k, p1.k, PV.made rfl, p3.k, p4.k, p5.k, p6.k, p7.k, p8.k, p9.k, p10.k, p11.k, p14.k, qa0.keep (by decide) (by decide) (fun _ _ h => h)⟩
  · rintro l A W ⟨hl, X, rfl, hN, g, F⟩ h1 hp K hK
    rw [fhiiT_eq]
    have g' := Lib.hid g
    have F' := Lib.hid F; clear F g
    have hN' := Lib.hid hN; clear hN; have hl' := Lib.hid hl; clear hl; have h1' := Lib.hid h1; clear h1; have hp' := Lib.hid hp; clear hp; have hK' := Lib.hid hK; clear hK
    go_simp
    have hK := hK'.out; have hN := hN'.out; have hl := hl'.out; have h1 := h1'.out
    obtain ⟨p0, p1, p2, p3, p4, p5, p6, p7, p8, p9, p10, p11, p14, qa0⟩ := F'.out
    have g := g'.out
    refine hK _ _ ⟨by simpa using hl, (upd X 11 (.pointer (some ⟨x, 0, none⟩))), rfl, hN, g, p0.k, p1.k, p2.k, PV.made rfl, p4.k, p5.k, p6.k, p7.k, p8.k, p9.k, p10.k, p11.k, p14.k, qa0.keep (by decide) (by decide) (fun _ _ h => h)⟩
  · rintro l A W ⟨hl, X, rfl, hN, g, F⟩ h1 hp K hK
    have e3 := F.2.2.2.1 (hp ⟨3, .data⟩ (by simp) rfl)
    obtain ⟨c0, c1, c2, c3, c4, c5, c6, v7, v8, d0, d1, d2, d3, d4, d5, d6⟩ := GC.out W g
    rw [fhiiT_eq]
    have g' := Lib.hid g
    have F' := Lib.hid F; clear F g
    have hN' := Lib.hid hN; clear hN; have hl' := Lib.hid hl; clear hl; have h1' := Lib.hid h1; clear h1; have hp' := Lib.hid hp; clear hp; have hK' := Lib.hid hK; clear hK
    go_simp
    have hK := hK'.out; have hN := hN'.out; have hl := hl'.out; have h1 := h1'.out
    obtain ⟨p0, p1, p2, p3, p4, p5, p6, p7, p8, p9, p10, p11, p14, qa0⟩ := F'.out
    have g := g'.out
    refine hK _ _ ⟨by simpa using hl, (upd (upd X 11 (.pointer (some ⟨x, 0, none⟩))) 12 (grv d m e bl bh)), rfl, hN, g, p0.k, p1.k, p2.k, PV.made rfl, PV.made rfl, p5.k, p6.k, p7.k, p8.k, p9.k, p10.k, p11.k, p14.k, qa0.keep (by decide) (by decide) (fun _ _ h => h)⟩
  · rintro l A W ⟨hl, X, rfl, hN, g, F⟩ h1 hp K hK
    have e2 := F.2.2.1 (hp ⟨2, .data⟩ (by simp) rfl)
    have e4 := F.2.2.2.2.1 (hp ⟨4, .data⟩ (by simp) rfl)
    rw [fhiiT_eq]
    have g' := Lib.hid g
    have F' := Lib.hid F; clear F g
    have hN' := Lib.hid hN; clear hN; have hl' := Lib.hid hl; clear hl; have h1' := Lib.hid h1; clear h1; have hp' := Lib.hid hp; clear hp; have hK' := Lib.hid hK; clear hK
    go_simp
    go_at_call 155
    refine (FC.out W g'.out).mono ?_
    rintro e W1 ⟨rfl, hb⟩
    (try dsimp only)
    have hK := hK'.out; have hN := hN'.out; have hl := hl'.out; have h1 := h1'.out
    obtain ⟨p0, p1, p2, p3, p4, p5, p6, p7, p8, p9, p10, p11, p14, qa0⟩ := F'.out
    have g := g'.out
    refine hK _ _ ⟨by simpa using hl, (upd (upd (upd X 10 (grv b n c al ah)) 12 (grv d m e bl bh)) 13 (.int .i64 f)), rfl, Nat.le_trans hN hb.size, GI.out _ _ (hb.mono hN) g, p0.k, p1.k, PV.made rfl, p3.k, PV.made rfl, PV.made rfl, p6.k, p7.k, p8.k, p9.k, p10.k, p11.k, p14.k, qa0.keep (by decide) (by decide) (fun _ _ h => owp_below h hb)⟩
  · rintro l A W ⟨hl, X, rfl, hN, g, F⟩ h1 hp K hK
    rw [fhiiT_eq]
    have g' := Lib.hid g
    have F' := Lib.hid F; clear F g
    have hN' := Lib.hid hN; clear hN; have hl' := Lib.hid hl; clear hl; have h1' := Lib.hid h1; clear h1; have hp' := Lib.hid hp; clear hp; have hK' := Lib.hid hK; clear hK
    go_simp
    have hK := hK'.out; have hN := hN'.out; have hl := hl'.out; have h1 := h1'.out
    obtain ⟨p0, p1, p2, p3, p4, p5, p6, p7, p8, p9, p10, p11, p14, qa0⟩ := F'.out
    have g := g'.out
    refine hK _ _ ⟨by simpa using hl, (upd X 14 (.pointer (some ⟨x, 7, none⟩))), rfl, hN, g, p0.k, p1.k, p2.k, p3.k, p4.k, p5.k, PV.made rfl, p7.k, p8.k, p9.k, p10.k, p11.k, p14.k, qa0.keep (by decide) (by decide) (fun _ _ h => h)⟩
  · rintro l A W ⟨hl, X, rfl, hN, g, F⟩ h1 hp K hK
    have e6 := F.2.2.2.2.2.2.1 (hp ⟨6, .data⟩ (by simp) rfl)
    obtain ⟨c0, c1, c2, c3, c4, c5, c6, v7, v8, d0, d1, d2, d3, d4, d5, d6⟩ := GC.out W g
    rw [fhiiT_eq]
    have g' := Lib.hid g
    have F' := Lib.hid F; clear F g
    have hN' := Lib.hid hN; clear hN; have hl' := Lib.hid hl; clear hl; have h1' := Lib.hid h1; clear h1; have hp' := Lib.hid hp; clear hp; have hK' := Lib.hid hK; clear hK
    go_simp
    have hK := hK'.out; have hN := hN'.out; have hl := hl'.out; have h1 := h1'.out
    obtain ⟨p0, p1, p2, p3, p4, p5, p6, p7, p8, p9, p10, p11, p14, qa0⟩ := F'.out
    have g := g'.out
    refine hK _ _ ⟨by simpa using hl, (upd (upd X 14 (.pointer (some ⟨x, 7, none⟩))) 15 (.int .i64 sc)), rfl, hN, g, p0.k, p1.k, p2.k, p3.k, p4.k, p5.k, PV.made rfl, PV.made rfl, p8.k, p9.k, p10.k, p11.k, p14.k, qa0.keep (by decide) (by decide) (fun _ _ h => h)⟩
  · rintro l A W ⟨hl, X, rfl, hN, g, F⟩ h1 hp K hK
    have e1 := F.2.1 (hp ⟨1, .data⟩ (by simp) rfl)
    have e5 := F.2.2.2.2.2.1 (hp ⟨5, .data⟩ (by simp) rfl)
    have e7 := F.2.2.2.2.2.2.2.1 (hp ⟨7, .data⟩ (by simp) rfl)
    rw [fhiiT_eq]
    have g' := Lib.hid g
    have F' := Lib.hid F; clear F g
    have hN' := Lib.hid hN; clear hN; have hl' := Lib.hid hl; clear hl; have h1' := Lib.hid h1; clear h1; have hp' := Lib.hid hp; clear hp; have hK' := Lib.hid hK; clear hK
    go_simp
    go_at_call 50
    refine (KC.out W).mono ?_
    rintro e W1 ⟨rfl, hb⟩
    (try dsimp only)
    have hK := hK'.out; have hN := hN'.out; have hl := hl'.out; have h1 := h1'.out
    obtain ⟨p0, p1, p2, p3, p4, p5, p6, p7, p8, p9, p10, p11, p14, qa0⟩ := F'.out
    have g := g'.out
    refine hK _ _ ⟨by simpa using hl, (upd (upd (upd (upd X 9 (.func (.func 50) #[] #[])) 13 (.int .i64 f)) 15 (.int .i64 sc)) 16 (spr r)), rfl, Nat.le_trans hN hb.size, GI.out _ _ (hb.mono hN) g, p0.k, PV.made rfl, p2.k, p3.k, p4.k, PV.made rfl, p6.k, PV.made rfl, PV.made rfl, p9.k, p10.k, p11.k, p14.k, qa0.keep (by decide) (by decide) (fun _ _ h => owp_below h hb)⟩
  · rintro l A W ⟨hl, X, rfl, hN, g, F⟩ h1 hp K hK
    have e8 := F.2.2.2.2.2.2.2.2.1 (hp ⟨8, .data⟩ (by simp) rfl)
    rw [fhiiT_eq]
    have g' := Lib.hid g
    have F' := Lib.hid F; clear F g
    have hN' := Lib.hid hN; clear hN; have hl' := Lib.hid hl; clear hl; have h1' := Lib.hid h1; clear h1; have hp' := Lib.hid hp; clear hp; have hK' := Lib.hid hK; clear hK
    go_simp
    have hK := hK'.out; have hN := hN'.out; have hl := hl'.out; have h1 := h1'.out
    obtain ⟨p0, p1, p2, p3, p4, p5, p6, p7, p8, p9, p10, p11, p14, qa0⟩ := F'.out
    have g := g'.out
    refine hK _ _ ⟨by simpa using hl, (upd (upd X 16 (spr r)) 7 (spr r)), rfl, hN, g, p0.k, p1.k, p2.k, p3.k, p4.k, p5.k, p6.k, p7.k, PV.made rfl, PV.made rfl, p10.k, p11.k, p14.k, qa0.keep (by decide) (by decide) (fun _ _ h => h)⟩
  · rintro l A W ⟨hl, X, rfl, hN, g, F⟩ h1 hp K hK
    have e9 := F.2.2.2.2.2.2.2.2.2.1 (hp ⟨9, .data⟩ (by simp) rfl)
    rw [fhiiT_eq]
    have g' := Lib.hid g
    have F' := Lib.hid F; clear F g
    have hN' := Lib.hid hN; clear hN; have hl' := Lib.hid hl; clear hl; have h1' := Lib.hid h1; clear h1; have hp' := Lib.hid hp; clear hp; have hK' := Lib.hid hK; clear hK
    go_simp
    have hK := hK'.out; have hN := hN'.out; have hl := hl'.out; have h1 := h1'.out
    obtain ⟨p0, p1, p2, p3, p4, p5, p6, p7, p8, p9, p10, p11, p14, qa0⟩ := F'.out
    have g := g'.out
    refine hK _ _ ⟨by simpa using hl, (upd (upd X 7 (spr r)) 17 (.agg #[.int .i64 r.1.1, .int .i64 r.1.2])), rfl, hN, g, p0.k, p1.k, p2.k, p3.k, p4.k, p5.k, p6.k, p7.k, p8.k, PV.made rfl, PV.made rfl, p11.k, p14.k, qa0.keep (by decide) (by decide) (fun _ _ h => h)⟩
  · rintro l A W ⟨hl, X, rfl, hN, g, F⟩ h1 hp K hK
    have e9 := F.2.2.2.2.2.2.2.2.2.1 (hp ⟨9, .data⟩ (by simp) rfl)
    rw [fhiiT_eq]
    have g' := Lib.hid g
    have F' := Lib.hid F; clear F g
    have hN' := Lib.hid hN; clear hN; have hl' := Lib.hid hl; clear hl; have h1' := Lib.hid h1; clear h1; have hp' := Lib.hid hp; clear hp; have hK' := Lib.hid hK; clear hK
    go_simp
    have hK := hK'.out; have hN := hN'.out; have hl := hl'.out; have h1 := h1'.out
    obtain ⟨p0, p1, p2, p3, p4, p5, p6, p7, p8, p9, p10, p11, p14, qa0⟩ := F'.out
    have g := g'.out
    refine hK _ _ ⟨by simpa using hl, (upd (upd X 7 (spr r)) 18 (.int .i64 r.2)), rfl, hN, g, p0.k, p1.k, p2.k, p3.k, p4.k, p5.k, p6.k, p7.k, p8.k, PV.made rfl, p10.k, PV.made rfl, p14.k, qa0.keep (by decide) (by decide) (fun _ _ h => h)⟩
  · rintro l A W ⟨hl, X, rfl, hN, g, F⟩ h1 hp K hK
    rw [fhiiT_eq]
    have g' := Lib.hid g
    have F' := Lib.hid F; clear F g
    have hN' := Lib.hid hN; clear hN; have hl' := Lib.hid hl; clear hl; have h1' := Lib.hid h1; clear h1; have hp' := Lib.hid hp; clear hp; have hK' := Lib.hid hK; clear hK
    go_simp
    have hK := hK'.out; have hN := hN'.out; have hl := hl'.out; have h1 := h1'.out
    obtain ⟨p0, p1, p2, p3, p4, p5, p6, p7, p8, p9, p10, p11, p14, qa0⟩ := F'.out
    have g := g'.out
    refine hK _ _ ⟨by simpa using hl, (upd X 5 (.pointer (some ⟨W.heap.size, 0, none⟩))), rfl, (by simp; omega), GI.out _ _ (((Below.refl _ W).alloc (Nat.le_refl _) _).mono hN) g, p0.k, p1.k, p2.k, p3.k, p4.k, p5.k, p6.k, p7.k, p8.k, p9.k, p10.k, p11.k, p14.k, qa0.made (by decide) (by rw [hl]; decide) h1 hN (owp_new W (0, 0) _)⟩
  · rintro l A W ⟨hl, X, rfl, hN, g, F⟩ h1 hp K hK
    have la := hp ⟨12, .data⟩ (by simp) rfl
    have e10 := F.2.2.2.2.2.2.2.2.2.2.1 (hp ⟨10, .data⟩ (by simp) rfl)
    obtain ⟨b', v', e2, hb', ow, _⟩ := F.2.2.2.2.2.2.2.2.2.2.2.2.2.2 la
    obtain ⟨o0, o1, o2, o3, o4⟩ := id ow
    rw [fhiiT_eq]
    have g' := Lib.hid g
    have F' := Lib.hid F; clear F g
    have hN' := Lib.hid hN; clear hN; have hl' := Lib.hid hl; clear hl; have h1' := Lib.hid h1; clear h1; have hp' := Lib.hid hp; clear hp; have hK' := Lib.hid hK; clear hK
    have la' := Lib.hid la; clear la; have hb'' := Lib.hid hb'; clear hb'; have ow' := Lib.hid ow; clear ow
    go_simp
    have hK := hK'.out; have hN := hN'.out; have hl := hl'.out; have h1 := h1'.out
    obtain ⟨p0, p1, p2, p3, p4, p5, p6, p7, p8, p9, p10, p11, p14, qa0⟩ := F'.out
    have g := g'.out
    have la := la'.out; have hb' := hb''.out; have ow := ow'.out
    refine hK _ _ ⟨by simpa using hl, (upd (upd X 17 (.agg #[.int .i64 r.1.1, .int .i64 r.1.2])) 5 (.pointer (some ⟨b', 0, none⟩))), rfl, (by simpa using hN), GI.out _ _ (below_set2 _ _ hb') g, p0.k, p1.k, p2.k, p3.k, p4.k, p5.k, p6.k, p7.k, p8.k, p9.k, PV.made rfl, p11.k, p14.k, QX.put (by decide) la rfl hb' (owp_put ow r.1)⟩
  · rintro l A W ⟨hl, X, rfl, hN, g, F⟩ h1 hp K hK
    have e11 := F.2.2.2.2.2.2.2.2.2.2.2.1 (hp ⟨11, .data⟩ (by simp) rfl)
    rw [fhiiT_eq]
    have g' := Lib.hid g
    have F' := Lib.hid F; clear F g
    have hN' := Lib.hid hN; clear hN; have hl' := Lib.hid hl; clear hl; have h1' := Lib.hid h1; clear h1; have hp' := Lib.hid hp; clear hp; have hK' := Lib.hid hK; clear hK
    go_simp
    have hK := hK'.out; have hN := hN'.out; have hl := hl'.out; have h1 := h1'.out
    obtain ⟨p0, p1, p2, p3, p4, p5, p6, p7, p8, p9, p10, p11, p14, qa0⟩ := F'.out
    have g := g'.out
    refine hK _ _ ⟨by simpa using hl, (upd (upd X 18 (.int .i64 r.2)) 6 (.int .i64 r.2)), rfl, hN, g, p0.k, p1.k, p2.k, p3.k, p4.k, p5.k, p6.k, p7.k, p8.k, p9.k, p10.k, PV.made rfl, PV.made rfl, qa0.keep (by decide) (by decide) (fun _ _ h => h)⟩
set_option maxRecDepth 100000 in
set_option maxHeartbeats 4000000 in
theorem fhii_reg (G : World → Prop) (N : Nat) (x y b n c d m e : Nat) (al ah bl bh : P3) (sc f : Int) (r : Sp.R) {y0 y1 y19 y20 x5 x6 x7 x8 x9 x10 x11 x12 x13 x14 x15 x16 x17 x18 : Value} {W : World} {Q : Exit → Act → World → Prop} (GC : Hid (∀ W : World, G W → W.cell? ⟨x, 0, none⟩ = some (.slice (some ⟨d, 0, none⟩) m e) ∧ W.cell? ⟨x, 1, none⟩ = some (.int .i64 bl.1) ∧ W.cell? ⟨x, 2, none⟩ = some (.int .i64 bl.2.1) ∧ W.cell? ⟨x, 3, none⟩ = some (.int .i64 bl.2.2) ∧ W.cell? ⟨x, 4, none⟩ = some (.int .i64 bh.1) ∧ W.cell? ⟨x, 5, none⟩ = some (.int .i64 bh.2.1) ∧ W.cell? ⟨x, 6, none⟩ = some (.int .i64 bh.2.2) ∧ W.cell? ⟨x, 7, none⟩ = some (.int .i64 sc) ∧ W.cell? ⟨x, 8, none⟩ = some (.func (.func 50) #[] #[]) ∧ W.cell? ⟨y, 0, none⟩ = some (.slice (some ⟨b, 0, none⟩) n c) ∧ W.cell? ⟨y, 1, none⟩ = some (.int .i64 al.1) ∧ W.cell? ⟨y, 2, none⟩ = some (.int .i64 al.2.1) ∧ W.cell? ⟨y, 3, none⟩ = some (.int .i64 al.2.2) ∧ W.cell? ⟨y, 4, none⟩ = some (.int .i64 ah.1) ∧ W.cell? ⟨y, 5, none⟩ = some (.int .i64 ah.2.1) ∧ W.cell? ⟨y, 6, none⟩ = some (.int .i64 ah.2.2))) (FC : Hid (∀ W, G W → Calls Try.prog 155 #[grv b n c al ah, grv d m e bl bh] W fun e w' => e = .returned (.int .i64 f) ∧ Below W.heap.size W w')) (KC : Hid (∀ W, Calls Try.prog 50 #[.int .i64 f, .int .i64 sc] W fun e w' => e = .returned (spr r) ∧ Below W.heap.size W w')) (GI : Hid (∀ W W' : World, Below N W W' → G W → G W')) (hN : N ≤ W.heap.size) (g0 : G W.drew)
    (hK : ∀ (x6 x7 x8 x9 x10 x11 x12 x13 x14 x15 x16 x17 x18 : Value) (b0 : Nat) (W' : World), N ≤ W'.heap.size → G W' → N ≤ b0 → OwP W' b0 (r.1) → Q .normal { tmps := #[y0, y1, .pointer (some ⟨x, 0, none⟩), .pointer (some ⟨y, 0, none⟩), .int .i64 0, .pointer (some ⟨b0, 0, none⟩), x6, x7, x8, x9, x10, x11, x12, x13, x14, x15, x16, x17, x18, y19, y20], defers := [] } W') :
    Code.wp Try.prog (.region 1 fhiiOps true) Q { tmps := #[y0, y1, .pointer (some ⟨x, 0, none⟩), .pointer (some ⟨y, 0, none⟩), .int .i64 0, x5, x6, x7, x8, x9, x10, x11, x12, x13, x14, x15, x16, x17, x18, y19, y20], defers := [] } W := by
  refine wp_region_inv (fhiiI G N x y b n c d m e al ah bl bh sc f r y0 y1 y19 y20) (by kernel_rfl) ?_ (fhii_steps G N x y b n c d m e al ah bl bh sc f r y0 y1 y19 y20 Q GC FC KC GI) ?_
  · exact ⟨by simp [fhiiOps], fun i => (#[undef, undef, undef, undef, undef, x5, x6, x7, x8, x9, x10, x11, x12, x13, x14, x15, x16, x17, x18, undef, undef] : Array Value).getD i undef, rfl, hN, g0, PV.nought, PV.nought, PV.nought, PV.nought, PV.nought, PV.nought, PV.nought, PV.nought, PV.nought, PV.nought, PV.nought, PV.nought, PV.nought, QX.nought⟩
  · rintro l A W ⟨hl, X, rfl, hN, g, p0, p1, p2, p3, p4, p5, p6, p7, p8, p9, p10, p11, p14, qa0⟩ hr
    unfold fhiiOps at hr
    have l0 := ready_end hr 0 (by rw [hl]; decide) rfl (fun e he hbn => by
      simp at he
      (try (repeat (rcases he with rfl | he; · first | assumption | exact absurd hbn (by decide))))
      (try (first | exact he.elim | (subst he; first | assumption | exact absurd hbn (by decide)))))
    have l1 := ready_end hr 1 (by rw [hl]; decide) rfl (fun e he hbn => by
      simp at he
      (try (repeat (rcases he with rfl | he; · first | assumption | exact absurd hbn (by decide))))
      (try (first | exact he.elim | (subst he; first | assumption | exact absurd hbn (by decide)))))
    have l2 := ready_end hr 2 (by rw [hl]; decide) rfl (fun e he hbn => by
      simp at he
      (try (repeat (rcases he with rfl | he; · first | assumption | exact absurd hbn (by decide))))
      (try (first | exact he.elim | (subst he; first | assumption | exact absurd hbn (by decide)))))
    have l3 := ready_end hr 3 (by rw [hl]; decide) rfl (fun e he hbn => by
      simp at he
      (try (repeat (rcases he with rfl | he; · first | assumption | exact absurd hbn (by decide))))
      (try (first | exact he.elim | (subst he; first | assumption | exact absurd hbn (by decide)))))
    have l4 := ready_end hr 4 (by rw [hl]; decide) rfl (fun e he hbn => by
      simp at he
      (try (repeat (rcases he with rfl | he; · first | assumption | exact absurd hbn (by decide))))
      (try (first | exact he.elim | (subst he; first | assumption | exact absurd hbn (by decide)))))
    have l5 := ready_end hr 5 (by rw [hl]; decide) rfl (fun e he hbn => by
      simp at he
      (try (repeat (rcases he with rfl | he; · first | assumption | exact absurd hbn (by decide))))
      (try (first | exact he.elim | (subst he; first | assumption | exact absurd hbn (by decide)))))
    have l6 := ready_end hr 6 (by rw [hl]; decide) rfl (fun e he hbn => by
      simp at he
      (try (repeat (rcases he with rfl | he; · first | assumption | exact absurd hbn (by decide))))
      (try (first | exact he.elim | (subst he; first | assumption | exact absurd hbn (by decide)))))
    have l7 := ready_end hr 7 (by rw [hl]; decide) rfl (fun e he hbn => by
      simp at he
      (try (repeat (rcases he with rfl | he; · first | assumption | exact absurd hbn (by decide))))
      (try (first | exact he.elim | (subst he; first | assumption | exact absurd hbn (by decide)))))
    have l8 := ready_end hr 8 (by rw [hl]; decide) rfl (fun e he hbn => by
      simp at he
      (try (repeat (rcases he with rfl | he; · first | assumption | exact absurd hbn (by decide))))
      (try (first | exact he.elim | (subst he; first | assumption | exact absurd hbn (by decide)))))
    have l9 := ready_end hr 9 (by rw [hl]; decide) rfl (fun e he hbn => by
      simp at he
      (try (repeat (rcases he with rfl | he; · first | assumption | exact absurd hbn (by decide))))
      (try (first | exact he.elim | (subst he; first | assumption | exact absurd hbn (by decide)))))
    have l10 := ready_end hr 10 (by rw [hl]; decide) rfl (fun e he hbn => by
      simp at he
      (try (repeat (rcases he with rfl | he; · first | assumption | exact absurd hbn (by decide))))
      (try (first | exact he.elim | (subst he; first | assumption | exact absurd hbn (by decide)))))
    have l11 := ready_end hr 11 (by rw [hl]; decide) rfl (fun e he hbn => by
      simp at he
      (try (repeat (rcases he with rfl | he; · first | assumption | exact absurd hbn (by decide))))
      (try (first | exact he.elim | (subst he; first | assumption | exact absurd hbn (by decide)))))
    have l12 := ready_end hr 12 (by rw [hl]; decide) rfl (fun e he hbn => by
      simp at he
      (try (repeat (rcases he with rfl | he; · first | assumption | exact absurd hbn (by decide))))
      (try (first | exact he.elim | (subst he; first | assumption | exact absurd hbn (by decide)))))
    have l13 := ready_end hr 13 (by rw [hl]; decide) rfl (fun e he hbn => by
      simp at he
      (try (repeat (rcases he with rfl | he; · first | assumption | exact absurd hbn (by decide))))
      (try (first | exact he.elim | (subst he; first | assumption | exact absurd hbn (by decide)))))
    have l14 := ready_end hr 14 (by rw [hl]; decide) rfl (fun e he hbn => by
      simp at he
      (try (repeat (rcases he with rfl | he; · first | assumption | exact absurd hbn (by decide))))
      (try (first | exact he.elim | (subst he; first | assumption | exact absurd hbn (by decide)))))
    obtain ⟨b0, v0, e0x, n0, o0, t0⟩ := qa0.2 l12
    obtain rfl := t0 l13
    have z := hK (X 6) (X 7) (X 8) (X 9) (X 10) (X 11) (X 12) (X 13) (X 14) (X 15) (X 16) (X 17) (X 18) b0 W hN g n0 o0
    rw [← e0x] at z
    exact z
def flocOps : Array Oper := #[{ dst := some 8, op := Op.fieldAddr 132 (Operand.tmp 2) 2, type := 0, pos := "view.go:26", after := #[], guard := none }, { dst := some 9, op := Op.load 128 (Operand.tmp 8), type := 128, pos := "view.go:26", after := #[{ on := 0, ground := Ground.data }], guard := none }, { dst := some 10, op := Op.load 101 (Operand.tmp 3), type := 101, pos := "view.go:26", after := #[], guard := none }, { dst := some 11, op := Op.fieldAddr 132 (Operand.tmp 2) 0, type := 0, pos := "view.go:26", after := #[], guard := none }, { dst := some 12, op := Op.load 101 (Operand.tmp 11), type := 101, pos := "view.go:26", after := #[{ on := 3, ground := Ground.data }], guard := none }, { dst := some 13, op := Op.call { callee := Callee.value (Operand.func 157), args := #[Operand.tmp 10, Operand.tmp 12], argTypes := #[101, 101] }, type := 3, pos := "view.go:26", after := #[{ on := 2, ground := Ground.data }, { on := 4, ground := Ground.data }], guard := none }, { dst := some 14, op := Op.fieldAddr 132 (Operand.tmp 2) 1, type := 0, pos := "view.go:26", after := #[], guard := none }, { dst := some 15, op := Op.load 3 (Operand.tmp 14), type := 3, pos := "view.go:26", after := #[{ on := 6, ground := Ground.data }], guard := none }, { dst := some 16, op := Op.call { callee := Callee.value (Operand.tmp 9), args := #[Operand.tmp 13, Operand.tmp 15], argTypes := #[3, 3] }, type := 36, pos := "view.go:26", after := #[{ on := 1, ground := Ground.data }, { on := 5, ground := Ground.data }, { on := 7, ground := Ground.data }, { on := 5, ground := Ground.chain }], guard := none }, { dst := some 7, op := Op.move (Operand.tmp 16), type := 36, pos := "view.go:26", after := #[{ on := 8, ground := Ground.data }], guard := none }, { dst := some 17, op := Op.extract (Operand.tmp 7) 0, type := 35, pos := "view.go:26", after := #[{ on := 9, ground := Ground.data }], guard := none }, { dst := some 18, op := Op.extract (Operand.tmp 7) 1, type := 27, pos := "view.go:26", after := #[{ on := 9, ground := Ground.data }, { on := 13, ground := Ground.gcOnly Departure.lateStores }], guard := none }, { dst := some 5, op := Op.alloc 35, type := 0, pos := "view.go:26", after := #[], guard := none }, { dst := none, op := Op.store 35 (Operand.tmp 5) (Operand.tmp 17), type := 0, pos := "view.go:26", after := #[{ on := 12, ground := Ground.data }, { on := 10, ground := Ground.data }, { on := 8, ground := Ground.chain }, { on := 0, ground := Ground.phase }, { on := 1, ground := Ground.phase }, { on := 2, ground := Ground.phase }, { on := 3, ground := Ground.phase }, { on := 4, ground := Ground.phase }, { on := 5, ground := Ground.phase }, { on := 6, ground := Ground.phase }, { on := 7, ground := Ground.phase }, { on := 8, ground := Ground.phase }, { on := 9, ground := Ground.phase }, { on := 10, ground := Ground.phase }, { on := 11, ground := Ground.textOnly Departure.lateStores }, { on := 12, ground := Ground.phase }], guard := none }, { dst := some 6, op := Op.assign (Operand.tmp 18), type := 27, pos := "view.go:26", after := #[{ on := 11, ground := Ground.data }, { on := 13, ground := Ground.chain }, { on := 0, ground := Ground.phase }, { on := 1, ground := Ground.phase }, { on := 2, ground := Ground.phase }, { on := 3, ground := Ground.phase }, { on := 4, ground := Ground.phase }, { on := 5, ground := Ground.phase }, { on := 6, ground := Ground.phase }, { on := 7, ground := Ground.phase }, { on := 8, ground := Ground.phase }, { on := 9, ground := Ground.phase }, { on := 10, ground := Ground.phase }, { on := 11, ground := Ground.phase }, { on := 12, ground := Ground.phase }, { on := 13, ground := Ground.phase }], guard := none }]
def flocT (x : Nat) (y : Nat) (y0 y1 y19 y20 : Value) (X : Nat → Value) : Array Value := #[y0, y1, .pointer (some ⟨x, 0, none⟩), .pointer (some ⟨y, 0, none⟩), .int .i64 0, X 5, X 6, X 7, X 8, X 9, X 10, X 11, X 12, X 13, X 14, X 15, X 16, X 17, X 18, y19, y20]
theorem flocT_eq (x : Nat) (y : Nat) (y0 y1 y19 y20 : Value) (X : Nat → Value) : flocT x y y0 y1 y19 y20 X = #[y0, y1, .pointer (some ⟨x, 0, none⟩), .pointer (some ⟨y, 0, none⟩), .int .i64 0, X 5, X 6, X 7, X 8, X 9, X 10, X 11, X 12, X 13, X 14, X 15, X 16, X 17, X 18, y19, y20] := rfl
def flocI (G : World → Prop) (N : Nat) (x y b n c d m e : Nat) (al ah bl bh : P3) (sc f : Int) (r : Sp.R) (y0 y1 y19 y20 : Value) (l : Array Bool) (A : Act) (W : World) : Prop :=
  l.size = 15 ∧ ∃ X : Nat → Value, A = { tmps := flocT x y y0 y1 y19 y20 X, defers := [] } ∧ N ≤ W.heap.size ∧ G W ∧ PV l 0 (X 8) (.pointer (some ⟨x, 8, none⟩)) ∧ PV l 1 (X 9) (.func (.func 53) #[] #[]) ∧ PV l 2 (X 10) (grv b n c al ah) ∧ PV l 3 (X 11) (.pointer (some ⟨x, 0, none⟩)) ∧ PV l 4 (X 12) (grv d m e bl bh) ∧ PV l 5 (X 13) (.int .i64 f) ∧ PV l 6 (X 14) (.pointer (some ⟨x, 7, none⟩)) ∧ PV l 7 (X 15) (.int .i64 sc) ∧ PV l 8 (X 16) (spr r) ∧ PV l 9 (X 7) (spr r) ∧ PV l 10 (X 17) (.agg #[.int .i64 r.1.1, .int .i64 r.1.2]) ∧ PV l 11 (X 18) (.int .i64 r.2) ∧ PV l 14 (X 6) (.int .i64 r.2) ∧ QX OwP l W (X 5) 12 13 N (r.1)
set_option maxRecDepth 100000 in
set_option maxHeartbeats 4000000 in
theorem floc_steps (G : World → Prop) (N : Nat) (x y b n c d m e : Nat) (al ah bl bh : P3) (sc f : Int) (r : Sp.R) (y0 y1 y19 y20 : Value) (Q : Exit → Act → World → Prop) (GC : Hid (∀ W : World, G W → W.cell? ⟨x, 0, none⟩ = some (.slice (some ⟨d, 0, none⟩) m e) ∧ W.cell? ⟨x, 1, none⟩ = some (.int .i64 bl.1) ∧ W.cell? ⟨x, 2, none⟩ = some (.int .i64 bl.2.1) ∧ W.cell? ⟨x, 3, none⟩ = some (.int .i64 bl.2.2) ∧ W.cell? ⟨x, 4, none⟩ = some (.int .i64 bh.1) ∧ W.cell? ⟨x, 5, none⟩ = some (.int .i64 bh.2.1) ∧ W.cell? ⟨x, 6, none⟩ = some (.int .i64 bh.2.2) ∧ W.cell? ⟨x, 7, none⟩ = some (.int .i64 sc) ∧ W.cell? ⟨x, 8, none⟩ = some (.func (.func 53) #[] #[]) ∧ W.cell? ⟨y, 0, none⟩ = some (.slice (some ⟨b, 0, none⟩) n c) ∧ W.cell? ⟨y, 1, none⟩ = some (.int .i64 al.1) ∧ W.cell? ⟨y, 2, none⟩ = some (.int .i64 al.2.1) ∧ W.cell? ⟨y, 3, none⟩ = some (.int .i64 al.2.2) ∧ W.cell? ⟨y, 4, none⟩ = some (.int .i64 ah.1) ∧ W.cell? ⟨y, 5, none⟩ = some (.int .i64 ah.2.1) ∧ W.cell? ⟨y, 6, none⟩ = some (.int .i64 ah.2.2))) (FC : Hid (∀ W, G W → Calls Try.prog 157 #[grv b n c al ah, grv d m e bl bh] W fun e w' => e = .returned (.int .i64 f) ∧ Below W.heap.size W w')) (KC : Hid (∀ W, Calls Try.prog 53 #[.int .i64 f, .int .i64 sc] W fun e w' => e = .returned (spr r) ∧ Below W.heap.size W w')) (GI : Hid (∀ W W' : World, Below N W W' → G W → G W')) :
    allOps (fun i o => ∀ (l : Array Bool) (A : Act) (W : World), flocI G N x y b n c d m e al ah bl bh sc f r y0 y1 y19 y20 l A W → l.getD i true = false → (∀ e ∈ o.after, Region.binds .any e = true → l.getD e.on false = true) → ∀ K' : Act → World → Prop, (∀ A' W', flocI G N x y b n c d m e al ah bl bh sc f r y0 y1 y19 y20 (l.setIfInBounds i true) A' W' → K' A' W') → if Region.wanted o (yielded flocOps A.tmps) = true then Oper.wp Try.prog o A W K' Q else K' (A.put o.dst undef) W) 0 flocOps.toList := by
  simp only [flocOps, allOps]
  refine ⟨?_, ?_, ?_, ?_, ?_, ?_, ?_, ?_, ?_, ?_, ?_, ?_, ?_, ?_, ?_, trivial⟩
  · rintro l A W ⟨hl, X, rfl, hN, g, F⟩ h1 hp K hK
    rw [flocT_eq]
    have g' := Lib.hid g
    have F' := Lib.hid F; clear F g
    have hN' := Lib.hid hN; clear hN; have hl' := Lib.hid hl; clear hl; have h1' := Lib.hid h1; clear h1; have hp' := Lib.hid hp; clear hp; have hK' := Lib.hid hK; clear hK
    go_simp
    have hK := hK'.out; have hN := hN'.out; have hl := hl'.out; have h1 := h1'.out
    obtain ⟨p0, p1, p2, p3, p4, p5, p6, p7, p8, p9, p10, p11, p14, qa0⟩ := F'.out
    have g := g'.out
    refine hK _ _ ⟨by simpa using hl, (upd X 8 (.pointer (some ⟨x, 8, none⟩))), rfl, hN, g, PV.made rfl, p1.k, p2.k, p3.k, p4.k, p5.k, p6.k, p7.k, p8.k, p9.k, p10.k, p11.k, p14.k, qa0.keep (by decide) (by decide) (fun _ _ h => h)⟩
  · rintro l A W ⟨hl, X, rfl, hN, g, F⟩ h1 hp K hK
    have e0 := F.1 (hp ⟨0, .data⟩ (by simp) rfl)
    obtain ⟨c0, c1, c2, c3, c4, c5, c6, v7, v8, d0, d1, d2, d3, d4, d5, d6⟩ := GC.out W g
    rw [flocT_eq]
    have g' := Lib.hid g
    have F' := Lib.hid F; clear F g
    have hN' := Lib.hid hN; clear hN; have hl' := Lib.hid hl; clear hl; have h1' := Lib.hid h1; clear h1; have hp' := Lib.hid hp; clear hp; have hK' := Lib.hid hK; clear hK
    go_simp
    have hK := hK'.out; have hN := hN'.out; have hl := hl'.out; have h1 := h1'.out
    obtain ⟨p0, p1, p2, p3, p4, p5, p6, p7, p8, p9, p10, p11, p14, qa0⟩ := F'.out
    have g := g'.out
    refine hK _ _ ⟨by simpa using hl, (upd (upd X 8 (.pointer (some ⟨x, 8, none⟩))) 9 (.func (.func 53) #[] #[])), rfl, hN, g, PV.made rfl, PV.made rfl, p2.k, p3.k, p4.k, p5.k, p6.k, p7.k, p8.k, p9.k, p10.k, p11.k, p14.k, qa0.keep (by decide) (by decide) (fun _ _ h => h)⟩
  · rintro l A W ⟨hl, X, rfl, hN, g, F⟩ h1 hp K hK
    obtain ⟨c0, c1, c2, c3, c4, c5, c6, v7, v8, d0, d1, d2, d3, d4, d5, d6⟩ := GC.out W g
    rw [flocT_eq]
    have g' := Lib.hid g
    have F' := Lib.hid F; clear F g
    have hN' := Lib.hid hN; clear hN; have hl' := Lib.hid hl; clear hl; have h1' := Lib.hid h1; clear h1; have hp' := Lib.hid hp; clear hp; have hK' := Lib.hid hK; clear hK
    go_simp
    have hK := hK'.out; have hN := hN'.out; have hl := hl'.out; have h1 := h1'.out
    obtain ⟨p0, p1, p2, p3, p4, p5, p6, p7, p8, p9, p10, p11, p14, qa0⟩ := F'.out
    have g := g'.out
    refine hK _ _ ⟨by simpa using hl, (upd X 10 (grv b n c al ah)), rfl, hN, g, p0.k, p1.k, PV.made rfl, p3.k, p4.k, p5.k, p6.k, p7.k, p8.k, p9.k, p10.k, p11.k, p14.k, qa0.keep (by decide) (by decide) (fun _ _ h => h)⟩
  · rintro l A W ⟨hl, X, rfl, hN, g, F⟩ h1 hp K hK
    rw [flocT_eq]
    have g' := Lib.hid g
    have F' := Lib.hid F; clear F g
    have hN' := Lib.hid hN; clear hN; have hl' := Lib.hid hl; clear hl; have h1' := Lib.hid h1; clear h1; have hp' := Lib.hid hp; clear hp; have hK' := Lib.hid hK; clear hK
    go_simp
    have hK := hK'.out; have hN := hN'.out; have hl := hl'.out; have h1 := h1'.out
    obtain ⟨p0, p1, p2, p3, p4, p5, p6, p7, p8, p9, p10, p11, p14, qa0⟩ := F'.out
    have g := g'.out
    refine hK _ _ ⟨by simpa using hl, (upd X 11 (.pointer (some ⟨x, 0, none⟩))), rfl, hN, g, p0.k, p1.k, p2.k, PV.made rfl, p4.k, p5.k, p6.k, p7.k, p8.k, p9.k, p10.k, p11.k, p14.k, qa0.keep (by decide) (by decide) (fun _ _ h => h)⟩
  · rintro l A W ⟨hl, X, rfl, hN, g, F⟩ h1 hp K hK
    have e3 := F.2.2.2.1 (hp ⟨3, .data⟩ (by simp) rfl)
    obtain ⟨c0, c1, c2, c3, c4, c5, c6, v7, v8, d0, d1, d2, d3, d4, d5, d6⟩ := GC.out W g
    rw [flocT_eq]
    have g' := Lib.hid g
    have F' := Lib.hid F; clear F g
    have hN' := Lib.hid hN; clear hN; have hl' := Lib.hid hl; clear hl; have h1' := Lib.hid h1; clear h1; have hp' := Lib.hid hp; clear hp; have hK' := Lib.hid hK; clear hK
    go_simp
    have hK := hK'.out; have hN := hN'.out; have hl := hl'.out; have h1 := h1'.out
    obtain ⟨p0, p1, p2, p3, p4, p5, p6, p7, p8, p9, p10, p11, p14, qa0⟩ := F'.out
    have g := g'.out
    refine hK _ _ ⟨by simpa using hl, (upd (upd X 11 (.pointer (some ⟨x, 0, none⟩))) 12 (grv d m e bl bh)), rfl, hN, g, p0.k, p1.k, p2.k, PV.made rfl, PV.made rfl, p5.k, p6.k, p7.k, p8.k, p9.k, p10.k, p11.k, p14.k, qa0.keep (by decide) (by decide) (fun _ _ h => h)⟩
  · rintro l A W ⟨hl, X, rfl, hN, g, F⟩ h1 hp K hK
    have e2 := F.2.2.1 (hp ⟨2, .data⟩ (by simp) rfl)
    have e4 := F.2.2.2.2.1 (hp ⟨4, .data⟩ (by simp) rfl)
    rw [flocT_eq]
    have g' := Lib.hid g
    have F' := Lib.hid F; clear F g
    have hN' := Lib.hid hN; clear hN; have hl' := Lib.hid hl; clear hl; have h1' := Lib.hid h1; clear h1; have hp' := Lib.hid hp; clear hp; have hK' := Lib.hid hK; clear hK
    go_simp
    go_at_call 157
    refine (FC.out W g'.out).mono ?_
    rintro e W1 ⟨rfl, hb⟩
    (try dsimp only)
    have hK := hK'.out; have hN := hN'.out; have hl := hl'.out; have h1 := h1'.out
    obtain ⟨p0, p1, p2, p3, p4, p5, p6, p7, p8, p9, p10, p11, p14, qa0⟩ := F'.out
    have g := g'.out
    refine hK _ _ ⟨by simpa using hl, (upd (upd (upd X 10 (grv b n c al ah)) 12 (grv d m e bl bh)) 13 (.int .i64 f)), rfl, Nat.le_trans hN hb.size, GI.out _ _ (hb.mono hN) g, p0.k, p1.k, PV.made rfl, p3.k, PV.made rfl, PV.made rfl, p6.k, p7.k, p8.k, p9.k, p10.k, p11.k, p14.k, qa0.keep (by decide) (by decide) (fun _ _ h => owp_below h hb)⟩
  · rintro l A W ⟨hl, X, rfl, hN, g, F⟩ h1 hp K hK
    rw [flocT_eq]
    have g' := Lib.hid g
    have F' := Lib.hid F; clear F g
    have hN' := Lib.hid hN; clear hN; have hl' := Lib.hid hl; clear hl; have h1' := Lib.hid h1; clear h1; have hp' := Lib.hid hp; clear hp; have hK' := Lib.hid hK; clear hK
    go_simp
    have hK := hK'.out; have hN := hN'.out; have hl := hl'.out; have h1 := h1'.out
    obtain ⟨p0, p1, p2, p3, p4, p5, p6, p7, p8, p9, p10, p11, p14, qa0⟩ := F'.out
    have g := g'.out
    refine hK _ _ ⟨by simpa using hl, (upd X 14 (.pointer (some ⟨x, 7, none⟩))), rfl, hN, g, p0.k, p1.k, p2.k, p3.k, p4.k, p5.k, PV.made rfl, p7.k, p8.k, p9.k, p10.k, p11.k, p14.k, qa0.keep (by decide) (by decide) (fun _ _ h => h)⟩
  · rintro l A W ⟨hl, X, rfl, hN, g, F⟩ h1 hp K hK
    have e6 := F.2.2.2.2.2.2.1 (hp ⟨6, .data⟩ (by simp) rfl)
    obtain ⟨c0, c1, c2, c3, c4, c5, c6, v7, v8, d0, d1, d2, d3, d4, d5, d6⟩ := GC.out W g
    rw [flocT_eq]
    have g' := Lib.hid g
    have F' := Lib.hid F; clear F g
    have hN' := Lib.hid hN; clear hN; have hl' := Lib.hid hl; clear hl; have h1' := Lib.hid h1; clear h1; have hp' := Lib.hid hp; clear hp; have hK' := Lib.hid hK; clear hK
    go_simp
    have hK := hK'.out; have hN := hN'.out; have hl := hl'.out; have h1 := h1'.out
    obtain ⟨p0, p1, p2, p3, p4, p5, p6, p7, p8, p9, p10, p11, p14, qa0⟩ := F'.out
    have g := g'.out
    refine hK _ _ ⟨by simpa using hl, (upd (upd X 14 (.pointer (some ⟨x, 7, none⟩))) 15 (.int .i64 sc)), rfl, hN, g, p0.k, p1.k, p2.k, p3.k, p4.k, p5.k, PV.made rfl, PV.made rfl, p8.k, p9.k, p10.k, p11.k, p14.k, qa0.keep (by decide) (by decide) (fun _ _ h => h)⟩
  · rintro l A W ⟨hl, X, rfl, hN, g, F⟩ h1 hp K hK
    have e1 := F.2.1 (hp ⟨1, .data⟩ (by simp) rfl)
    have e5 := F.2.2.2.2.2.1 (hp ⟨5, .data⟩ (by simp) rfl)
    have e7 := F.2.2.2.2.2.2.2.1 (hp ⟨7, .data⟩ (by simp) rfl)
    rw [flocT_eq]
    have g' := Lib.hid g
    have F' := Lib.hid F; clear F g
    have hN' := Lib.hid hN; clear hN; have hl' := Lib.hid hl; clear hl; have h1' := Lib.hid h1; clear h1; have hp' := Lib.hid hp; clear hp; have hK' := Lib.hid hK; clear hK
    go_simp
    go_at_call 53
    refine (KC.out W).mono ?_
    rintro e W1 ⟨rfl, hb⟩
    (try dsimp only)
    have hK := hK'.out; have hN := hN'.out; have hl := hl'.out; have h1 := h1'.out
    obtain ⟨p0, p1, p2, p3, p4, p5, p6, p7, p8, p9, p10, p11, p14, qa0⟩ := F'.out
    have g := g'.out
    refine hK _ _ ⟨by simpa using hl, (upd (upd (upd (upd X 9 (.func (.func 53) #[] #[])) 13 (.int .i64 f)) 15 (.int .i64 sc)) 16 (spr r)), rfl, Nat.le_trans hN hb.size, GI.out _ _ (hb.mono hN) g, p0.k, PV.made rfl, p2.k, p3.k, p4.k, PV.made rfl, p6.k, PV.made rfl, PV.made rfl, p9.k, p10.k, p11.k, p14.k, qa0.keep (by decide) (by decide) (fun _ _ h => owp_below h hb)⟩
  · rintro l A W ⟨hl, X, rfl, hN, g, F⟩ h1 hp K hK
    have e8 := F.2.2.2.2.2.2.2.2.1 (hp ⟨8, .data⟩ (by simp) rfl)
    rw [flocT_eq]
    have g' := Lib.hid g
    have F' := Lib.hid F; clear F g
    have hN' := Lib.hid hN; clear hN; have hl' := Lib.hid hl; clear hl; have h1' := Lib.hid h1; clear h1; have hp' := Lib.hid hp; clear hp; have hK' := Lib.hid hK; clear hK
    go_simp
    have hK := hK'.out; have hN := hN'.out; have hl := hl'.out; have h1 := h1'.out
    obtain ⟨p0, p1, p2, p3, p4, p5, p6, p7, p8, p9, p10, p11, p14, qa0⟩ := F'.out
    have g := g'.out
    refine hK _ _ ⟨by simpa using hl, (upd (upd X 16 (spr r)) 7 (spr r)), rfl, hN, g, p0.k, p1.k, p2.k, p3.k, p4.k, p5.k, p6.k, p7.k, PV.made rfl, PV.made rfl, p10.k, p11.k, p14.k, qa0.keep (by decide) (by decide) (fun _ _ h => h)⟩
  · rintro l A W ⟨hl, X, rfl, hN, g, F⟩ h1 hp K hK
    have e9 := F.2.2.2.2.2.2.2.2.2.1 (hp ⟨9, .data⟩ (by simp) rfl)
    rw [flocT_eq]
    have g' := Lib.hid g
    have F' := Lib.hid F; clear F g
    have hN' := Lib.hid hN; clear hN; have hl' := Lib.hid hl; clear hl; have h1' := Lib.hid h1; clear h1; have hp' := Lib.hid hp; clear hp; have hK' := Lib.hid hK; clear hK
    go_simp
    have hK := hK'.out; have hN := hN'.out; have hl := hl'.out; have h1 := h1'.out
    obtain ⟨p0, p1, p2, p3, p4, p5, p6, p7, p8, p9, p10, p11, p14, qa0⟩ := F'.out
    have g := g'.out
    refine hK _ _ ⟨by simpa using hl, (upd (upd X 7 (spr r)) 17 (.agg #[.int .i64 r.1.1, .int .i64 r.1.2])), rfl, hN, g, p0.k, p1.k, p2.k, p3.k, p4.k, p5.k, p6.k, p7.k, p8.k, PV.made rfl, PV.made rfl, p11.k, p14.k, qa0.keep (by decide) (by decide) (fun _ _ h => h)⟩
  · rintro l A W ⟨hl, X, rfl, hN, g, F⟩ h1 hp K hK
    have e9 := F.2.2.2.2.2.2.2.2.2.1 (hp ⟨9, .data⟩ (by simp) rfl)
    rw [flocT_eq]
    have g' := Lib.hid g
    have F' := Lib.hid F; clear F g
    have hN' := Lib.hid hN; clear hN; have hl' := Lib.hid hl; clear hl; have h1' := Lib.hid h1; clear h1; have hp' := Lib.hid hp; clear hp; have hK' := Lib.hid hK; clear hK
    go_simp
    have hK := hK'.out; have hN := hN'.out; have hl := hl'.out; have h1 := h1'.out
    obtain ⟨p0, p1, p2, p3, p4, p5, p6, p7, p8, p9, p10, p11, p14, qa0⟩ := F'.out
    have g := g'.out
    refine hK _ _ ⟨by simpa using hl, (upd (upd X 7 (spr r)) 18 (.int .i64 r.2)), rfl, hN, g, p0.k, p1.k, p2.k, p3.k, p4.k, p5.k, p6.k, p7.k, p8.k, PV.made rfl, p10.k, PV.made rfl, p14.k, qa0.keep (by decide) (by decide) (fun _ _ h => h)⟩
  · rintro l A W ⟨hl, X, rfl, hN, g, F⟩ h1 hp K hK
    rw [flocT_eq]
    have g' := Lib.hid g
    have F' := Lib.hid F; clear F g
    have hN' := Lib.hid hN; clear hN; have hl' := Lib.hid hl; clear hl; have h1' := Lib.hid h1; clear h1; have hp' := Lib.hid hp; clear hp; have hK' := Lib.hid hK; clear hK
    go_simp
    have hK := hK'.out; have hN := hN'.out; have hl := hl'.out; have h1 := h1'.out
    obtain ⟨p0, p1, p2, p3, p4, p5, p6, p7, p8, p9, p10, p11, p14, qa0⟩ := F'.out
    have g := g'.out
    refine hK _ _ ⟨by simpa using hl, (upd X 5 (.pointer (some ⟨W.heap.size, 0, none⟩))), rfl, (by simp; omega), GI.out _ _ (((Below.refl _ W).alloc (Nat.le_refl _) _).mono hN) g, p0.k, p1.k, p2.k, p3.k, p4.k, p5.k, p6.k, p7.k, p8.k, p9.k, p10.k, p11.k, p14.k, qa0.made (by decide) (by rw [hl]; decide) h1 hN (owp_new W (0, 0) _)⟩
  · rintro l A W ⟨hl, X, rfl, hN, g, F⟩ h1 hp K hK
    have la := hp ⟨12, .data⟩ (by simp) rfl
    have e10 := F.2.2.2.2.2.2.2.2.2.2.1 (hp ⟨10, .data⟩ (by simp) rfl)
    obtain ⟨b', v', e2, hb', ow, _⟩ := F.2.2.2.2.2.2.2.2.2.2.2.2.2.2 la
    obtain ⟨o0, o1, o2, o3, o4⟩ := id ow
    rw [flocT_eq]
    have g' := Lib.hid g
    have F' := Lib.hid F; clear F g
    have hN' := Lib.hid hN; clear hN; have hl' := Lib.hid hl; clear hl; have h1' := Lib.hid h1; clear h1; have hp' := Lib.hid hp; clear hp; have hK' := Lib.hid hK; clear hK
    have la' := Lib.hid la; clear la; have hb'' := Lib.hid hb'; clear hb'; have ow' := Lib.hid ow; clear ow
    go_simp
    have hK := hK'.out; have hN := hN'.out; have hl := hl'.out; have h1 := h1'.out
    obtain ⟨p0, p1, p2, p3, p4, p5, p6, p7, p8, p9, p10, p11, p14, qa0⟩ := F'.out
    have g := g'.out
    have la := la'.out; have hb' := hb''.out; have ow := ow'.out
    refine hK _ _ ⟨by simpa using hl, (upd (upd X 17 (.agg #[.int .i64 r.1.1, .int .i64 r.1.2])) 5 (.pointer (some ⟨b', 0, none⟩))), rfl, (by simpa using hN), GI.out _ _ (below_set2 _ _ hb') g, p0.k, p1.k, p2.k, p3.k, p4.k, p5.k, p6.k, p7.k, p8.k, p9.k, PV.made rfl, p11.k, p14.k, QX.put (by decide) la rfl hb' (owp_put ow r.1)⟩
  · rintro l A W ⟨hl, X, rfl, hN, g, F⟩ h1 hp K hK
    have e11 := F.2.2.2.2.2.2.2.2.2.2.2.1 (hp ⟨11, .data⟩ (by simp) rfl)
    rw [flocT_eq]
    have g' := Lib.hid g
    have F' := Lib.hid F; clear F g
    have hN' := Lib.hid hN; clear hN; have hl' := Lib.hid hl; clear hl; have h1' := Lib.hid h1; clear h1; have hp' := Lib.hid hp; clear hp; have hK' := Lib.hid hK; clear hK
    go_simp
    have hK := hK'.out; have hN := hN'.out; have hl := hl'.out; have h1 := h1'.out
    obtain ⟨p0, p1, p2, p3, p4, p5, p6, p7, p8, p9, p10, p11, p14, qa0⟩ := F'.out
    have g := g'.out
    refine hK _ _ ⟨by simpa using hl, (upd (upd X 18 (.int .i64 r.2)) 6 (.int .i64 r.2)), rfl, hN, g, p0.k, p1.k, p2.k, p3.k, p4.k, p5.k, p6.k, p7.k, p8.k, p9.k, p10.k, PV.made rfl, PV.made rfl, qa0.keep (by decide) (by decide) (fun _ _ h => h)⟩
set_option maxRecDepth 100000 in
set_option maxHeartbeats 4000000 in
theorem floc_reg (G : World → Prop) (N : Nat) (x y b n c d m e : Nat) (al ah bl bh : P3) (sc f : Int) (r : Sp.R) {y0 y1 y19 y20 x5 x6 x7 x8 x9 x10 x11 x12 x13 x14 x15 x16 x17 x18 : Value} {W : World} {Q : Exit → Act → World → Prop} (GC : Hid (∀ W : World, G W → W.cell? ⟨x, 0, none⟩ = some (.slice (some ⟨d, 0, none⟩) m e) ∧ W.cell? ⟨x, 1, none⟩ = some (.int .i64 bl.1) ∧ W.cell? ⟨x, 2, none⟩ = some (.int .i64 bl.2.1) ∧ W.cell? ⟨x, 3, none⟩ = some (.int .i64 bl.2.2) ∧ W.cell? ⟨x, 4, none⟩ = some (.int .i64 bh.1) ∧ W.cell? ⟨x, 5, none⟩ = some (.int .i64 bh.2.1) ∧ W.cell? ⟨x, 6, none⟩ = some (.int .i64 bh.2.2) ∧ W.cell? ⟨x, 7, none⟩ = some (.int .i64 sc) ∧ W.cell? ⟨x, 8, none⟩ = some (.func (.func 53) #[] #[]) ∧ W.cell? ⟨y, 0, none⟩ = some (.slice (some ⟨b, 0, none⟩) n c) ∧ W.cell? ⟨y, 1, none⟩ = some (.int .i64 al.1) ∧ W.cell? ⟨y, 2, none⟩ = some (.int .i64 al.2.1) ∧ W.cell? ⟨y, 3, none⟩ = some (.int .i64 al.2.2) ∧ W.cell? ⟨y, 4, none⟩ = some (.int .i64 ah.1) ∧ W.cell? ⟨y, 5, none⟩ = some (.int .i64 ah.2.1) ∧ W.cell? ⟨y, 6, none⟩ = some (.int .i64 ah.2.2))) (FC : Hid (∀ W, G W → Calls Try.prog 157 #[grv b n c al ah, grv d m e bl bh] W fun e w' => e = .returned (.int .i64 f) ∧ Below W.heap.size W w')) (KC : Hid (∀ W, Calls Try.prog 53 #[.int .i64 f, .int .i64 sc] W fun e w' => e = .returned (spr r) ∧ Below W.heap.size W w')) (GI : Hid (∀ W W' : World, Below N W W' → G W → G W')) (hN : N ≤ W.heap.size) (g0 : G W.drew)
    (hK : ∀ (x6 x7 x8 x9 x10 x11 x12 x13 x14 x15 x16 x17 x18 : Value) (b0 : Nat) (W' : World), N ≤ W'.heap.size → G W' → N ≤ b0 → OwP W' b0 (r.1) → Q .normal { tmps := #[y0, y1, .pointer (some ⟨x, 0, none⟩), .pointer (some ⟨y, 0, none⟩), .int .i64 0, .pointer (some ⟨b0, 0, none⟩), x6, x7, x8, x9, x10, x11, x12, x13, x14, x15, x16, x17, x18, y19, y20], defers := [] } W') :
    Code.wp Try.prog (.region 1 flocOps true) Q { tmps := #[y0, y1, .pointer (some ⟨x, 0, none⟩), .pointer (some ⟨y, 0, none⟩), .int .i64 0, x5, x6, x7, x8, x9, x10, x11, x12, x13, x14, x15, x16, x17, x18, y19, y20], defers := [] } W := by
  refine wp_region_inv (flocI G N x y b n c d m e al ah bl bh sc f r y0 y1 y19 y20) (by kernel_rfl) ?_ (floc_steps G N x y b n c d m e al ah bl bh sc f r y0 y1 y19 y20 Q GC FC KC GI) ?_
  · exact ⟨by simp [flocOps], fun i => (#[undef, undef, undef, undef, undef, x5, x6, x7, x8, x9, x10, x11, x12, x13, x14, x15, x16, x17, x18, undef, undef] : Array Value).getD i undef, rfl, hN, g0, PV.nought, PV.nought, PV.nought, PV.nought, PV.nought, PV.nought, PV.nought, PV.nought, PV.nought, PV.nought, PV.nought, PV.nought, PV.nought, QX.nought⟩
  · rintro l A W ⟨hl, X, rfl, hN, g, p0, p1, p2, p3, p4, p5, p6, p7, p8, p9, p10, p11, p14, qa0⟩ hr
    unfold flocOps at hr
    have l0 := ready_end hr 0 (by rw [hl]; decide) rfl (fun e he hbn => by
      simp at he
      (try (repeat (rcases he with rfl | he; · first | assumption | exact absurd hbn (by decide))))
      (try (first | exact he.elim | (subst he; first | assumption | exact absurd hbn (by decide)))))
    have l1 := ready_end hr 1 (by rw [hl]; decide) rfl (fun e he hbn => by
      simp at he
      (try (repeat (rcases he with rfl | he; · first | assumption | exact absurd hbn (by decide))))
      (try (first | exact he.elim | (subst he; first | assumption | exact absurd hbn (by decide)))))
    have l2 := ready_end hr 2 (by rw [hl]; decide) rfl (fun e he hbn => by
      simp at he
      (try (repeat (rcases he with rfl | he; · first | assumption | exact absurd hbn (by decide))))
      (try (first | exact he.elim | (subst he; first | assumption | exact absurd hbn (by decide)))))
    have l3 := ready_end hr 3 (by rw [hl]; decide) rfl (fun e he hbn => by
      simp at he
      (try (repeat (rcases he with rfl | he; · first | assumption | exact absurd hbn (by decide))))
      (try (first | exact he.elim | (subst he; first | assumption | exact absurd hbn (by decide)))))
    have l4 := ready_end hr 4 (by rw [hl]; decide) rfl (fun e he hbn => by
      simp at he
      (try (repeat (rcases he with rfl | he; · first | assumption | exact absurd hbn (by decide))))
      (try (first | exact he.elim | (subst he; first | assumption | exact absurd hbn (by decide)))))
    have l5 := ready_end hr 5 (by rw [hl]; decide) rfl (fun e he hbn => by
      simp at he
      (try (repeat (rcases he with rfl | he; · first | assumption | exact absurd hbn (by decide))))
      (try (first | exact he.elim | (subst he; first | assumption | exact absurd hbn (by decide)))))
    have l6 := ready_end hr 6 (by rw [hl]; decide) rfl (fun e he hbn => by
      simp at he
      (try (repeat (rcases he with rfl | he; · first | assumption | exact absurd hbn (by decide))))
      (try (first | exact he.elim | (subst he; first | assumption | exact absurd hbn (by decide)))))
    have l7 := ready_end hr 7 (by rw [hl]; decide) rfl (fun e he hbn => by
      simp at he
      (try (repeat (rcases he with rfl | he; · first | assumption | exact absurd hbn (by decide))))
      (try (first | exact he.elim | (subst he; first | assumption | exact absurd hbn (by decide)))))
    have l8 := ready_end hr 8 (by rw [hl]; decide) rfl (fun e he hbn => by
      simp at he
      (try (repeat (rcases he with rfl | he; · first | assumption | exact absurd hbn (by decide))))
      (try (first | exact he.elim | (subst he; first | assumption | exact absurd hbn (by decide)))))
    have l9 := ready_end hr 9 (by rw [hl]; decide) rfl (fun e he hbn => by
      simp at he
      (try (repeat (rcases he with rfl | he; · first | assumption | exact absurd hbn (by decide))))
      (try (first | exact he.elim | (subst he; first | assumption | exact absurd hbn (by decide)))))
    have l10 := ready_end hr 10 (by rw [hl]; decide) rfl (fun e he hbn => by
      simp at he
      (try (repeat (rcases he with rfl | he; · first | assumption | exact absurd hbn (by decide))))
      (try (first | exact he.elim | (subst he; first | assumption | exact absurd hbn (by decide)))))
    have l11 := ready_end hr 11 (by rw [hl]; decide) rfl (fun e he hbn => by
      simp at he
      (try (repeat (rcases he with rfl | he; · first | assumption | exact absurd hbn (by decide))))
      (try (first | exact he.elim | (subst he; first | assumption | exact absurd hbn (by decide)))))
    have l12 := ready_end hr 12 (by rw [hl]; decide) rfl (fun e he hbn => by
      simp at he
      (try (repeat (rcases he with rfl | he; · first | assumption | exact absurd hbn (by decide))))
      (try (first | exact he.elim | (subst he; first | assumption | exact absurd hbn (by decide)))))
    have l13 := ready_end hr 13 (by rw [hl]; decide) rfl (fun e he hbn => by
      simp at he
      (try (repeat (rcases he with rfl | he; · first | assumption | exact absurd hbn (by decide))))
      (try (first | exact he.elim | (subst he; first | assumption | exact absurd hbn (by decide)))))
    have l14 := ready_end hr 14 (by rw [hl]; decide) rfl (fun e he hbn => by
      simp at he
      (try (repeat (rcases he with rfl | he; · first | assumption | exact absurd hbn (by decide))))
      (try (first | exact he.elim | (subst he; first | assumption | exact absurd hbn (by decide)))))
    obtain ⟨b0, v0, e0x, n0, o0, t0⟩ := qa0.2 l12
    obtain rfl := t0 l13
    have z := hK (X 6) (X 7) (X 8) (X 9) (X 10) (X 11) (X 12) (X 13) (X 14) (X 15) (X 16) (X 17) (X 18) b0 W hN g n0 o0
    rw [← e0x] at z
    exact z
def fhicOps : Array Oper := #[{ dst := some 8, op := Op.fieldAddr 132 (Operand.tmp 2) 2, type := 0, pos := "view.go:32", after := #[], guard := none }, { dst := some 9, op := Op.load 128 (Operand.tmp 8), type := 128, pos := "view.go:32", after := #[{ on := 0, ground := Ground.data }], guard := none }, { dst := some 10, op := Op.load 101 (Operand.tmp 3), type := 101, pos := "view.go:32", after := #[], guard := none }, { dst := some 11, op := Op.fieldAddr 132 (Operand.tmp 2) 0, type := 0, pos := "view.go:32", after := #[], guard := none }, { dst := some 12, op := Op.load 101 (Operand.tmp 11), type := 101, pos := "view.go:32", after := #[{ on := 3, ground := Ground.data }], guard := none }, { dst := some 13, op := Op.call { callee := Callee.value (Operand.func 155), args := #[Operand.tmp 10, Operand.tmp 12], argTypes := #[101, 101] }, type := 3, pos := "view.go:32", after := #[{ on := 2, ground := Ground.data }, { on := 4, ground := Ground.data }], guard := none }, { dst := some 14, op := Op.fieldAddr 132 (Operand.tmp 2) 1, type := 0, pos := "view.go:32", after := #[], guard := none }, { dst := some 15, op := Op.load 3 (Operand.tmp 14), type := 3, pos := "view.go:32", after := #[{ on := 6, ground := Ground.data }], guard := none }, { dst := some 16, op := Op.call { callee := Callee.value (Operand.tmp 9), args := #[Operand.tmp 13, Operand.tmp 15], argTypes := #[3, 3] }, type := 36, pos := "view.go:32", after := #[{ on := 1, ground := Ground.data }, { on := 5, ground := Ground.data }, { on := 7, ground := Ground.data }, { on := 5, ground := Ground.chain }], guard := none }, { dst := some 7, op := Op.move (Operand.tmp 16), type := 36, pos := "view.go:32", after := #[{ on := 8, ground := Ground.data }], guard := none }, { dst := some 17, op := Op.extract (Operand.tmp 7) 0, type := 35, pos := "view.go:32", after := #[{ on := 9, ground := Ground.data }], guard := none }, { dst := some 18, op := Op.extract (Operand.tmp 7) 1, type := 27, pos := "view.go:32", after := #[{ on := 9, ground := Ground.data }, { on := 13, ground := Ground.gcOnly Departure.lateStores }], guard := none }, { dst := some 5, op := Op.alloc 35, type := 0, pos := "view.go:32", after := #[], guard := none }, { dst := none, op := Op.store 35 (Operand.tmp 5) (Operand.tmp 17), type := 0, pos := "view.go:32", after := #[{ on := 12, ground := Ground.data }, { on := 10, ground := Ground.data }, { on := 8, ground := Ground.chain }, { on := 0, ground := Ground.phase }, { on := 1, ground := Ground.phase }, { on := 2, ground := Ground.phase }, { on := 3, ground := Ground.phase }, { on := 4, ground := Ground.phase }, { on := 5, ground := Ground.phase }, { on := 6, ground := Ground.phase }, { on := 7, ground := Ground.phase }, { on := 8, ground := Ground.phase }, { on := 9, ground := Ground.phase }, { on := 10, ground := Ground.phase }, { on := 11, ground := Ground.textOnly Departure.lateStores }, { on := 12, ground := Ground.phase }], guard := none }, { dst := some 6, op := Op.assign (Operand.tmp 18), type := 27, pos := "view.go:32", after := #[{ on := 11, ground := Ground.data }, { on := 13, ground := Ground.chain }, { on := 0, ground := Ground.phase }, { on := 1, ground := Ground.phase }, { on := 2, ground := Ground.phase }, { on := 3, ground := Ground.phase }, { on := 4, ground := Ground.phase }, { on := 5, ground := Ground.phase }, { on := 6, ground := Ground.phase }, { on := 7, ground := Ground.phase }, { on := 8, ground := Ground.phase }, { on := 9, ground := Ground.phase }, { on := 10, ground := Ground.phase }, { on := 11, ground := Ground.phase }, { on := 12, ground := Ground.phase }, { on := 13, ground := Ground.phase }], guard := none }]
def fhicT (x : Nat) (y : Nat) (y0 y1 y19 y20 : Value) (X : Nat → Value) : Array Value := #[y0, y1, .pointer (some ⟨x, 0, none⟩), .pointer (some ⟨y, 0, none⟩), .int .i64 0, X 5, X 6, X 7, X 8, X 9, X 10, X 11, X 12, X 13, X 14, X 15, X 16, X 17, X 18, y19, y20]
theorem fhicT_eq (x : Nat) (y : Nat) (y0 y1 y19 y20 : Value) (X : Nat → Value) : fhicT x y y0 y1 y19 y20 X = #[y0, y1, .pointer (some ⟨x, 0, none⟩), .pointer (some ⟨y, 0, none⟩), .int .i64 0, X 5, X 6, X 7, X 8, X 9, X 10, X 11, X 12, X 13, X 14, X 15, X 16, X 17, X 18, y19, y20] := rfl
def fhicI (G : World → Prop) (N : Nat) (x y b n c d m e : Nat) (al ah bl bh : P3) (sc f : Int) (r : Sp.R) (y0 y1 y19 y20 : Value) (l : Array Bool) (A : Act) (W : World) : Prop :=
  l.size = 15 ∧ ∃ X : Nat → Value, A = { tmps := fhicT x y y0 y1 y19 y20 X, defers := [] } ∧ N ≤ W.heap.size ∧ G W ∧ PV l 0 (X 8) (.pointer (some ⟨x, 8, none⟩)) ∧ PV l 1 (X 9) (.func (.func 53) #[] #[]) ∧ PV l 2 (X 10) (grv b n c al ah) ∧ PV l 3 (X 11) (.pointer (some ⟨x, 0, none⟩)) ∧ PV l 4 (X 12) (grv d m e bl bh) ∧ PV l 5 (X 13) (.int .i64 f) ∧ PV l 6 (X 14) (.pointer (some ⟨x, 7, none⟩)) ∧ PV l 7 (X 15) (.int .i64 sc) ∧ PV l 8 (X 16) (spr r) ∧ PV l 9 (X 7) (spr r) ∧ PV l 10 (X 17) (.agg #[.int .i64 r.1.1, .int .i64 r.1.2]) ∧ PV l 11 (X 18) (.int .i64 r.2) ∧ PV l 14 (X 6) (.int .i64 r.2) ∧ QX OwP l W (X 5) 12 13 N (r.1)
set_option maxRecDepth 100000 in
set_option maxHeartbeats 4000000 in
theorem fhic_steps (G : World → Prop) (N : Nat) (x y b n c d m e : Nat) (al ah bl bh : P3) (sc f : Int) (r : Sp.R) (y0 y1 y19 y20 : Value) (Q : Exit → Act → World → Prop) (GC : Hid (∀ W : World, G W → W.cell? ⟨x, 0, none⟩ = some (.slice (some ⟨d, 0, none⟩) m e) ∧ W.cell? ⟨x, 1, none⟩ = some (.int .i64 bl.1) ∧ W.cell? ⟨x, 2, none⟩ = some (.int .i64 bl.2.1) ∧ W.cell? ⟨x, 3, none⟩ = some (.int .i64 bl.2.2) ∧ W.cell? ⟨x, 4, none⟩ = some (.int .i64 bh.1) ∧ W.cell? ⟨x, 5, none⟩ = some (.int .i64 bh.2.1) ∧ W.cell? ⟨x, 6, none⟩ = some (.int .i64 bh.2.2) ∧ W.cell? ⟨x, 7, none⟩ = some (.int .i64 sc) ∧ W.cell? ⟨x, 8, none⟩ = some (.func (.func 53) #[] #[]) ∧ W.cell? ⟨y, 0, none⟩ = some (.slice (some ⟨b, 0, none⟩) n c) ∧ W.cell? ⟨y, 1, none⟩ = some (.int .i64 al.1) ∧ W.cell? ⟨y, 2, none⟩ = some (.int .i64 al.2.1) ∧ W.cell? ⟨y, 3, none⟩ = some (.int .i64 al.2.2) ∧ W.cell? ⟨y, 4, none⟩ = some (.int .i64 ah.1) ∧ W.cell? ⟨y, 5, none⟩ = some (.int .i64 ah.2.1) ∧ W.cell? ⟨y, 6, none⟩ = some (.int .i64 ah.2.2))) (FC : Hid (∀ W, G W → Calls Try.prog 155 #[grv b n c al ah, grv d m e bl bh] W fun e w' => e = .returned (.int .i64 f) ∧ Below W.heap.size W w')) (KC : Hid (∀ W, Calls Try.prog 53 #[.int .i64 f, .int .i64 sc] W fun e w' => e = .returned (spr r) ∧ Below W.heap.size W w')) (GI : Hid (∀ W W' : World, Below N W W' → G W → G W')) :
    allOps (fun i o => ∀ (l : Array Bool) (A : Act) (W : World), fhicI G N x y b n c d m e al ah bl bh sc f r y0 y1 y19 y20 l A W → l.getD i true = false → (∀ e ∈ o.after, Region.binds .any e = true → l.getD e.on false = true) → ∀ K' : Act → World → Prop, (∀ A' W', fhicI G N x y b n c d m e al ah bl bh sc f r y0 y1 y19 y20 (l.setIfInBounds i true) A' W' → K' A' W') → if Region.wanted o (yielded fhicOps A.tmps) = true then Oper.wp Try.prog o A W K' Q else K' (A.put o.dst undef) W) 0 fhicOps.toList := by
  simp only [fhicOps, allOps]
  refine ⟨?_, ?_, ?_, ?_, ?_, ?_, ?_, ?_, ?_, ?_, ?_, ?_, ?_, ?_, ?_, trivial⟩
  · rintro l A W ⟨hl, X, rfl, hN, g, F⟩ h1 hp K hK
    rw [fhicT_eq]
    have g' := Lib.hid g
    have F' := Lib.hid F; clear F g
    have hN' := Lib.hid hN; clear hN; have hl' := Lib.hid hl; clear hl; have h1' := Lib.hid h1; clear h1; have hp' := Lib.hid hp; clear hp; have hK' := Lib.hid hK; clear hK
    go_simp
    have hK := hK'.out; have hN := hN'.out; have hl := hl'.out; have h1 := h1'.out
    obtain ⟨p0, p1, p2, p3, p4, p5, p6, p7, p8, p9, p10, p11, p14, qa0⟩ := F'.out
    have g := g'.out
    refine hK _ _ ⟨by simpa using hl, (upd X 8 (.pointer (some ⟨x, 8, none⟩))), rfl, hN, g, PV.made rfl, p1.k, p2.k, p3.k, p4.k, p5.k, p6.k, p7.k, p8.k, p9.k, p10.k, p11.k, p14.k, qa0.keep (by decide) (by decide) (fun _ _ h => h)⟩
  · rintro l A W ⟨hl, X, rfl, hN, g, F⟩ h1 hp K hK
    have e0 := F.1 (hp ⟨0, .data⟩ (by simp) rfl)
    obtain ⟨c0, c1, c2, c3, c4, c5, c6, v7, v8, d0, d1, d2, d3, d4, d5, d6⟩ := GC.out W g
    rw [fhicT_eq]
    have g' := Lib.hid g
    have F' := Lib.hid F; clear F g
    have hN' := Lib.hid hN; clear hN; have hl' := Lib.hid hl; clear hl; have h1' := Lib.hid h1; clear h1; have hp' := Lib.hid hp; clear hp; have hK' := Lib.hid hK; clear hK
    go_simp
    have hK := hK'.out; have hN := hN'.out; have hl := hl'.out; have h1 := h1'.out
    obtain ⟨p0, p1, p2, p3, p4, p5, p6, p7, p8, p9, p10, p11, p14, qa0⟩ := F'.out
    have g := g'.out
    refine hK _ _ ⟨by simpa using hl, (upd (upd X 8 (.pointer (some ⟨x, 8, none⟩))) 9 (.func (.func 53) #[] #[])), rfl, hN, g, PV.made rfl, PV.made rfl, p2.k, p3.k, p4.k, p5.k, p6.k, p7.k, p8.k, p9.k, p10.k, p11.k, p14.k, qa0.keep (by decide) (by decide) (fun _ _ h => h)⟩
  · rintro l A W ⟨hl, X, rfl, hN, g, F⟩ h1 hp K hK
    obtain ⟨c0, c1, c2, c3, c4, c5, c6, v7, v8, d0, d1, d2, d3, d4, d5, d6⟩ := GC.out W g
    rw [fhicT_eq]
    have g' := Lib.hid g
    have F' := Lib.hid F; clear F g
    have hN' := Lib.hid hN; clear hN; have hl' := Lib.hid hl; clear hl; have h1' := Lib.hid h1; clear h1; have hp' := Lib.hid hp; clear hp; have hK' := Lib.hid hK; clear hK
    go_simp
    have hK := hK'.out; have hN := hN'.out; have hl := hl'.out; have h1 := h1'.out
    obtain ⟨p0, p1, p2, p3, p4, p5, p6, p7, p8, p9, p10, p11, p14, qa0⟩ := F'.out
    have g := g'.out
    refine hK _ _ ⟨by simpa using hl, (upd X 10 (grv b n c al ah)), rfl, hN, g, p0.k, p1.k, PV.made rfl, p3.k, p4.k, p5.k, p6.k, p7.k, p8.k, p9.k, p10.k, p11.k, p14.k, qa0.keep (by decide) (by decide) (fun _ _ h => h)⟩
  · rintro l A W ⟨hl, X, rfl, hN, g, F⟩ h1 hp K hK
    rw [fhicT_eq]
    have g' := Lib.hid g
    have F' := Lib.hid F; clear F g
    have hN' := Lib.hid hN; clear hN; have hl' := Lib.hid hl; clear hl; have h1' := Lib.hid h1; clear h1; have hp' := Lib.hid hp; clear hp; have hK' := Lib.hid hK; clear hK
    go_simp
    have hK := hK'.out; have hN := hN'.out; have hl := hl'.out; have h1 := h1'.out
    obtain ⟨p0, p1, p2, p3, p4, p5, p6, p7, p8, p9, p10, p11, p14, qa0⟩ := F'.out
    have g := g'.out
    refine hK _ _ ⟨by simpa using hl, (upd X 11 (.pointer (some ⟨x, 0, none⟩))), rfl, hN, g, p0.k, p1.k, p2.k, PV.made rfl, p4.k, p5.k, p6.k, p7.k, p8.k, p9.k, p10.k, p11.k, p14.k, qa0.keep (by decide) (by decide) (fun _ _ h => h)⟩
  · rintro l A W ⟨hl, X, rfl, hN, g, F⟩ h1 hp K hK
    have e3 := F.2.2.2.1 (hp ⟨3, .data⟩ (by simp) rfl)
    obtain ⟨c0, c1, c2, c3, c4, c5, c6, v7, v8, d0, d1, d2, d3, d4, d5, d6⟩ := GC.out W g
    rw [fhicT_eq]
    have g' := Lib.hid g
    have F' := Lib.hid F; clear F g
    have hN' := Lib.hid hN; clear hN; have hl' := Lib.hid hl; clear hl; have h1' := Lib.hid h1; clear h1; have hp' := Lib.hid hp; clear hp; have hK' := Lib.hid hK; clear hK
    go_simp
    have hK := hK'.out; have hN := hN'.out; have hl := hl'.out; have h1 := h1'.out
    obtain ⟨p0, p1, p2, p3, p4, p5, p6, p7, p8, p9, p10, p11, p14, qa0⟩ := F'.out
    have g := g'.out
    refine hK _ _ ⟨by simpa using hl, (upd (upd X 11 (.pointer (some ⟨x, 0, none⟩))) 12 (grv d m e bl bh)), rfl, hN, g, p0.k, p1.k, p2.k, PV.made rfl, PV.made rfl, p5.k, p6.k, p7.k, p8.k, p9.k, p10.k, p11.k, p14.k, qa0.keep (by decide) (by decide) (fun _ _ h => h)⟩
  · rintro l A W ⟨hl, X, rfl, hN, g, F⟩ h1 hp K hK
    have e2 := F.2.2.1 (hp ⟨2, .data⟩ (by simp) rfl)
    have e4 := F.2.2.2.2.1 (hp ⟨4, .data⟩ (by simp) rfl)
    rw [fhicT_eq]
    have g' := Lib.hid g
    have F' := Lib.hid F; clear F g
    have hN' := Lib.hid hN; clear hN; have hl' := Lib.hid hl; clear hl; have h1' := Lib.hid h1; clear h1; have hp' := Lib.hid hp; clear hp; have hK' := Lib.hid hK; clear hK
    go_simp
    go_at_call 155
    refine (FC.out W g'.out).mono ?_
    rintro e W1 ⟨rfl, hb⟩
    (try dsimp only)
    have hK := hK'.out; have hN := hN'.out; have hl := hl'.out; have h1 := h1'.out
    obtain ⟨p0, p1, p2, p3, p4, p5, p6, p7, p8, p9, p10, p11, p14, qa0⟩ := F'.out
    have g := g'.out
    refine hK _ _ ⟨by simpa using hl, (upd (upd (upd X 10 (grv b n c al ah)) 12 (grv d m e bl bh)) 13 (.int .i64 f)), rfl, Nat.le_trans hN hb.size, GI.out _ _ (hb.mono hN) g, p0.k, p1.k, PV.made rfl, p3.k, PV.made rfl, PV.made rfl, p6.k, p7.k, p8.k, p9.k, p10.k, p11.k, p14.k, qa0.keep (by decide) (by decide) (fun _ _ h => owp_below h hb)⟩
  · rintro l A W ⟨hl, X, rfl, hN, g, F⟩ h1 hp K hK
    rw [fhicT_eq]
    have g' := Lib.hid g
    have F' := Lib.hid F; clear F g
    have hN' := Lib.hid hN; clear hN; have hl' := Lib.hid hl; clear hl; have h1' := Lib.hid h1; clear h1; have hp' := Lib.hid hp; clear hp; have hK' := Lib.hid hK; clear hK
    go_simp
    have hK := hK'.out; have hN := hN'.out; have hl := hl'.out; have h1 := h1'.out
    obtain ⟨p0, p1, p2, p3, p4, p5, p6, p7, p8, p9, p10, p11, p14, qa0⟩ := F'.out
    have g := g'.out
    refine hK _ _ ⟨by simpa using hl, (upd X 14 (.pointer (some ⟨x, 7, none⟩))), rfl, hN, g, p0.k, p1.k, p2.k, p3.k, p4.k, p5.k, PV.made rfl, p7.k, p8.k, p9.k, p10.k, p11.k, p14.k, qa0.keep (by decide) (by decide) (fun _ _ h => h)⟩
  · rintro l A W ⟨hl, X, rfl, hN, g, F⟩ h1 hp K hK
    have e6 := F.2.2.2.2.2.2.1 (hp ⟨6, .data⟩ (by simp) rfl)
    obtain ⟨c0, c1, c2, c3, c4, c5, c6, v7, v8, d0, d1, d2, d3, d4, d5, d6⟩ := GC.out W g
    rw [fhicT_eq]
    have g' := Lib.hid g
    have F' := Lib.hid F; clear F g
    have hN' := Lib.hid hN; clear hN; have hl' := Lib.hid hl; clear hl; have h1' := Lib.hid h1; clear h1; have hp' := Lib.hid hp; clear hp; have hK' := Lib.hid hK; clear hK
    go_simp
    have hK := hK'.out; have hN := hN'.out; have hl := hl'.out; have h1 := h1'.out
    obtain ⟨p0, p1, p2, p3, p4, p5, p6, p7, p8, p9, p10, p11, p14, qa0⟩ := F'.out
    have g := g'.out
    refine hK _ _ ⟨by simpa using hl, (upd (upd X 14 (.pointer (some ⟨x, 7, none⟩))) 15 (.int .i64 sc)), rfl, hN, g, p0.k, p1.k, p2.k, p3.k, p4.k, p5.k, PV.made rfl, PV.made rfl, p8.k, p9.k, p10.k, p11.k, p14.k, qa0.keep (by decide) (by decide) (fun _ _ h => h)⟩
  · rintro l A W ⟨hl, X, rfl, hN, g, F⟩ h1 hp K hK
    have e1 := F.2.1 (hp ⟨1, .data⟩ (by simp) rfl)
    have e5 := F.2.2.2.2.2.1 (hp ⟨5, .data⟩ (by simp) rfl)
    have e7 := F.2.2.2.2.2.2.2.1 (hp ⟨7, .data⟩ (by simp) rfl)
    rw [fhicT_eq]
    have g' := Lib.hid g
    have F' := Lib.hid F; clear F g
    have hN' := Lib.hid hN; clear hN; have hl' := Lib.hid hl; clear hl; have h1' := Lib.hid h1; clear h1; have hp' := Lib.hid hp; clear hp; have hK' := Lib.hid hK; clear hK
    go_simp
    go_at_call 53
    refine (KC.out W).mono ?_
    rintro e W1 ⟨rfl, hb⟩
    (try dsimp only)
    have hK := hK'.out; have hN := hN'.out; have hl := hl'.out; have h1 := h1'.out
    obtain ⟨p0, p1, p2, p3, p4, p5, p6, p7, p8, p9, p10, p11, p14, qa0⟩ := F'.out
    have g := g'.out
    refine hK _ _ ⟨by simpa using hl, (upd (upd (upd (upd X 9 (.func (.func 53) #[] #[])) 13 (.int .i64 f)) 15 (.int .i64 sc)) 16 (spr r)), rfl, Nat.le_trans hN hb.size, GI.out _ _ (hb.mono hN) g, p0.k, PV.made rfl, p2.k, p3.k, p4.k, PV.made rfl, p6.k, PV.made rfl, PV.made rfl, p9.k, p10.k, p11.k, p14.k, qa0.keep (by decide) (by decide) (fun _ _ h => owp_below h hb)⟩
  · rintro l A W ⟨hl, X, rfl, hN, g, F⟩ h1 hp K hK
    have e8 := F.2.2.2.2.2.2.2.2.1 (hp ⟨8, .data⟩ (by simp) rfl)
    rw [fhicT_eq]
    have g' := Lib.hid g
    have F' := Lib.hid F; clear F g
    have hN' := Lib.hid hN; clear hN; have hl' := Lib.hid hl; clear hl; have h1' := Lib.hid h1; clear h1; have hp' := Lib.hid hp; clear hp; have hK' := Lib.hid hK; clear hK
    go_simp
    have hK := hK'.out; have hN := hN'.out; have hl := hl'.out; have h1 := h1'.out
    obtain ⟨p0, p1, p2, p3, p4, p5, p6, p7, p8, p9, p10, p11, p14, qa0⟩ := F'.out
    have g := g'.out
    refine hK _ _ ⟨by simpa using hl, (upd (upd X 16 (spr r)) 7 (spr r)), rfl, hN, g, p0.k, p1.k, p2.k, p3.k, p4.k, p5.k, p6.k, p7.k, PV.made rfl, PV.made rfl, p10.k, p11.k, p14.k, qa0.keep (by decide) (by decide) (fun _ _ h => h)⟩
  · rintro l A W ⟨hl, X, rfl, hN, g, F⟩ h1 hp K hK
    have e9 := F.2.2.2.2.2.2.2.2.2.1 (hp ⟨9, .data⟩ (by simp) rfl)
    rw [fhicT_eq]
    have g' := Lib.hid g
    have F' := Lib.hid F; clear F g
    have hN' := Lib.hid hN; clear hN; have hl' := Lib.hid hl; clear hl; have h1' := Lib.hid h1; clear h1; have hp' := Lib.hid hp; clear hp; have hK' := Lib.hid hK; clear hK
    go_simp
    have hK := hK'.out; have hN := hN'.out; have hl := hl'.out; have h1 := h1'.out
    obtain ⟨p0, p1, p2, p3, p4, p5, p6, p7, p8, p9, p10, p11, p14, qa0⟩ := F'.out
    have g := g'.out
    refine hK _ _ ⟨by simpa using hl, (upd (upd X 7 (spr r)) 17 (.agg #[.int .i64 r.1.1, .int .i64 r.1.2])), rfl, hN, g, p0.k, p1.k, p2.k, p3.k, p4.k, p5.k, p6.k, p7.k, p8.k, PV.made rfl, PV.made rfl, p11.k, p14.k, qa0.keep (by decide) (by decide) (fun _ _ h => h)⟩
  · rintro l A W ⟨hl, X, rfl, hN, g, F⟩ h1 hp K hK
    have e9 := F.2.2.2.2.2.2.2.2.2.1 (hp ⟨9, .data⟩ (by simp) rfl)
    rw [fhicT_eq]
    have g' := Lib.hid g
    have F' := Lib.hid F; clear F g
    have hN' := Lib.hid hN; clear hN; have hl' := Lib.hid hl; clear hl; have h1' := Lib.hid h1; clear h1; have hp' := Lib.hid hp; clear hp; have hK' := Lib.hid hK; clear hK
    go_simp
    have hK := hK'.out; have hN := hN'.out; have hl := hl'.out; have h1 := h1'.out
    obtain ⟨p0, p1, p2, p3, p4, p5, p6, p7, p8, p9, p10, p11, p14, qa0⟩ := F'.out
    have g := g'.out
    refine hK _ _ ⟨by simpa using hl, (upd (upd X 7 (spr r)) 18 (.int .i64 r.2)), rfl, hN, g, p0.k, p1.k, p2.k, p3.k, p4.k, p5.k, p6.k, p7.k, p8.k, PV.made rfl, p10.k, PV.made rfl, p14.k, qa0.keep (by decide) (by decide) (fun _ _ h => h)⟩
  · rintro l A W ⟨hl, X, rfl, hN, g, F⟩ h1 hp K hK
    rw [fhicT_eq]
    have g' := Lib.hid g
    have F' := Lib.hid F; clear F g
    have hN' := Lib.hid hN; clear hN; have hl' := Lib.hid hl; clear hl; have h1' := Lib.hid h1; clear h1; have hp' := Lib.hid hp; clear hp; have hK' := Lib.hid hK; clear hK
    go_simp
    have hK := hK'.out; have hN := hN'.out; have hl := hl'.out; have h1 := h1'.out
    obtain ⟨p0, p1, p2, p3, p4, p5, p6, p7, p8, p9, p10, p11, p14, qa0⟩ := F'.out
    have g := g'.out
    refine hK _ _ ⟨by simpa using hl, (upd X 5 (.pointer (some ⟨W.heap.size, 0, none⟩))), rfl, (by simp; omega), GI.out _ _ (((Below.refl _ W).alloc (Nat.le_refl _) _).mono hN) g, p0.k, p1.k, p2.k, p3.k, p4.k, p5.k, p6.k, p7.k, p8.k, p9.k, p10.k, p11.k, p14.k, qa0.made (by decide) (by rw [hl]; decide) h1 hN (owp_new W (0, 0) _)⟩
  · rintro l A W ⟨hl, X, rfl, hN, g, F⟩ h1 hp K hK
    have la := hp ⟨12, .data⟩ (by simp) rfl
    have e10 := F.2.2.2.2.2.2.2.2.2.2.1 (hp ⟨10, .data⟩ (by simp) rfl)
    obtain ⟨b', v', e2, hb', ow, _⟩ := F.2.2.2.2.2.2.2.2.2.2.2.2.2.2 la
    obtain ⟨o0, o1, o2, o3, o4⟩ := id ow
    rw [fhicT_eq]
    have g' := Lib.hid g
    have F' := Lib.hid F; clear F g
    have hN' := Lib.hid hN; clear hN; have hl' := Lib.hid hl; clear hl; have h1' := Lib.hid h1; clear h1; have hp' := Lib.hid hp; clear hp; have hK' := Lib.hid hK; clear hK
    have la' := Lib.hid la; clear la; have hb'' := Lib.hid hb'; clear hb'; have ow' := Lib.hid ow; clear ow
    go_simp
    have hK := hK'.out; have hN := hN'.out; have hl := hl'.out; have h1 := h1'.out
    obtain ⟨p0, p1, p2, p3, p4, p5, p6, p7, p8, p9, p10, p11, p14, qa0⟩ := F'.out
    have g := g'.out
    have la := la'.out; have hb' := hb''.out; have ow := ow'.out
    refine hK _ _ ⟨by simpa using hl, (upd (upd X 17 (.agg #[.int .i64 r.1.1, .int .i64 r.1.2])) 5 (.pointer (some ⟨b', 0, none⟩))), rfl, (by simpa using hN), GI.out _ _ (below_set2 _ _ hb') g, p0.k, p1.k, p2.k, p3.k, p4.k, p5.k, p6.k, p7.k, p8.k, p9.k, PV.made rfl, p11.k, p14.k, QX.put (by decide) la rfl hb' (owp_put ow r.1)⟩
  · rintro l A W ⟨hl, X, rfl, hN, g, F⟩ h1 hp K hK
    have e11 := F.2.2.2.2.2.2.2.2.2.2.2.1 (hp ⟨11, .data⟩ (by simp) rfl)
    rw [fhicT_eq]
    have g' := Lib.hid g
    have F' := Lib.hid F; clear F g
    have hN' := Lib.hid hN; clear hN; have hl' := Lib.hid hl; clear hl; have h1' := Lib.hid h1; clear h1; have hp' := Lib.hid hp; clear hp; have hK' := Lib.hid hK; clear hK
    go_simp
    have hK := hK'.out; have hN := hN'.out; have hl := hl'.out; have h1 := h1'.out
    obtain ⟨p0, p1, p2, p3, p4, p5, p6, p7, p8, p9, p10, p11, p14, qa0⟩ := F'.out
    have g := g'.out
    refine hK _ _ ⟨by simpa using hl, (upd (upd X 18 (.int .i64 r.2)) 6 (.int .i64 r.2)), rfl, hN, g, p0.k, p1.k, p2.k, p3.k, p4.k, p5.k, p6.k, p7.k, p8.k, p9.k, p10.k, PV.made rfl, PV.made rfl, qa0.keep (by decide) (by decide) (fun _ _ h => h)⟩
set_option maxRecDepth 100000 in
set_option maxHeartbeats 4000000 in
theorem fhic_reg (G : World → Prop) (N : Nat) (x y b n c d m e : Nat) (al ah bl bh : P3) (sc f : Int) (r : Sp.R) {y0 y1 y19 y20 x5 x6 x7 x8 x9 x10 x11 x12 x13 x14 x15 x16 x17 x18 : Value} {W : World} {Q : Exit → Act → World → Prop} (GC : Hid (∀ W : World, G W → W.cell? ⟨x, 0, none⟩ = some (.slice (some ⟨d, 0, none⟩) m e) ∧ W.cell? ⟨x, 1, none⟩ = some (.int .i64 bl.1) ∧ W.cell? ⟨x, 2, none⟩ = some (.int .i64 bl.2.1) ∧ W.cell? ⟨x, 3, none⟩ = some (.int .i64 bl.2.2) ∧ W.cell? ⟨x, 4, none⟩ = some (.int .i64 bh.1) ∧ W.cell? ⟨x, 5, none⟩ = some (.int .i64 bh.2.1) ∧ W.cell? ⟨x, 6, none⟩ = some (.int .i64 bh.2.2) ∧ W.cell? ⟨x, 7, none⟩ = some (.int .i64 sc) ∧ W.cell? ⟨x, 8, none⟩ = some (.func (.func 53) #[] #[]) ∧ W.cell? ⟨y, 0, none⟩ = some (.slice (some ⟨b, 0, none⟩) n c) ∧ W.cell? ⟨y, 1, none⟩ = some (.int .i64 al.1) ∧ W.cell? ⟨y, 2, none⟩ = some (.int .i64 al.2.1) ∧ W.cell? ⟨y, 3, none⟩ = some (.int .i64 al.2.2) ∧ W.cell? ⟨y, 4, none⟩ = some (.int .i64 ah.1) ∧ W.cell? ⟨y, 5, none⟩ = some (.int .i64 ah.2.1) ∧ W.cell? ⟨y, 6, none⟩ = some (.int .i64 ah.2.2))) (FC : Hid (∀ W, G W → Calls Try.prog 155 #[grv b n c al ah, grv d m e bl bh] W fun e w' => e = .returned (.int .i64 f) ∧ Below W.heap.size W w')) (KC : Hid (∀ W, Calls Try.prog 53 #[.int .i64 f, .int .i64 sc] W fun e w' => e = .returned (spr r) ∧ Below W.heap.size W w')) (GI : Hid (∀ W W' : World, Below N W W' → G W → G W')) (hN : N ≤ W.heap.size) (g0 : G W.drew)
    (hK : ∀ (x6 x7 x8 x9 x10 x11 x12 x13 x14 x15 x16 x17 x18 : Value) (b0 : Nat) (W' : World), N ≤ W'.heap.size → G W' → N ≤ b0 → OwP W' b0 (r.1) → Q .normal { tmps := #[y0, y1, .pointer (some ⟨x, 0, none⟩), .pointer (some ⟨y, 0, none⟩), .int .i64 0, .pointer (some ⟨b0, 0, none⟩), x6, x7, x8, x9, x10, x11, x12, x13, x14, x15, x16, x17, x18, y19, y20], defers := [] } W') :
    Code.wp Try.prog (.region 1 fhicOps true) Q { tmps := #[y0, y1, .pointer (some ⟨x, 0, none⟩), .pointer (some ⟨y, 0, none⟩), .int .i64 0, x5, x6, x7, x8, x9, x10, x11, x12, x13, x14, x15, x16, x17, x18, y19, y20], defers := [] } W := by
  refine wp_region_inv (fhicI G N x y b n c d m e al ah bl bh sc f r y0 y1 y19 y20) (by kernel_rfl) ?_ (fhic_steps G N x y b n c d m e al ah bl bh sc f r y0 y1 y19 y20 Q GC FC KC GI) ?_
  · exact ⟨by simp [fhicOps], fun i => (#[undef, undef, undef, undef, undef, x5, x6, x7, x8, x9, x10, x11, x12, x13, x14, x15, x16, x17, x18, undef, undef] : Array Value).getD i undef, rfl, hN, g0, PV.nought, PV.nought, PV.nought, PV.nought, PV.nought, PV.nought, PV.nought, PV.nought, PV.nought, PV.nought, PV.nought, PV.nought, PV.nought, QX.nought⟩
  · rintro l A W ⟨hl, X, rfl, hN, g, p0, p1, p2, p3, p4, p5, p6, p7, p8, p9, p10, p11, p14, qa0⟩ hr
    unfold fhicOps at hr
    have l0 := ready_end hr 0 (by rw [hl]; decide) rfl (fun e he hbn => by
      simp at he
      (try (repeat (rcases he with rfl | he; · first | assumption | exact absurd hbn (by decide))))
      (try (first | exact he.elim | (subst he; first | assumption | exact absurd hbn (by decide)))))
    have l1 := ready_end hr 1 (by rw [hl]; decide) rfl (fun e he hbn => by
      simp at he
      (try (repeat (rcases he with rfl | he; · first | assumption | exact absurd hbn (by decide))))
      (try (first | exact he.elim | (subst he; first | assumption | exact absurd hbn (by decide)))))
    have l2 := ready_end hr 2 (by rw [hl]; decide) rfl (fun e he hbn => by
      simp at he
      (try (repeat (rcases he with rfl | he; · first | assumption | exact absurd hbn (by decide))))
      (try (first | exact he.elim | (subst he; first | assumption | exact absurd hbn (by decide)))))
    have l3 := ready_end hr 3 (by rw [hl]; decide) rfl (fun e he hbn => by
      simp at he
      (try (repeat (rcases he with rfl | he; · first | assumption | exact absurd hbn (by decide))))
      (try (first | exact he.elim | (subst he; first | assumption | exact absurd hbn (by decide)))))
    have l4 := ready_end hr 4 (by rw [hl]; decide) rfl (fun e he hbn => by
      simp at he
      (try (repeat (rcases he with rfl | he; · first | assumption | exact absurd hbn (by decide))))
      (try (first | exact he.elim | (subst he; first | assumption | exact absurd hbn (by decide)))))
    have l5 := ready_end hr 5 (by rw [hl]; decide) rfl (fun e he hbn => by
      simp at he
      (try (repeat (rcases he with rfl | he; · first | assumption | exact absurd hbn (by decide))))
      (try (first | exact he.elim | (subst he; first | assumption | exact absurd hbn (by decide)))))
    have l6 := ready_end hr 6 (by rw [hl]; decide) rfl (fun e he hbn => by
      simp at he
      (try (repeat (rcases he with rfl | he; · first | assumption | exact absurd hbn (by decide))))
      (try (first | exact he.elim | (subst he; first | assumption | exact absurd hbn (by decide)))))
    have l7 := ready_end hr 7 (by rw [hl]; decide) rfl (fun e he hbn => by
      simp at he
      (try (repeat (rcases he with rfl | he; · first | assumption | exact absurd hbn (by decide))))
      (try (first | exact he.elim | (subst he; first | assumption | exact absurd hbn (by decide)))))
    have l8 := ready_end hr 8 (by rw [hl]; decide) rfl (fun e he hbn => by
      simp at he
      (try (repeat (rcases he with rfl | he; · first | assumption | exact absurd hbn (by decide))))
      (try (first | exact he.elim | (subst he; first | assumption | exact absurd hbn (by decide)))))
    have l9 := ready_end hr 9 (by rw [hl]; decide) rfl (fun e he hbn => by
      simp at he
      (try (repeat (rcases he with rfl | he; · first | assumption | exact absurd hbn (by decide))))
      (try (first | exact he.elim | (subst he; first | assumption | exact absurd hbn (by decide)))))
    have l10 := ready_end hr 10 (by rw [hl]; decide) rfl (fun e he hbn => by
      simp at he
      (try (repeat (rcases he with rfl | he; · first | assumption | exact absurd hbn (by decide))))
      (try (first | exact he.elim | (subst he; first | assumption | exact absurd hbn (by decide)))))
    have l11 := ready_end hr 11 (by rw [hl]; decide) rfl (fun e he hbn => by
      simp at he
      (try (repeat (rcases he with rfl | he; · first | assumption | exact absurd hbn (by decide))))
      (try (first | exact he.elim | (subst he; first | assumption | exact absurd hbn (by decide)))))
    have l12 := ready_end hr 12 (by rw [hl]; decide) rfl (fun e he hbn => by
      simp at he
      (try (repeat (rcases he with rfl | he; · first | assumption | exact absurd hbn (by decide))))
      (try (first | exact he.elim | (subst he; first | assumption | exact absurd hbn (by decide)))))
    have l13 := ready_end hr 13 (by rw [hl]; decide) rfl (fun e he hbn => by
      simp at he
      (try (repeat (rcases he with rfl | he; · first | assumption | exact absurd hbn (by decide))))
      (try (first | exact he.elim | (subst he; first | assumption | exact absurd hbn (by decide)))))
    have l14 := ready_end hr 14 (by rw [hl]; decide) rfl (fun e he hbn => by
      simp at he
      (try (repeat (rcases he with rfl | he; · first | assumption | exact absurd hbn (by decide))))
      (try (first | exact he.elim | (subst he; first | assumption | exact absurd hbn (by decide)))))
    obtain ⟨b0, v0, e0x, n0, o0, t0⟩ := qa0.2 l12
    obtain rfl := t0 l13
    have z := hK (X 6) (X 7) (X 8) (X 9) (X 10) (X 11) (X 12) (X 13) (X 14) (X 15) (X 16) (X 17) (X 18) b0 W hN g n0 o0
    rw [← e0x] at z
    exact z

end Go.Proofs.Ytjigcgpcglfjfaa
