/-
  The contract of the document's Of: the moments of charged panels about a center.
-/
import Derived.Test.YtofjnbebipkgkaaDoorMoR2
import Derived.Test.YtofjnbebipkgkaaDoorMoP6
import Derived.Test.YtofjnbebipkgkaaDoorMoAd
import Derived.Test.YtofjnbebipkgkaaDoorNet2
namespace Go.Proofs.YtofjnbebipkgkaaDoor
open Go.ChangeShapes Go.WideShapes Go.RowKit
open Sh
theorem k_eq4 {K : Act → World → Prop} {a a' : Act} {w : World} (h : a = a') (z : K a w) : K a' w := h ▸ z
theorem Shut.intro4 {p : Prop} (h : p) : Shut p := h
theorem own_write4 {w : World} {b : Nat} {a : P3} (h : Own w b a) (c : P3) : Own (((w.setCell ⟨b, 0, none⟩ (.int .i64 c.1)).setCell ⟨b, 1, none⟩ (.int .i64 c.2.1)).setCell ⟨b, 2, none⟩ (.int .i64 c.2.2)) b c := by
  obtain ⟨h1, h2, h3, h4, h5, h6, h7⟩ := h
  exact ⟨by go_simp, by go_simp, by go_simp, by go_simp, by go_simp, by go_simp, by simpa using h7⟩
theorem own_s3 {w : World} {q r : Nat} {x y z : Value} {a : P3} (h : Own w q a) (n : q ≠ r) : Own (((w.setCell ⟨r, 0, none⟩ x).setCell ⟨r, 1, none⟩ y).setCell ⟨r, 2, none⟩ z) q a := own_set (own_set (own_set h n) n) n
theorem own_in4 {w w1 : World} {b B : Nat} {a : P3} (h : Own w b a) (hb : Below B w w1) (l : b < B) : Own w1 b a := by
  obtain ⟨h1, h2, h3, h4, h5, h6, h7⟩ := h
  exact ⟨(hb.cell (p := ⟨b, 0, none⟩) l).trans h1, (hb.cell (p := ⟨b, 1, none⟩) l).trans h2, (hb.cell (p := ⟨b, 2, none⟩) l).trans h3, (hb.frozen (p := ⟨b, 0, none⟩) l).trans h4, (hb.frozen (p := ⟨b, 1, none⟩) l).trans h5, (hb.frozen (p := ⟨b, 2, none⟩) l).trans h6, Nat.lt_of_lt_of_le h7 hb.size⟩
theorem ownMo_in4 {w w1 : World} {b B : Nat} {m : Mo} (h : OwnMo w b m) (hb : Below B w w1) (l : b < B) : OwnMo w1 b m := by
  obtain ⟨⟨h0, h1, h2, h3, h4, h5, h6, h7, h8, h9, h10⟩, ⟨f0, f1, f2, f3, f4, f5, f6, f7, f8, f9, f10⟩, ll⟩ := h
  exact ⟨⟨(hb.cell (p := ⟨b, 0, none⟩) l).trans h0, (hb.cell (p := ⟨b, 1, none⟩) l).trans h1, (hb.cell (p := ⟨b, 2, none⟩) l).trans h2, (hb.cell (p := ⟨b, 3, none⟩) l).trans h3, (hb.cell (p := ⟨b, 4, none⟩) l).trans h4, (hb.cell (p := ⟨b, 5, none⟩) l).trans h5, (hb.cell (p := ⟨b, 6, none⟩) l).trans h6, (hb.cell (p := ⟨b, 7, none⟩) l).trans h7, (hb.cell (p := ⟨b, 8, none⟩) l).trans h8, (hb.cell (p := ⟨b, 9, none⟩) l).trans h9, (hb.cell (p := ⟨b, 10, none⟩) l).trans h10⟩, ⟨(hb.frozen (p := ⟨b, 0, none⟩) l).trans f0, (hb.frozen (p := ⟨b, 1, none⟩) l).trans f1, (hb.frozen (p := ⟨b, 2, none⟩) l).trans f2, (hb.frozen (p := ⟨b, 3, none⟩) l).trans f3, (hb.frozen (p := ⟨b, 4, none⟩) l).trans f4, (hb.frozen (p := ⟨b, 5, none⟩) l).trans f5, (hb.frozen (p := ⟨b, 6, none⟩) l).trans f6, (hb.frozen (p := ⟨b, 7, none⟩) l).trans f7, (hb.frozen (p := ⟨b, 8, none⟩) l).trans f8, (hb.frozen (p := ⟨b, 9, none⟩) l).trans f9, (hb.frozen (p := ⟨b, 10, none⟩) l).trans f10⟩, Nat.lt_of_lt_of_le ll hb.size⟩
/-- fresh variables beside a world -/
def F1 (W : World) (B : Nat) (q : Option Nat) (u : P3) : Prop := ∀ b, q = some b → Own W b u ∧ B ≤ b
def FNS (B : Nat) (W0 W : World) (q1 q2 q3 : Option Nat) (u1 u2 u3 : P3) : Prop :=
  Below B W0 W ∧ F1 W B q1 u1 ∧ F1 W B q2 u2 ∧ F1 W B q3 u3 ∧ (∀ b c, q1 = some b → q2 = some c → b ≠ c) ∧ (∀ b c, q1 = some b → q3 = some c → b ≠ c) ∧ (∀ b c, q2 = some b → q3 = some c → b ≠ c) ∧ B ≤ W.heap.size
theorem f1_below {W v : World} {B : Nat} {q : Option Nat} {u : P3} (h : F1 W B q u) (hb : Below W.heap.size W v) : F1 v B q u := fun b e => ⟨own_below (h b e).1 hb, (h b e).2⟩
theorem f1_lt {W : World} {B : Nat} {q : Option Nat} {u : P3} (h : F1 W B q u) {b : Nat} (e : q = some b) : b < W.heap.size := (h b e).1.2.2.2.2.2.2
theorem fns_below {B : Nat} {W0 W v : World} {q1 q2 q3 : Option Nat} {u1 u2 u3 : P3} (h : FNS B W0 W q1 q2 q3 u1 u2 u3) (hb : Below W.heap.size W v) : FNS B W0 v q1 q2 q3 u1 u2 u3 := by
  obtain ⟨h0, h1, h2, h3, h4, h5, h6, h7⟩ := h
  exact ⟨h0.trans (hb.mono h7), f1_below h1 hb, f1_below h2 hb, f1_below h3 hb, h4, h5, h6, Nat.le_trans h7 hb.size⟩
theorem fns_a1 {B : Nat} {W0 W : World} {q2 q3 : Option Nat} {u1 u2 u3 : P3} (h : FNS B W0 W none q2 q3 u1 u2 u3) (hz : u1 = (0, 0, 0)) : FNS B W0 (W.alloc (ptc (0, 0, 0) 24)) (some W.heap.size) q2 q3 u1 u2 u3 := by
  subst hz
  obtain ⟨h0, h1, h2, h3, h4, h5, h6, h7⟩ := h
  have E := (Below.refl W.heap.size W).alloc (Nat.le_refl _) (ptc (0, 0, 0) 24)
  exact ⟨h0.trans (E.mono h7), (fun b e => by cases e; exact ⟨own_new W (0, 0, 0) 24, h7⟩), (f1_below h2 E), (f1_below h3 E), (fun b c e f => by cases e; exact fun r => absurd (r ▸ f1_lt h2 f) (Nat.lt_irrefl _)), (fun b c e f => by cases e; exact fun r => absurd (r ▸ f1_lt h3 f) (Nat.lt_irrefl _)), h6, Nat.le_trans h7 E.size⟩
theorem fns_a2 {B : Nat} {W0 W : World} {q1 q3 : Option Nat} {u1 u2 u3 : P3} (h : FNS B W0 W q1 none q3 u1 u2 u3) (hz : u2 = (0, 0, 0)) : FNS B W0 (W.alloc (ptc (0, 0, 0) 24)) q1 (some W.heap.size) q3 u1 u2 u3 := by
  subst hz
  obtain ⟨h0, h1, h2, h3, h4, h5, h6, h7⟩ := h
  have E := (Below.refl W.heap.size W).alloc (Nat.le_refl _) (ptc (0, 0, 0) 24)
  exact ⟨h0.trans (E.mono h7), (f1_below h1 E), (fun b e => by cases e; exact ⟨own_new W (0, 0, 0) 24, h7⟩), (f1_below h3 E), (fun b c e f => by cases f; exact fun r => absurd (r ▸ f1_lt h1 e) (Nat.lt_irrefl _)), h5, (fun b c e f => by cases e; exact fun r => absurd (r ▸ f1_lt h3 f) (Nat.lt_irrefl _)), Nat.le_trans h7 E.size⟩
theorem fns_a3 {B : Nat} {W0 W : World} {q1 q2 : Option Nat} {u1 u2 u3 : P3} (h : FNS B W0 W q1 q2 none u1 u2 u3) (hz : u3 = (0, 0, 0)) : FNS B W0 (W.alloc (ptc (0, 0, 0) 24)) q1 q2 (some W.heap.size) u1 u2 u3 := by
  subst hz
  obtain ⟨h0, h1, h2, h3, h4, h5, h6, h7⟩ := h
  have E := (Below.refl W.heap.size W).alloc (Nat.le_refl _) (ptc (0, 0, 0) 24)
  exact ⟨h0.trans (E.mono h7), (f1_below h1 E), (f1_below h2 E), (fun b e => by cases e; exact ⟨own_new W (0, 0, 0) 24, h7⟩), h4, (fun b c e f => by cases f; exact fun r => absurd (r ▸ f1_lt h1 e) (Nat.lt_irrefl _)), (fun b c e f => by cases f; exact fun r => absurd (r ▸ f1_lt h2 e) (Nat.lt_irrefl _)), Nat.le_trans h7 E.size⟩
theorem fns_s1 {B b : Nat} {W0 W : World} {q2 q3 : Option Nat} {u1 u2 u3 : P3} (A : P3) (h : FNS B W0 W (some b) q2 q3 u1 u2 u3) : FNS B W0 (((W.setCell ⟨b, 0, none⟩ (.int .i64 A.1)).setCell ⟨b, 1, none⟩ (.int .i64 A.2.1)).setCell ⟨b, 2, none⟩ (.int .i64 A.2.2)) (some b) q2 q3 A u2 u3 := by
  obtain ⟨h0, h1, h2, h3, h4, h5, h6, h7⟩ := h
  have o1 := h1 b rfl
  have GG : Below B W (((W.setCell ⟨b, 0, none⟩ (.int .i64 A.1)).setCell ⟨b, 1, none⟩ (.int .i64 A.2.1)).setCell ⟨b, 2, none⟩ (.int .i64 A.2.2)) := (((Below.refl B W).setCell o1.2 _).setCell o1.2 _).setCell o1.2 _
  exact ⟨h0.trans GG, (fun c e => by cases e; exact ⟨own_write4 o1.1 A, o1.2⟩), (fun c e => ⟨own_s3 (h2 c e).1 (fun r => h4 _ _ rfl e r.symm), (h2 c e).2⟩), (fun c e => ⟨own_s3 (h3 c e).1 (fun r => h5 _ _ rfl e r.symm), (h3 c e).2⟩), h4, h5, h6, Nat.le_trans h7 GG.size⟩
theorem fns_s2 {B b : Nat} {W0 W : World} {q1 q3 : Option Nat} {u1 u2 u3 : P3} (A : P3) (h : FNS B W0 W q1 (some b) q3 u1 u2 u3) : FNS B W0 (((W.setCell ⟨b, 0, none⟩ (.int .i64 A.1)).setCell ⟨b, 1, none⟩ (.int .i64 A.2.1)).setCell ⟨b, 2, none⟩ (.int .i64 A.2.2)) q1 (some b) q3 u1 A u3 := by
  obtain ⟨h0, h1, h2, h3, h4, h5, h6, h7⟩ := h
  have o1 := h2 b rfl
  have GG : Below B W (((W.setCell ⟨b, 0, none⟩ (.int .i64 A.1)).setCell ⟨b, 1, none⟩ (.int .i64 A.2.1)).setCell ⟨b, 2, none⟩ (.int .i64 A.2.2)) := (((Below.refl B W).setCell o1.2 _).setCell o1.2 _).setCell o1.2 _
  exact ⟨h0.trans GG, (fun c e => ⟨own_s3 (h1 c e).1 (fun r => h4 _ _ e rfl r), (h1 c e).2⟩), (fun c e => by cases e; exact ⟨own_write4 o1.1 A, o1.2⟩), (fun c e => ⟨own_s3 (h3 c e).1 (fun r => h6 _ _ rfl e r.symm), (h3 c e).2⟩), h4, h5, h6, Nat.le_trans h7 GG.size⟩
theorem fns_s3 {B b : Nat} {W0 W : World} {q1 q2 : Option Nat} {u1 u2 u3 : P3} (A : P3) (h : FNS B W0 W q1 q2 (some b) u1 u2 u3) : FNS B W0 (((W.setCell ⟨b, 0, none⟩ (.int .i64 A.1)).setCell ⟨b, 1, none⟩ (.int .i64 A.2.1)).setCell ⟨b, 2, none⟩ (.int .i64 A.2.2)) q1 q2 (some b) u1 u2 A := by
  obtain ⟨h0, h1, h2, h3, h4, h5, h6, h7⟩ := h
  have o1 := h3 b rfl
  have GG : Below B W (((W.setCell ⟨b, 0, none⟩ (.int .i64 A.1)).setCell ⟨b, 1, none⟩ (.int .i64 A.2.1)).setCell ⟨b, 2, none⟩ (.int .i64 A.2.2)) := (((Below.refl B W).setCell o1.2 _).setCell o1.2 _).setCell o1.2 _
  exact ⟨h0.trans GG, (fun c e => ⟨own_s3 (h1 c e).1 (fun r => h5 _ _ e rfl r), (h1 c e).2⟩), (fun c e => ⟨own_s3 (h2 c e).1 (fun r => h6 _ _ e rfl r), (h2 c e).2⟩), (fun c e => by cases e; exact ⟨own_write4 o1.1 A, o1.2⟩), h4, h5, h6, Nat.le_trans h7 GG.size⟩
/-- the element and the center, in blocks below B -/
theorem el_in {w W0 W : World} {B b off k : Nat} {x y z p : P3} (hb : Below B W0 W) (l1 : w.heap.size < B) (l2 : b < B) (h : (W0.cell? ⟨w.heap.size, 0, none⟩ = some (.int .i64 p.1) ∧ W0.cell? ⟨w.heap.size, 1, none⟩ = some (.int .i64 p.2.1) ∧ W0.cell? ⟨w.heap.size, 2, none⟩ = some (.int .i64 p.2.2)) ∧ W0.cell? ⟨b, off + k * 10, none⟩ = some (.int .i64 x.1) ∧ W0.cell? ⟨b, off + k * 10 + 1, none⟩ = some (.int .i64 x.2.1) ∧ W0.cell? ⟨b, off + k * 10 + 2, none⟩ = some (.int .i64 x.2.2) ∧ W0.cell? ⟨b, off + k * 10 + 3, none⟩ = some (.int .i64 y.1) ∧ W0.cell? ⟨b, off + k * 10 + 4, none⟩ = some (.int .i64 y.2.1) ∧ W0.cell? ⟨b, off + k * 10 + 5, none⟩ = some (.int .i64 y.2.2) ∧ W0.cell? ⟨b, off + k * 10 + 6, none⟩ = some (.int .i64 z.1) ∧ W0.cell? ⟨b, off + k * 10 + 7, none⟩ = some (.int .i64 z.2.1) ∧ W0.cell? ⟨b, off + k * 10 + 8, none⟩ = some (.int .i64 z.2.2)) : (W.cell? ⟨w.heap.size, 0, none⟩ = some (.int .i64 p.1) ∧ W.cell? ⟨w.heap.size, 1, none⟩ = some (.int .i64 p.2.1) ∧ W.cell? ⟨w.heap.size, 2, none⟩ = some (.int .i64 p.2.2)) ∧ W.cell? ⟨b, off + k * 10, none⟩ = some (.int .i64 x.1) ∧ W.cell? ⟨b, off + k * 10 + 1, none⟩ = some (.int .i64 x.2.1) ∧ W.cell? ⟨b, off + k * 10 + 2, none⟩ = some (.int .i64 x.2.2) ∧ W.cell? ⟨b, off + k * 10 + 3, none⟩ = some (.int .i64 y.1) ∧ W.cell? ⟨b, off + k * 10 + 4, none⟩ = some (.int .i64 y.2.1) ∧ W.cell? ⟨b, off + k * 10 + 5, none⟩ = some (.int .i64 y.2.2) ∧ W.cell? ⟨b, off + k * 10 + 6, none⟩ = some (.int .i64 z.1) ∧ W.cell? ⟨b, off + k * 10 + 7, none⟩ = some (.int .i64 z.2.1) ∧ W.cell? ⟨b, off + k * 10 + 8, none⟩ = some (.int .i64 z.2.2) := by
  obtain ⟨⟨h1, h2, h3⟩, c0, c1, c2, c3, c4, c5, c6, c7, c8⟩ := h
  exact ⟨⟨(hb.cell (p := ⟨w.heap.size, 0, none⟩) l1).trans h1, (hb.cell (p := ⟨w.heap.size, 1, none⟩) l1).trans h2, (hb.cell (p := ⟨w.heap.size, 2, none⟩) l1).trans h3⟩, (hb.cell (p := ⟨b, _, none⟩) l2).trans c0, (hb.cell (p := ⟨b, _, none⟩) l2).trans c1, (hb.cell (p := ⟨b, _, none⟩) l2).trans c2, (hb.cell (p := ⟨b, _, none⟩) l2).trans c3, (hb.cell (p := ⟨b, _, none⟩) l2).trans c4, (hb.cell (p := ⟨b, _, none⟩) l2).trans c5, (hb.cell (p := ⟨b, _, none⟩) l2).trans c6, (hb.cell (p := ⟨b, _, none⟩) l2).trans c7, (hb.cell (p := ⟨b, _, none⟩) l2).trans c8⟩
/-- three corners as they are seen, beside a world -/
def RG (B : Nat) (W0 W : World) (b1 b2 b3 : Nat) (A D E : P3) : Prop := Own W b1 A ∧ Own W b2 D ∧ Own W b3 E ∧ Below B W0 W ∧ (B ≤ b1 ∧ B ≤ b2 ∧ B ≤ b3) ∧ B ≤ W.heap.size
theorem fns_fin {B b1 b2 b3 : Nat} {W0 W : World} {A D E : P3} (h : FNS B W0 W (some b1) (some b2) (some b3) A D E) : RG B W0 W b1 b2 b3 A D E := by
  obtain ⟨h0, h1, h2, h3, _, _, _, h7⟩ := h
  exact ⟨(h1 b1 rfl).1, (h2 b2 rfl).1, (h3 b3 rfl).1, h0, ⟨(h1 b1 rfl).2, (h2 b2 rfl).2, (h3 b3 rfl).2⟩, h7⟩
theorem rg_below {B : Nat} {W0 W v : World} {b1 b2 b3 : Nat} {A D E : P3} (h : RG B W0 W b1 b2 b3 A D E) (hb : Below W.heap.size W v) : RG B W0 v b1 b2 b3 A D E := by
  obtain ⟨h1, h2, h3, h4, h5, h6⟩ := h
  exact ⟨own_below h1 hb, own_below h2 hb, own_below h3 hb, h4.trans (hb.mono h6), h5, Nat.le_trans h6 hb.size⟩
theorem rg_drew {B : Nat} {W0 W : World} {b1 b2 b3 : Nat} {A D E : P3} (h : RG B W0 W b1 b2 b3 A D E) : RG B W0 W.drew b1 b2 b3 A D E := rg_below h (Below.drew (Below.refl _ _))
def RG1 (B : Nat) (W0 W : World) (b1 b2 b3 : Nat) (A D E : P3) (q : Option Nat) : Prop := RG B W0 W b1 b2 b3 A D E ∧ ∀ b, q = some b → Own W b (0, 0, 0) ∧ B ≤ b ∧ b ≠ b1 ∧ b ≠ b2 ∧ b ≠ b3
theorem rg1_below {B : Nat} {W0 W v : World} {b1 b2 b3 : Nat} {A D E : P3} {q : Option Nat} (h : RG1 B W0 W b1 b2 b3 A D E q) (hb : Below W.heap.size W v) : RG1 B W0 v b1 b2 b3 A D E q := ⟨rg_below h.1 hb, fun b e => ⟨own_below (h.2 b e).1 hb, (h.2 b e).2⟩⟩
theorem rg1_new {B : Nat} {W0 W : World} {b1 b2 b3 : Nat} {A D E : P3} (h : RG1 B W0 W b1 b2 b3 A D E none) : RG1 B W0 (W.alloc (ptc (0, 0, 0) 24)) b1 b2 b3 A D E (some W.heap.size) := by
  have E' := (Below.refl W.heap.size W).alloc (Nat.le_refl _) (ptc (0, 0, 0) 24)
  refine ⟨rg_below h.1 E', fun b e => ?_⟩
  cases e
  have l1 := h.1.1.2.2.2.2.2.2
  have l2 := h.1.2.1.2.2.2.2.2.2
  have l3 := h.1.2.2.1.2.2.2.2.2.2
  have l4 := h.1.2.2.2.2.2
  exact ⟨own_new W (0, 0, 0) 24, l4, by omega, by omega, by omega⟩
theorem rg_cells {B : Nat} {W0 W : World} {b1 b2 b3 : Nat} {A D E : P3} (h : RG B W0 W b1 b2 b3 A D E) : (W.cell? ⟨b1, 0, none⟩ = some (.int .i64 A.1) ∧ W.cell? ⟨b1, 1, none⟩ = some (.int .i64 A.2.1) ∧ W.cell? ⟨b1, 2, none⟩ = some (.int .i64 A.2.2)) ∧ (W.cell? ⟨b2, 0, none⟩ = some (.int .i64 D.1) ∧ W.cell? ⟨b2, 1, none⟩ = some (.int .i64 D.2.1) ∧ W.cell? ⟨b2, 2, none⟩ = some (.int .i64 D.2.2)) ∧ W.cell? ⟨b3, 0, none⟩ = some (.int .i64 E.1) ∧ W.cell? ⟨b3, 1, none⟩ = some (.int .i64 E.2.1) ∧ W.cell? ⟨b3, 2, none⟩ = some (.int .i64 E.2.2) := ⟨own_cells h.1, own_cells h.2.1, own_cells h.2.2.1⟩
/-- what the rest of the round has: the moments, the corners, their sum, the center, the result's zeros -/
structure OG (w W : World) (g : Nat) (m : Mo) (b1 b2 b3 b4 : Nat) (A D E s p : P3) : Prop where
  mo : OwnMo W g m
  o1 : Own W b1 A
  o2 : Own W b2 D
  o3 : Own W b3 E
  o4 : Own W b4 s
  op : Own W w.heap.size p
  res : OwnMo W (w.heap.size + 1) mzero
  bel : Below w.heap.size w W
  lg : w.heap.size + 1 < g
  n1 : b1 ≠ g
  n2 : b2 ≠ g
  n3 : b3 ≠ g
  n4 : b4 ≠ g
theorem og_below {w W v : World} {g : Nat} {m : Mo} {b1 b2 b3 b4 : Nat} {A D E s p : P3} (h : OG w W g m b1 b2 b3 b4 A D E s p) (hb : Below W.heap.size W v) : OG w v g m b1 b2 b3 b4 A D E s p :=
  ⟨ownMo_below h.mo hb, own_below h.o1 hb, own_below h.o2 hb, own_below h.o3 hb, own_below h.o4 hb, own_below h.op hb, ownMo_below h.res hb, bstep h.bel hb, h.lg, h.n1, h.n2, h.n3, h.n4⟩
theorem og_drew {w W : World} {g : Nat} {m : Mo} {b1 b2 b3 b4 : Nat} {A D E s p : P3} (h : OG w W g m b1 b2 b3 b4 A D E s p) : OG w W.drew g m b1 b2 b3 b4 A D E s p := og_below h (Below.drew (Below.refl _ _))
/-- a store into the moments -/
theorem og_set {w W v : World} {g : Nat} {m m' : Mo} {b1 b2 b3 b4 : Nat} {A D E s p : P3} (h : OG w W g m b1 b2 b3 b4 A D E s p) (h1 : OwnMo v g m') (hs : ∀ (r : Nat) (u : P3), r ≠ g → Own W r u → Own v r u) (hr : OwnMo v (w.heap.size + 1) mzero) (hB : Below w.heap.size w v) : OG w v g m' b1 b2 b3 b4 A D E s p :=
  ⟨h1, hs _ _ h.n1 h.o1, hs _ _ h.n2 h.o2, hs _ _ h.n3 h.o3, hs _ _ h.n4 h.o4, hs _ _ (by have := h.lg; omega) h.op, hr, hB, h.lg, h.n1, h.n2, h.n3, h.n4⟩
theorem sum3_r (a b c : P3) : sum3 a b c = add a (add b c) := by unfold sum3 add; simp only [Prod.mk.injEq]; omega
theorem szI_small {q : Int} (h : -100 ≤ q ∧ q ≤ 100) : szI q = absI q := szI_abs (by omega)
theorem own_s6 {w : World} {q r : Nat} {v5 v6 v7 v8 v9 v10 : Value} {a : P3} (h : Own w q a) (n : q ≠ r) : Own ((((((w.setCell ⟨r, 5, none⟩ v5).setCell ⟨r, 6, none⟩ v6).setCell ⟨r, 7, none⟩ v7).setCell ⟨r, 8, none⟩ v8).setCell ⟨r, 9, none⟩ v9).setCell ⟨r, 10, none⟩ v10) q a := own_set (own_set (own_set (own_set (own_set (own_set h n) n) n) n) n) n
theorem ownMo_s3 {w : World} {q r : Nat} {x y z : Value} {m : Mo} (h : OwnMo w q m) (n : q ≠ r) : OwnMo (((w.setCell ⟨r, 2, none⟩ x).setCell ⟨r, 3, none⟩ y).setCell ⟨r, 4, none⟩ z) q m := ownMo_set (ownMo_set (ownMo_set h n) n) n
theorem ownMo_s6 {w : World} {q r : Nat} {v5 v6 v7 v8 v9 v10 : Value} {m : Mo} (h : OwnMo w q m) (n : q ≠ r) : OwnMo ((((((w.setCell ⟨r, 5, none⟩ v5).setCell ⟨r, 6, none⟩ v6).setCell ⟨r, 7, none⟩ v7).setCell ⟨r, 8, none⟩ v8).setCell ⟨r, 9, none⟩ v9).setCell ⟨r, 10, none⟩ v10) q m := ownMo_set (ownMo_set (ownMo_set (ownMo_set (ownMo_set (ownMo_set h n) n) n) n) n) n
theorem own_d3 {w : World} {q r : Nat} {x y z : Value} {a : P3} (h : Own w q a) (n : q ≠ r) : Own (((w.setCell ⟨r, 2, none⟩ x).setCell ⟨r, 3, none⟩ y).setCell ⟨r, 4, none⟩ z) q a := own_set (own_set (own_set h n) n) n
theorem below_d3 {a w : World} {B r : Nat} {x y z : Value} (h : Below B a w) (n : B ≤ r) : Below B a (((w.setCell ⟨r, 2, none⟩ x).setCell ⟨r, 3, none⟩ y).setCell ⟨r, 4, none⟩ z) := ((h.setCell n _).setCell n _).setCell n _
theorem below_s6 {a w : World} {B r : Nat} {v5 v6 v7 v8 v9 v10 : Value} (h : Below B a w) (n : B ≤ r) : Below B a ((((((w.setCell ⟨r, 5, none⟩ v5).setCell ⟨r, 6, none⟩ v6).setCell ⟨r, 7, none⟩ v7).setCell ⟨r, 8, none⟩ v8).setCell ⟨r, 9, none⟩ v9).setCell ⟨r, 10, none⟩ v10) := (((((h.setCell n _).setCell n _).setCell n _).setCell n _).setCell n _).setCell n _
theorem ownMo_sec {w : World} {b : Nat} {m : Mo} (h : OwnMo w b m) (u : P6) : OwnMo ((((((w.setCell ⟨b, 5, none⟩ (.int .i64 u.1)).setCell ⟨b, 6, none⟩ (.int .i64 u.2.1)).setCell ⟨b, 7, none⟩ (.int .i64 u.2.2.1)).setCell ⟨b, 8, none⟩ (.int .i64 u.2.2.2.1)).setCell ⟨b, 9, none⟩ (.int .i64 u.2.2.2.2.1)).setCell ⟨b, 10, none⟩ (.int .i64 u.2.2.2.2.2)) b ⟨m.c, m.t, m.d, u.1, u.2.1, u.2.2.1, u.2.2.2.1, u.2.2.2.2.1, u.2.2.2.2.2⟩ :=
  ownMo_put10 (ownMo_put9 (ownMo_put8 (ownMo_put7 (ownMo_put6 (ownMo_put5 h u.1) u.2.1) u.2.2.1) u.2.2.2.1) u.2.2.2.2.1) u.2.2.2.2.2
def ms6 (m : Mo) : P6 := (m.s0, m.s1, m.s2, m.s3, m.s4, m.s5)
theorem mbd_facts {k n : Nat} {m : Mo} (h : mbd k m) (hk : k ≤ n) (hn : n ≤ 96) : (-9600 ≤ m.c ∧ m.c ≤ 9600) ∧ (0 ≤ m.t ∧ m.t ≤ 9600) ∧ BdP 4000000 m.d ∧ Bd6 2000000000 (ms6 m) := by
  unfold mbd BdP at h
  unfold BdP Bd6 ms6
  dsimp only
  omega
theorem of_round (m : Mo) (p x y z : P3) (q : Int) : (⟨m.c + q, m.t + absI q, add m.d (tim q (add (sub x p) (add (sub y p) (sub z p)))), (add6 (ms6 m) (add6 (add6 (pr6 q (sub x p)) (pr6 q (sub y p))) (add6 (pr6 q (sub z p)) (pr6 q (add (sub x p) (add (sub y p) (sub z p))))))).1,
    (add6 (ms6 m) (add6 (add6 (pr6 q (sub x p)) (pr6 q (sub y p))) (add6 (pr6 q (sub z p)) (pr6 q (add (sub x p) (add (sub y p) (sub z p))))))).2.1, (add6 (ms6 m) (add6 (add6 (pr6 q (sub x p)) (pr6 q (sub y p))) (add6 (pr6 q (sub z p)) (pr6 q (add (sub x p) (add (sub y p) (sub z p))))))).2.2.1,
    (add6 (ms6 m) (add6 (add6 (pr6 q (sub x p)) (pr6 q (sub y p))) (add6 (pr6 q (sub z p)) (pr6 q (add (sub x p) (add (sub y p) (sub z p))))))).2.2.2.1, (add6 (ms6 m) (add6 (add6 (pr6 q (sub x p)) (pr6 q (sub y p))) (add6 (pr6 q (sub z p)) (pr6 q (add (sub x p) (add (sub y p) (sub z p))))))).2.2.2.2.1,
    (add6 (ms6 m) (add6 (add6 (pr6 q (sub x p)) (pr6 q (sub y p))) (add6 (pr6 q (sub z p)) (pr6 q (add (sub x p) (add (sub y p) (sub z p))))))).2.2.2.2.2⟩ : Mo) = madd m (gat p ((x, y, z), q)) := by
  unfold madd gat
  dsimp only
  rw [sum3_r]
  unfold pr2
  rw [sum3_r]
  generalize sub x p = a
  generalize sub y p = b
  generalize sub z p = c
  generalize add a (add b c) = s
  unfold add6 pr6 ms6
  dsimp only
  simp only [Mo.mk.injEq, true_and]
  refine ⟨?_, ?_, ?_, ?_, ?_, ?_⟩ <;> grind
set_option maxHeartbeats 1000000 in
theorem rof_no (a : Option Addr) (n cap : Nat) (p : P3) (code : Int) (w : World) (V : Hid (∀ W, Below w.heap.size w W → Calls Tryd.prog 13 #[.slice a n cap, ptv p] W fun e w' => e = .returned (.int .i64 code) ∧ Below W.heap.size W w')) (z : code ≠ 0) :
    Calls Tryd.prog 6 #[.slice a n cap, ptv p] w fun e w' => e = .returned (.tuple #[mov0, .int .i64 code]) ∧ Below w.heap.size w w' := by
  have z1 := int_ne0 z
  clear z
  go_enter Tryd.func6, Tryd.ntmps6
  go_wp2_with fail
  refine (V.out _ (by (repeat' (first | exact Below.refl _ _ | refine Below.setCell ?_ (by simp <;> omega) _ | refine balloc ?_ _ | refine Below.drew ?_ | refine bdrewN ?_ _)))).mono ?_
  rintro e w1 ⟨rfl, hb1⟩
  have PT := own_below (own_alloc (own_new w p 24) (mob0 28)) hb1
  have PR := Lib.hid (by have z := ownMo_below (ownMo_new0 (w.alloc (ptc p 24)) 28) hb1; simp only [World.size_alloc] at z; exact z : OwnMo w1 (w.heap.size + 1) mzero)
  have B1 := Lib.hid (bstep (balloc (balloc (Below.refl _ w) _) _) hb1)
  clear hb1
  clear PT
  have OR' := PR.out
  simp only [OwnMo, mzero] at OR'
  obtain ⟨⟨y0, y1, y2, y3, y4, y5, y6, y7, y8, y9, y10⟩, ⟨g0, g1, g2, g3, g4, g5, g6, g7, g8, g9, g10⟩, lr⟩ := OR'
  go_wp2
  refine bodyPost_ret (v := .tuple #[mov0, .int .i64 code]) (by rw [results_cell_tmp rfl]; go_simp) rfl ⟨rfl, ?_⟩
  exact below_put11 B1.out (by omega)
set_option maxRecDepth 100000 in
set_option maxHeartbeats 40000000 in
theorem rof_row (b off n cap : Nat) (Q : Nat → Ch) (p : P3) (w : World) (V : Hid (∀ W, Below w.heap.size w W → Calls Tryd.prog 13 #[.slice (some ⟨b, off, none⟩) n cap, ptv p] W fun e w' => e = .returned (.int .i64 0) ∧ Below W.heap.size W w')) (r : RowC w b off n Q) (hn : n ≤ 96) (hp : BdP 64 p) (hq : chcodes Q n = 0) :
    Calls Tryd.prog 6 #[.slice (some ⟨b, off, none⟩) n cap, ptv p] w fun e w' => e = .returned (.tuple #[mov (mof p Q n), .int .i64 0]) ∧ Below w.heap.size w w' := by
  have hb1 : b < w.heap.size := r.1
  have R := Lib.hid r
  have HP := Lib.hid hp
  have HC := Lib.hid (fun k (h : k < n) => chcodes_all hq k h)
  have HB := Lib.hid (fun k (h : k ≤ n) => mof_bd hp hq k h)
  have hn' : (n : Int) ≤ 96 := by omega
  clear r hp hq
  go_enter Tryd.func6, Tryd.ntmps6
  go_wp2_with fail
  refine (V.out _ (by (repeat' (first | exact Below.refl _ _ | refine Below.setCell ?_ (by simp <;> omega) _ | refine balloc ?_ _ | refine Below.drew ?_ | refine bdrewN ?_ _)))).mono ?_
  rintro e w1 ⟨rfl, hb1⟩
  have PT := own_below (own_alloc (own_new w p 24) (mob0 28)) hb1
  have PR := Lib.hid (by have z := ownMo_below (ownMo_new0 (w.alloc (ptc p 24)) 28) hb1; simp only [World.size_alloc] at z; exact z : OwnMo w1 (w.heap.size + 1) mzero)
  have B1 := Lib.hid (bstep (balloc (balloc (Below.refl _ w) _) _) hb1)
  clear hb1
  have LG := Lib.hid (show w.heap.size + 1 < w1.heap.size from PR.out.2.2)
  have ST := Lib.hid (show OwnMo (w1.alloc (mob0 28)) w1.heap.size mzero ∧ Own (w1.alloc (mob0 28)) w.heap.size p ∧ OwnMo (w1.alloc (mob0 28)) (w.heap.size + 1) mzero ∧ Below w.heap.size w (w1.alloc (mob0 28)) from ⟨ownMo_new0 w1 28, own_alloc PT _, ownMo_alloc PR.out _, balloc B1.out _⟩)
  clear PT PR B1
  go_wp2
  go_loopw [8] (fun kv wr => ∃ k : Nat, k ≤ n ∧ kv = .int .i64 k ∧ OwnMo wr w1.heap.size (mof p Q k) ∧ Own wr w.heap.size p ∧ OwnMo wr (w.heap.size + 1) mzero ∧ Below w.heap.size w wr) (fun kv _ => n - (intOf kv).toNat)
  case atStart => exact ⟨0, Nat.zero_le _, rfl, ST.out⟩
  case round =>
    clear ST
    rename World => w3
    obtain ⟨k, hk, rfl, st⟩ := hrel
    have ST := Lib.hid st
    clear st
    by_cases hlt : k < n
    · have r2 := rowC_in R.out ST.out.2.2.2 hb1
      obtain ⟨c0, c1, c2, c3, c4, c5, c6, c7, c8, c9⟩ := r2.2 k hlt
      have r5 := r2.1
      clear r2
      have hk1 : (k : Int) < (n : Int) := by omega
      obtain ⟨⟨h1, h2, h3⟩, hc⟩ := chcode_ok' (HC.out k hlt)
      have MB := HB.out k hk
      have E := Lib.hid (show mof p Q (k + 1) = madd (mof p Q k) (gat p (Q k)) from rfl)
      generalize Q k = q at *
      generalize mof p Q k = m at *
      obtain ⟨⟨x, y, z⟩, q⟩ := q
      have hq2 : -100 ≤ q ∧ q ≤ 100 := hc
      have A1 := sub_bd h1 HP.out
      have A2 := sub_bd h2 HP.out
      have A3 := sub_bd h3 HP.out
      have M1 := Lib.hid (fun W => minus4_any x p W (A1.mono (by decide)))
      have M2 := Lib.hid (fun W => minus4_any y p W (A2.mono (by decide)))
      have M3 := Lib.hid (fun W => minus4_any z p W (A3.mono (by decide)))
      have EG := Lib.hid (show gat p ((x, y, z), q) = gat p ((x, y, z), q) from rfl)
      have LP := Lib.hid (show w.heap.size < w3.heap.size from ST.out.2.1.2.2.2.2.2.2)
      have LB := Lib.hid (show b < w3.heap.size from r5)
      have EV := Lib.hid (show (w3.cell? ⟨w.heap.size, 0, none⟩ = some (.int .i64 p.1) ∧ w3.cell? ⟨w.heap.size, 1, none⟩ = some (.int .i64 p.2.1) ∧ w3.cell? ⟨w.heap.size, 2, none⟩ = some (.int .i64 p.2.2)) ∧ w3.cell? ⟨b, off + k * 10, none⟩ = some (.int .i64 x.1) ∧ w3.cell? ⟨b, off + k * 10 + 1, none⟩ = some (.int .i64 x.2.1) ∧ w3.cell? ⟨b, off + k * 10 + 2, none⟩ = some (.int .i64 x.2.2) ∧ w3.cell? ⟨b, off + k * 10 + 3, none⟩ = some (.int .i64 y.1) ∧ w3.cell? ⟨b, off + k * 10 + 4, none⟩ = some (.int .i64 y.2.1) ∧ w3.cell? ⟨b, off + k * 10 + 5, none⟩ = some (.int .i64 y.2.2) ∧ w3.cell? ⟨b, off + k * 10 + 6, none⟩ = some (.int .i64 z.1) ∧ w3.cell? ⟨b, off + k * 10 + 7, none⟩ = some (.int .i64 z.2.1) ∧ w3.cell? ⟨b, off + k * 10 + 8, none⟩ = some (.int .i64 z.2.2) from ⟨own_cells ST.out.2.1, c0, c1, c2, c3, c4, c5, c6, c7, c8⟩)
      have NT := Lib.hid (show FNS w3.heap.size w3 w3.drew none none none (0, 0, 0) (0, 0, 0) (0, 0, 0) from ⟨Below.drew (Below.refl _ _), (fun _ e => (by cases e)), (fun _ e => (by cases e)), (fun _ e => (by cases e)), fun _ _ e => (by cases e), fun _ _ e => (by cases e), fun _ _ e => (by cases e), by simp⟩)
      clear h1 h2 h3 hc
      go_wp2
      clear c0 c1 c2 c3 c4 c5 c6 c7 c8 c9
      refine wp_region_HU (fun w' => (w'.cell? ⟨w.heap.size, 0, none⟩ = some (.int .i64 p.1) ∧ w'.cell? ⟨w.heap.size, 1, none⟩ = some (.int .i64 p.2.1) ∧ w'.cell? ⟨w.heap.size, 2, none⟩ = some (.int .i64 p.2.2)) ∧ w'.cell? ⟨b, off + k * 10, none⟩ = some (.int .i64 x.1) ∧ w'.cell? ⟨b, off + k * 10 + 1, none⟩ = some (.int .i64 x.2.1) ∧ w'.cell? ⟨b, off + k * 10 + 2, none⟩ = some (.int .i64 x.2.2) ∧ w'.cell? ⟨b, off + k * 10 + 3, none⟩ = some (.int .i64 y.1) ∧ w'.cell? ⟨b, off + k * 10 + 4, none⟩ = some (.int .i64 y.2.1) ∧ w'.cell? ⟨b, off + k * 10 + 5, none⟩ = some (.int .i64 y.2.2) ∧ w'.cell? ⟨b, off + k * 10 + 6, none⟩ = some (.int .i64 z.1) ∧ w'.cell? ⟨b, off + k * 10 + 7, none⟩ = some (.int .i64 z.2.1) ∧ w'.cell? ⟨b, off + k * 10 + 8, none⟩ = some (.int .i64 z.2.2)) (fun _ => true) (by kernel_rfl) (el_in NT.out.1 LP.out LB.out EV.out) (fun HS => ?_)
      refine wpHU_take (i := 0) (v := ?_) rfl (by kernel_rfl) (by kernel_rfl) (by kernel_rfl) (by kernel_rfl) (fun _ _ _ h => h) (Or.inl ⟨by (first | kernel_rfl | rfl), ?_⟩) HS ?_
      rotate_left
      · (intro w' hSw; (try dsimp only at hSw); go_simp; (try with_reducible rfl))
      refine wpHU_take (i := 1) (v := ?_) rfl (by kernel_rfl) (by kernel_rfl) (by kernel_rfl) (by kernel_rfl) (fun _ _ _ h => h) (Or.inl ⟨by (first | kernel_rfl | rfl), ?_⟩) HS ?_
      rotate_left
      · (intro w' hSw; (try dsimp only at hSw); go_simp; (try with_reducible rfl))
      refine wpHU_take (i := 2) (v := ?_) rfl (by kernel_rfl) (by kernel_rfl) (by kernel_rfl) (by kernel_rfl) (fun _ _ _ h => h) (Or.inl ⟨by (first | kernel_rfl | rfl), ?_⟩) HS ?_
      rotate_left
      · (intro w' hSw; (try dsimp only at hSw); go_simp; (try with_reducible rfl))
      refine wpHU_take (i := 3) (v := ?_) rfl (by kernel_rfl) (by kernel_rfl) (by kernel_rfl) (by kernel_rfl) (fun _ _ _ h => h) (Or.inl ⟨by (first | kernel_rfl | rfl), ?_⟩) HS ?_
      rotate_left
      · (intro w' hSw; (try dsimp only at hSw); go_simp; (try with_reducible rfl))
      refine wpHU_take (i := 4) (v := ?_) rfl (by kernel_rfl) (by kernel_rfl) (by kernel_rfl) (by kernel_rfl) (fun _ _ _ h => h) (Or.inl ⟨by (first | kernel_rfl | rfl), ?_⟩) HS ?_
      rotate_left
      · (intro w' hSw; (try dsimp only at hSw); go_simp; (try with_reducible rfl))
      refine wpHU_take (i := 5) (v := ?_) rfl (by kernel_rfl) (by kernel_rfl) (by kernel_rfl) (by kernel_rfl) (fun _ _ _ h => h) (Or.inl ⟨by (first | kernel_rfl | rfl), ?_⟩) HS ?_
      rotate_left
      · (intro w' hSw; (try dsimp only at hSw); go_simp; (try with_reducible rfl))
      refine wpHU_take (i := 6) (v := ?_) rfl (by kernel_rfl) (by kernel_rfl) (by kernel_rfl) (by kernel_rfl) (fun _ _ _ h => h) (Or.inl ⟨by (first | kernel_rfl | rfl), ?_⟩) HS ?_
      rotate_left
      · (intro w' hSw; (try dsimp only at hSw); go_simp; (try with_reducible rfl))
      refine wpHU_take (i := 8) (v := ?_) rfl (by kernel_rfl) (by kernel_rfl) (by kernel_rfl) (by kernel_rfl) (fun _ _ _ h => h) (Or.inl ⟨by (first | kernel_rfl | rfl), ?_⟩) HS ?_
      rotate_left
      · (intro w' hSw; (try dsimp only at hSw); go_simp; (try with_reducible rfl))
      refine wpHU_take (i := 9) (v := ?_) rfl (by kernel_rfl) (by kernel_rfl) (by kernel_rfl) (by kernel_rfl) (fun _ _ _ h => h) (Or.inl ⟨by (first | kernel_rfl | rfl), ?_⟩) HS ?_
      rotate_left
      · (intro w' hSw; (try dsimp only at hSw); go_simp; (try with_reducible rfl))
      refine wpHU_take (i := 10) (v := ?_) rfl (by kernel_rfl) (by kernel_rfl) (by kernel_rfl) (by kernel_rfl) (fun _ _ _ h => h) (Or.inl ⟨by (first | kernel_rfl | rfl), ?_⟩) HS ?_
      rotate_left
      · (intro w' hSw; (try dsimp only at hSw); go_simp; (try with_reducible rfl))
      refine wpHU_take (i := 11) (v := ?_) rfl (by kernel_rfl) (by kernel_rfl) (by kernel_rfl) (by kernel_rfl) (fun _ _ _ h => h) (Or.inl ⟨by (first | kernel_rfl | rfl), ?_⟩) HS ?_
      rotate_left
      · (intro w' hSw; (try dsimp only at hSw); go_simp; (try with_reducible rfl))
      refine wpHU_take (i := 12) (v := ?_) rfl (by kernel_rfl) (by kernel_rfl) (by kernel_rfl) (by kernel_rfl) (fun _ _ _ h => h) (Or.inl ⟨by (first | kernel_rfl | rfl), ?_⟩) HS ?_
      rotate_left
      · (intro w' hSw; (try dsimp only at hSw); go_simp; (try with_reducible rfl))
      refine wpHU_take (i := 13) (v := ?_) rfl (by kernel_rfl) (by kernel_rfl) (by kernel_rfl) (by kernel_rfl) (fun _ _ _ h => h) (Or.inl ⟨by (first | kernel_rfl | rfl), ?_⟩) HS ?_
      rotate_left
      · (intro w' hSw; (try dsimp only at hSw); go_simp; (try with_reducible rfl))
      refine wpHU_take (i := 14) (v := ?_) rfl (by kernel_rfl) (by kernel_rfl) (by kernel_rfl) (by kernel_rfl) (fun _ _ _ h => h) (Or.inl ⟨by (first | kernel_rfl | rfl), ?_⟩) HS ?_
      rotate_left
      · (intro w' hSw; (try dsimp only at hSw); go_simp; (try with_reducible rfl))
      refine wpHU_take (i := 16) (v := ?_) rfl (by kernel_rfl) (by kernel_rfl) (by kernel_rfl) (by kernel_rfl) (fun _ _ _ h => h) (Or.inl ⟨by (first | kernel_rfl | rfl), ?_⟩) HS ?_
      rotate_left
      · (intro w' hSw; (try dsimp only at hSw); go_simp; (try with_reducible rfl))
      refine wpHU_take (i := 17) (v := ?_) rfl (by kernel_rfl) (by kernel_rfl) (by kernel_rfl) (by kernel_rfl) (fun _ _ _ h => h) (Or.inl ⟨by (first | kernel_rfl | rfl), ?_⟩) HS ?_
      rotate_left
      · (intro w' hSw; (try dsimp only at hSw); go_simp; (try with_reducible rfl))
      refine wpHU_take (i := 18) (v := ?_) rfl (by kernel_rfl) (by kernel_rfl) (by kernel_rfl) (by kernel_rfl) (fun _ _ _ h => h) (Or.inl ⟨by (first | kernel_rfl | rfl), ?_⟩) HS ?_
      rotate_left
      · (intro w' hSw; (try dsimp only at hSw); go_simp; (try with_reducible rfl))
      refine wpHU_take (i := 19) (v := ?_) rfl (by kernel_rfl) (by kernel_rfl) (by kernel_rfl) (by kernel_rfl) (fun _ _ _ h => h) (Or.inl ⟨by (first | kernel_rfl | rfl), ?_⟩) HS ?_
      rotate_left
      · (intro w' hSw; (try dsimp only at hSw); go_simp; (try with_reducible rfl))
      refine wpHU_take (i := 20) (v := ?_) rfl (by kernel_rfl) (by kernel_rfl) (by kernel_rfl) (by kernel_rfl) (fun _ _ _ h => h) (Or.inl ⟨by (first | kernel_rfl | rfl), ?_⟩) HS ?_
      rotate_left
      · (intro w' hSw; (try dsimp only at hSw); go_simp; (try with_reducible rfl))
      refine wpHU_take (i := 21) (v := ?_) rfl (by kernel_rfl) (by kernel_rfl) (by kernel_rfl) (by kernel_rfl) (fun _ _ _ h => h) (Or.inl ⟨by (first | kernel_rfl | rfl), ?_⟩) HS ?_
      rotate_left
      · (intro w' hSw; (try dsimp only at hSw); go_simp; (try with_reducible rfl))
      refine wpHU_take (i := 22) (v := ?_) rfl (by kernel_rfl) (by kernel_rfl) (by kernel_rfl) (by kernel_rfl) (fun _ _ _ h => h) (Or.inl ⟨by (first | kernel_rfl | rfl), ?_⟩) HS ?_
      rotate_left
      · (intro w' hSw; (try dsimp only at hSw); go_simp; (try with_reducible rfl))
      clear HS
      refine wpHU_name (fun a0 ha => ?_)
      obtain ⟨U1, h1⟩ : ∃ U, U = a0.tmps.getD 39 undef := ⟨_, rfl⟩
      obtain ⟨U2, h2⟩ : ∃ U, U = a0.tmps.getD 47 undef := ⟨_, rfl⟩
      obtain ⟨U3, h3⟩ : ∃ U, U = a0.tmps.getD 55 undef := ⟨_, rfl⟩
      obtain ⟨U4, h4⟩ : ∃ U, U = a0.tmps.getD 10 undef := ⟨_, rfl⟩
      obtain ⟨U5, h5⟩ : ∃ U, U = a0.tmps.getD 11 undef := ⟨_, rfl⟩
      obtain ⟨U6, h6⟩ : ∃ U, U = a0.tmps.getD 12 undef := ⟨_, rfl⟩
      refine wpHU_enter (l' := (fun n d1 d2 d3 => #[true, true, true, true, true, true, true, decide (0 < n), true, true, true, true, true, true, true, decide (1 < n), true, true, true, true, true, true, true, decide (2 < n), d1, d2, d3, false, false, false] : Nat → Bool → Bool → Bool → Array Bool) 0 false false false) (a' := (fun x1 x2 x3 y1 y2 y3 => ((((((a0.put (some 39) x1).put (some 47) x2).put (some 55) x3).put (some 10) y1).put (some 11) y2).put (some 12) y3) : Value → Value → Value → Value → Value → Value → Act) U1 U2 U3 U4 U5 U6) (f' := 3 + 6) (by kernel_rfl) (by subst h1 h2 h3 h4 h5 h6 ha; kernel_rfl) rfl ?_
      refine wpHU_net (fun W q1 q2 q3 => FNS w3.heap.size w3 W q1 q2 q3 (0, 0, 0) (0, 0, 0) (0, 0, 0)) (fun x1 x2 x3 y1 y2 y3 => ((((((a0.put (some 39) x1).put (some 47) x2).put (some 55) x3).put (some 10) y1).put (some 11) y2).put (some 12) y3)) (ptv (sub x p)) (ptv (sub y p)) (ptv (sub z p)) U1 U2 U3 U4 U5 U6 (fun n d1 d2 d3 => #[true, true, true, true, true, true, true, decide (0 < n), true, true, true, true, true, true, true, decide (1 < n), true, true, true, true, true, true, true, decide (2 < n), d1, d2, d3, false, false, false]) 7 15 23 24 25 26 3
        ?_ (fun d1 d2 d3 => rfl) (fun d1 d2 d3 => rfl) (fun d1 d2 d3 => rfl) (fun n d2 d3 _ => rfl) (fun n d1 d3 _ => rfl) (fun n d1 d2 _ => rfl) (fun W q1 q2 q3 h => el_in h.1 LP.out LB.out EV.out) ?_ ?_ ?_ ?_ ?_ ?_ ?_ 6 0 none none none _ (by omega) rfl NT.out
      · intro n q1 q2 q3 hn3 hl
        have hn4 : n = 0 ∨ n = 1 ∨ n = 2 ∨ n = 3 := by omega
        rcases hn4 with rfl | rfl | rfl | rfl <;> cases q1 <;> cases q2 <;> cases q3 <;> first | (exfalso; revert hl; simp [left]; done) | (show _ = _; kernel_rfl)
      · intro y1 y2 y3 q1 q2 q3 W K hst hk
        have HT := Lib.hid hst
        have HK := Lib.hid hk
        clear hst hk h1 h2 h3 h4 h5 h6
        subst ha
        refine wpOp_step rfl (fun K' hK => ?_)
        have HK' := Shut.intro4 hK
        clear hK
        go_simp
        go_at_call 14
        refine (M1.out _).mono ?_
        rintro e v ⟨rfl, hv⟩
        have HV := Lib.hid hv
        clear hv
        go_wp2_with fail
        refine HK'.out _ _ ?_
        exact k_eq4 (by kernel_rfl) (HK.out v (fns_below HT.out HV.out))
      · intro y1 y2 y3 q1 q2 q3 W K hst hk
        have HT := Lib.hid hst
        have HK := Lib.hid hk
        clear hst hk h1 h2 h3 h4 h5 h6
        subst ha
        refine wpOp_step rfl (fun K' hK => ?_)
        have HK' := Shut.intro4 hK
        clear hK
        go_simp
        go_at_call 14
        refine (M2.out _).mono ?_
        rintro e v ⟨rfl, hv⟩
        have HV := Lib.hid hv
        clear hv
        go_wp2_with fail
        refine HK'.out _ _ ?_
        exact k_eq4 (by kernel_rfl) (HK.out v (fns_below HT.out HV.out))
      · intro y1 y2 y3 q1 q2 q3 W K hst hk
        have HT := Lib.hid hst
        have HK := Lib.hid hk
        clear hst hk h1 h2 h3 h4 h5 h6
        subst ha
        refine wpOp_step rfl (fun K' hK => ?_)
        have HK' := Shut.intro4 hK
        clear hK
        go_simp
        go_at_call 14
        refine (M3.out _).mono ?_
        rintro e v ⟨rfl, hv⟩
        have HV := Lib.hid hv
        clear hv
        go_wp2_with fail
        refine HK'.out _ _ ?_
        exact k_eq4 (by kernel_rfl) (HK.out v (fns_below HT.out HV.out))
      · intro x1 x2 x3 y2 y3 q2 q3 W K hst hk
        have zz := hk W.heap.size _ (fns_a1 hst rfl)
        have Z2 := Lib.hid zz
        clear hst hk zz h1 h2 h3 h4 h5 h6
        subst ha
        refine wpOp_step rfl (fun K' hK => ?_)
        have HK' := Shut.intro4 hK
        clear hK
        go_simp
        refine HK'.out _ _ ?_
        exact k_eq4 (by kernel_rfl) Z2.out
      · intro x1 x2 x3 y1 y3 q1 q3 W K hst hk
        have zz := hk W.heap.size _ (fns_a2 hst rfl)
        have Z2 := Lib.hid zz
        clear hst hk zz h1 h2 h3 h4 h5 h6
        subst ha
        refine wpOp_step rfl (fun K' hK => ?_)
        have HK' := Shut.intro4 hK
        clear hK
        go_simp
        refine HK'.out _ _ ?_
        exact k_eq4 (by kernel_rfl) Z2.out
      · intro x1 x2 x3 y1 y2 q1 q2 W K hst hk
        have zz := hk W.heap.size _ (fns_a3 hst rfl)
        have Z2 := Lib.hid zz
        clear hst hk zz h1 h2 h3 h4 h5 h6
        subst ha
        refine wpOp_step rfl (fun K' hK => ?_)
        have HK' := Shut.intro4 hK
        clear hK
        go_simp
        refine HK'.out _ _ ?_
        exact k_eq4 (by kernel_rfl) Z2.out
      · intro b1 b2 b3 W hst
        have HT := Lib.hid hst
        clear hst h1 h2 h3 h4 h5 h6
        subst ha
        dsimp only [pq]
        have HS1 := Lib.hid (fns_s1 (sub x p) HT.out)
        obtain ⟨i1, i2, i3, i4, i5, i6, i7⟩ := (HT.out.2.1 b1 rfl).1
        refine wpHU_one (i := 27) (by kernel_rfl) rfl (fun K' hK => ?_)
        have HK' := Shut.intro4 hK
        clear hK
        go_simp
        refine HK'.out _ _ (el_in HS1.out.1 LP.out LB.out EV.out) (fun _ => ?_)
        clear HK' i1 i2 i3 i4 i5 i6 i7
        have HS2 := Lib.hid (fns_s2 (sub y p) HS1.out)
        obtain ⟨i1, i2, i3, i4, i5, i6, i7⟩ := (HS1.out.2.2.1 b2 rfl).1
        refine wpHU_one (i := 28) (by kernel_rfl) rfl (fun K' hK => ?_)
        have HK' := Shut.intro4 hK
        clear hK
        go_simp
        refine HK'.out _ _ (el_in HS2.out.1 LP.out LB.out EV.out) (fun _ => ?_)
        clear HK' i1 i2 i3 i4 i5 i6 i7
        have HS3 := Lib.hid (fns_s3 (sub z p) HS2.out)
        obtain ⟨i1, i2, i3, i4, i5, i6, i7⟩ := (HS2.out.2.2.2.1 b3 rfl).1
        refine wpHU_one (i := 29) (by kernel_rfl) rfl (fun K' hK => ?_)
        have HK' := Shut.intro4 hK
        clear hK
        go_simp
        refine HK'.out _ _ (el_in HS3.out.1 LP.out LB.out EV.out) (fun _ => ?_)
        clear HK' i1 i2 i3 i4 i5 i6 i7
        have X := Lib.hid (fns_fin HS3.out)
        clear HT HS1 HS2 HS3 M1 M2 M3
        refine wpHU_done (by kernel_rfl) ?_ _
        go_wp2
        have X := Lib.hid (rg_drew X.out)
        have sbd := add_bd A1 (add_bd A2 A3)
        have Q1 := Lib.hid (fun W => plus4_any (sub y p) (sub z p) W ((add_bd A2 A3).mono (by decide)))
        have Q2 := Lib.hid (fun W => plus4_any (sub x p) (add (sub y p) (sub z p)) W (sbd.mono (by decide)))
        refine wp_region_HU (fun w' => (w'.cell? ⟨b1, 0, none⟩ = some (.int .i64 (sub x p).1) ∧ w'.cell? ⟨b1, 1, none⟩ = some (.int .i64 (sub x p).2.1) ∧ w'.cell? ⟨b1, 2, none⟩ = some (.int .i64 (sub x p).2.2)) ∧ (w'.cell? ⟨b2, 0, none⟩ = some (.int .i64 (sub y p).1) ∧ w'.cell? ⟨b2, 1, none⟩ = some (.int .i64 (sub y p).2.1) ∧ w'.cell? ⟨b2, 2, none⟩ = some (.int .i64 (sub y p).2.2)) ∧ w'.cell? ⟨b3, 0, none⟩ = some (.int .i64 (sub z p).1) ∧ w'.cell? ⟨b3, 1, none⟩ = some (.int .i64 (sub z p).2.1) ∧ w'.cell? ⟨b3, 2, none⟩ = some (.int .i64 (sub z p).2.2)) (fun i => i != 6) (by kernel_rfl) (rg_cells X.out) (fun HS => ?_)
        refine wpHU_take (i := 0) (v := ?_) rfl (by kernel_rfl) (by kernel_rfl) (by kernel_rfl) (by kernel_rfl) (fun _ _ _ h => h) (Or.inl ⟨by (first | kernel_rfl | rfl), ?_⟩) HS ?_
        rotate_left
        · (intro w' hSw; (try dsimp only at hSw); go_simp; (try with_reducible rfl))
        refine wpHU_take (i := 1) (v := ?_) rfl (by kernel_rfl) (by kernel_rfl) (by kernel_rfl) (by kernel_rfl) (fun _ _ _ h => h) (Or.inl ⟨by (first | kernel_rfl | rfl), ?_⟩) HS ?_
        rotate_left
        · (intro w' hSw; (try dsimp only at hSw); go_simp; (try with_reducible rfl))
        refine wpHU_take (i := 2) (v := ?_) rfl (by kernel_rfl) (by kernel_rfl) (by kernel_rfl) (by kernel_rfl) (fun _ _ _ h => h) (Or.inl ⟨by (first | kernel_rfl | rfl), ?_⟩) HS ?_
        rotate_left
        · (intro w' hSw; (try dsimp only at hSw); go_simp; (try with_reducible rfl))
        clear HS
        refine wpHU_name (fun a0 ha => ?_)
        obtain ⟨U1, h1⟩ : ∃ U, U = a0.tmps.getD 59 undef := ⟨_, rfl⟩
        obtain ⟨U2, h2⟩ : ∃ U, U = a0.tmps.getD 60 undef := ⟨_, rfl⟩
        obtain ⟨U3, h3⟩ : ∃ U, U = a0.tmps.getD 13 undef := ⟨_, rfl⟩
        refine wpHU_enter (l' := (fun n d => #[true, true, true, decide (0 < n), decide (1 < n), d, false] : Nat → Bool → Array Bool) 0 false) (a' := (fun x1 x2 y => (((a0.put (some 59) x1).put (some 60) x2).put (some 13) y) : Value → Value → Value → Act) U1 U2 U3) (f' := 1 + 3) (by kernel_rfl) (by subst h1 h2 h3 ha; kernel_rfl) rfl ?_
        refine wpHU_net2 (fun W q => RG1 w3.heap.size w3 W b1 b2 b3 (sub x p) (sub y p) (sub z p) q) (fun x1 x2 y => (((a0.put (some 59) x1).put (some 60) x2).put (some 13) y)) (ptv (add (sub y p) (sub z p))) (ptv (add (sub x p) (add (sub y p) (sub z p)))) U1 U2 U3 (fun n d => #[true, true, true, decide (0 < n), decide (1 < n), d, false]) 3 4 5 1
          ?_ (fun d => rfl) (fun d => rfl) (fun n _ => rfl) (fun W q h => rg_cells h.1) ?_ ?_ ?_ ?_ 3 0 none _ (by omega) rfl ⟨X.out, fun _ e => by cases e⟩
        · intro n q1 hn3 hl
          have hn4 : n = 0 ∨ n = 1 ∨ n = 2 := by omega
          rcases hn4 with rfl | rfl | rfl <;> cases q1 <;> first | (exfalso; revert hl; simp [left2]; done) | (show _ = _; kernel_rfl)
        · intro y1 q1 W K hst hk
          have HT := Lib.hid hst
          have HK := Lib.hid hk
          clear hst hk h1 h2 h3
          subst ha
          refine wpOp_step rfl (fun K' hK => ?_)
          have HK' := Shut.intro4 hK
          clear hK
          go_simp
          go_at_call 15
          refine (Q1.out _).mono ?_
          rintro e v ⟨rfl, hv⟩
          have HV := Lib.hid hv
          clear hv
          go_wp2_with fail
          refine HK'.out _ _ ?_
          exact k_eq4 (by kernel_rfl) (HK.out v (rg1_below HT.out HV.out))
        · intro y1 q1 W K hst hk
          have HT := Lib.hid hst
          have HK := Lib.hid hk
          clear hst hk h1 h2 h3
          subst ha
          refine wpOp_step rfl (fun K' hK => ?_)
          have HK' := Shut.intro4 hK
          clear hK
          go_simp
          go_at_call 15
          refine (Q2.out _).mono ?_
          rintro e v ⟨rfl, hv⟩
          have HV := Lib.hid hv
          clear hv
          go_wp2_with fail
          refine HK'.out _ _ ?_
          exact k_eq4 (by kernel_rfl) (HK.out v (rg1_below HT.out HV.out))
        · intro x1 x2 W K hst hk
          have zz := hk W.heap.size _ (rg1_new hst)
          have Z2 := Lib.hid zz
          clear hst hk zz h1 h2 h3
          subst ha
          refine wpOp_step rfl (fun K' hK => ?_)
          have HK' := Shut.intro4 hK
          clear hK
          go_simp
          refine HK'.out _ _ ?_
          exact k_eq4 (by kernel_rfl) Z2.out
        · intro b4 W hst
          have HT := Lib.hid hst
          clear hst h1 h2 h3
          subst ha
          dsimp only [pq]
          obtain ⟨i1, i2, i3, i4, i5, i6, i7⟩ := (HT.out.2 b4 rfl).1
          refine wpHU_last (i := 6) (by kernel_rfl) rfl (by decide) (fun K' hK => ?_)
          have HK' := Shut.intro4 hK
          clear hK
          go_simp
          refine HK'.out _ _ ?_
          clear HK' i1 i2 i3 i4 i5 i6 i7
          refine wpHU_done (by kernel_rfl) ?_ _
          have GL := Lib.hid (show w1.heap.size < w3.heap.size from ST.out.1.2.2)
          have BZ := Lib.hid (show Below w3.heap.size w3 (((W.setCell ⟨b4, 0, none⟩ (.int .i64 (add (sub x p) (add (sub y p) (sub z p))).1)).setCell ⟨b4, 1, none⟩ (.int .i64 (add (sub x p) (add (sub y p) (sub z p))).2.1)).setCell ⟨b4, 2, none⟩ (.int .i64 (add (sub x p) (add (sub y p) (sub z p))).2.2)) from HT.out.1.2.2.2.1.trans ((((Below.refl w3.heap.size W).setCell (HT.out.2 b4 rfl).2.1 _).setCell (HT.out.2 b4 rfl).2.1 _).setCell (HT.out.2 b4 rfl).2.1 _))
          have Y0 := Lib.hid (show OG w (((W.setCell ⟨b4, 0, none⟩ (.int .i64 (add (sub x p) (add (sub y p) (sub z p))).1)).setCell ⟨b4, 1, none⟩ (.int .i64 (add (sub x p) (add (sub y p) (sub z p))).2.1)).setCell ⟨b4, 2, none⟩ (.int .i64 (add (sub x p) (add (sub y p) (sub z p))).2.2)) w1.heap.size m b1 b2 b3 b4 (sub x p) (sub y p) (sub z p) (add (sub x p) (add (sub y p) (sub z p))) p from
            ⟨ownMo_in4 ST.out.1 BZ.out GL.out, own_s3 HT.out.1.1 (HT.out.2 b4 rfl).2.2.1.symm, own_s3 HT.out.1.2.1 (HT.out.2 b4 rfl).2.2.2.1.symm, own_s3 HT.out.1.2.2.1 (HT.out.2 b4 rfl).2.2.2.2.symm, own_write4 (HT.out.2 b4 rfl).1 _, own_in4 ST.out.2.1 BZ.out LP.out, ownMo_in4 ST.out.2.2.1 BZ.out (by have := LG.out; have := GL.out; omega), bstep ST.out.2.2.2 BZ.out, LG.out,
              by have := HT.out.1.2.2.2.2.1.1; have := GL.out; omega, by have := HT.out.1.2.2.2.2.1.2.1; have := GL.out; omega, by have := HT.out.1.2.2.2.2.1.2.2; have := GL.out; omega, by have := (HT.out.2 b4 rfl).2.1; have := GL.out; omega⟩)
          clear HT BZ Q1 Q2 X
          generalize (((W.setCell ⟨b4, 0, none⟩ (.int .i64 (add (sub x p) (add (sub y p) (sub z p))).1)).setCell ⟨b4, 1, none⟩ (.int .i64 (add (sub x p) (add (sub y p) (sub z p))).2.1)).setCell ⟨b4, 2, none⟩ (.int .i64 (add (sub x p) (add (sub y p) (sub z p))).2.2)) = W1 at *
          obtain ⟨mb1, mb2, mb3, mb4⟩ := mbd_facts MB hk hn
          have WR1 : IntKind.i64.wrap (m.c + q) = m.c + q := IntWalk.i64_in _ (by omega)
          have ZM := Y0.out.mo
          dsimp only [OwnMo] at ZM
          obtain ⟨⟨y0, y1, y2, y3, y4, y5, y6, y7, y8, y9, y10⟩, ⟨f0, f1, f2, f3, f4, f5, f6, f7, f8, f9, f10⟩, lr⟩ := ZM
          go_wp2
          clear y0 y1 y2 y3 y4 y5 y6 y7 y8 y9 y10 f0 f1 f2 f3 f4 f5 f6 f7 f8 f9 f10 lr
          have Y1 := Lib.hid (show OG w _ w1.heap.size { m with c := m.c + q } b1 b2 b3 b4 (sub x p) (sub y p) (sub z p) (add (sub x p) (add (sub y p) (sub z p))) p from og_set Y0.out (ownMo_put0 Y0.out.mo _) (fun r u ne h => own_set h ne) (ownMo_set Y0.out.res (by have := LG.out; omega)) (below_set1 Y0.out.bel (by have := LG.out; omega)))
          clear Y0 WR1
          have YU := Y1
          have Y1 := Lib.hid (og_drew Y1.out)
          have ZS := Lib.hid (fun W => (szI_small hq2 ▸ size_any q W : Calls Tryd.prog 16 #[.int .i64 q] W fun e w' => e = .returned (.int .i64 (absI q)) ∧ W = w'))
          have WR2 : IntKind.i64.wrap (m.t + absI q) = m.t + absI q := IntWalk.i64_in _ (by have := absI_bd hq2; omega)
          refine wp_region_HU (fun w' => w'.cell? ⟨w1.heap.size, 1, none⟩ = some (.int .i64 m.t)) (fun i => i != 6) (by kernel_rfl) Y1.out.mo.1.2.1 (fun HS => ?_)
          refine wpHU_take (i := 0) (v := ?_) rfl (by kernel_rfl) (by kernel_rfl) (by kernel_rfl) (by kernel_rfl) (fun _ _ _ h => h) (Or.inl ⟨by (first | kernel_rfl | rfl), ?_⟩) HS ?_
          rotate_left
          · (intro w' hSw; (try dsimp only at hSw); go_simp; (try with_reducible rfl))
          refine wpHU_take (i := 1) (v := ?_) rfl (by kernel_rfl) (by kernel_rfl) (by kernel_rfl) (by kernel_rfl) (fun _ _ _ h => h) (Or.inl ⟨by (first | kernel_rfl | rfl), ?_⟩) HS ?_
          rotate_left
          · (intro w' hSw; (try dsimp only at hSw); go_simp; (try with_reducible rfl))
          refine wpHU_take (i := 2) (v := ?_) rfl (by kernel_rfl) (by kernel_rfl) (by kernel_rfl) (by kernel_rfl) (fun _ _ _ h => h) (Or.inl ⟨by (first | kernel_rfl | rfl), ?_⟩) HS ?_
          rotate_left
          · (intro w' hSw; (try dsimp only at hSw); go_simp; (try with_reducible rfl))
          refine wpHU_one (i := 3) (by kernel_rfl) rfl (fun K' hK => ?_)
          have HK' := Shut.intro4 hK
          clear hK
          go_simp
          go_at_call 16
          refine (ZS.out _).mono ?_
          rintro e v ⟨rfl, rfl⟩
          go_wp2_with fail
          refine HK'.out _ _ Y1.out.mo.1.2.1 (fun _ => ?_)
          clear HK'
          refine wpHU_one (i := 4) (by kernel_rfl) rfl (fun K' hK => ?_)
          have HK' := Shut.intro4 hK
          clear hK
          go_simp
          refine HK'.out _ _ Y1.out.mo.1.2.1 (fun _ => ?_)
          clear HK'
          refine wpHU_one (i := 5) (by kernel_rfl) rfl (fun K' hK => ?_)
          have HK' := Shut.intro4 hK
          clear hK
          go_simp
          refine HK'.out _ _ Y1.out.mo.1.2.1 (fun _ => ?_)
          clear HK'
          have ZM := Y1.out.mo
          dsimp only [OwnMo] at ZM
          obtain ⟨⟨y0, y1, y2, y3, y4, y5, y6, y7, y8, y9, y10⟩, ⟨f0, f1, f2, f3, f4, f5, f6, f7, f8, f9, f10⟩, lr⟩ := ZM
          refine wpHU_last (i := 6) (by kernel_rfl) rfl (by decide) (fun K' hK => ?_)
          have HK' := Shut.intro4 hK
          clear hK
          go_simp
          refine HK'.out _ _ ?_
          clear y0 y1 y2 y3 y4 y5 y6 y7 y8 y9 y10 f0 f1 f2 f3 f4 f5 f6 f7 f8 f9 f10 lr
          clear HK' HS
          refine wpHU_done (by kernel_rfl) ?_ _
          have Y2 := Lib.hid (show OG w _ w1.heap.size { m with c := m.c + q, t := m.t + absI q } b1 b2 b3 b4 (sub x p) (sub y p) (sub z p) (add (sub x p) (add (sub y p) (sub z p))) p from og_set YU.out (ownMo_put1 YU.out.mo _) (fun r u ne h => own_set h ne) (ownMo_set YU.out.res (by have := LG.out; omega)) (below_set1 YU.out.bel (by have := LG.out; omega)))
          have Y2 := Lib.hid (og_drew Y2.out)
          clear Y1 YU ZS WR2
          generalize ((W1.setCell ⟨w1.heap.size, 0, none⟩ (.int .i64 (m.c + q))).setCell ⟨w1.heap.size, 1, none⟩ (.int .i64 (m.t + absI q))).drew = W2 at *
          have TB := tim_bd (K := 100) hq2.1 hq2.2 sbd
          have PD := Lib.hid (fun W => plus4_any m.d (tim q (add (sub x p) (add (sub y p) (sub z p)))) W ((add_bd mb3 TB).mono (by decide)))
          have TW := TB
          simp only [BdP, tim] at TW
          obtain ⟨tw1, tw2, tw3, tw4, tw5, tw6⟩ := TW
          have WR1 : IntKind.i64.wrap (q * (add (sub x p) (add (sub y p) (sub z p))).1) = q * (add (sub x p) (add (sub y p) (sub z p))).1 := IntWalk.i64_in _ (by omega)
          have WR2 : IntKind.i64.wrap (q * (add (sub x p) (add (sub y p) (sub z p))).2.1) = q * (add (sub x p) (add (sub y p) (sub z p))).2.1 := IntWalk.i64_in _ (by omega)
          have WR3 : IntKind.i64.wrap (q * (add (sub x p) (add (sub y p) (sub z p))).2.2) = q * (add (sub x p) (add (sub y p) (sub z p))).2.2 := IntWalk.i64_in _ (by omega)
          have ZM := Y2.out.mo
          dsimp only [OwnMo] at ZM
          obtain ⟨⟨y0, y1, y2, y3, y4, y5, y6, y7, y8, y9, y10⟩, ⟨f0, f1, f2, f3, f4, f5, f6, f7, f8, f9, f10⟩, lr⟩ := ZM
          obtain ⟨u1, u2, u3, u4, u5, u6, u7⟩ := Y2.out.o4
          clear tw1 tw2 tw3 tw4 tw5 tw6
          go_wp2_with fail
          refine (PD.out _).mono ?_
          rintro e W4 ⟨rfl, hb4⟩
          clear y0 y1 y2 y3 y4 y5 y6 y7 y8 y9 y10 f0 f1 f2 f3 f4 f5 f6 f7 f8 f9 f10 lr
          clear u1 u2 u3 u4 u5 u6 u7 WR1 WR2 WR3 PD
          have Y2 := Lib.hid (og_below Y2.out hb4)
          clear hb4
          have ZM := Y2.out.mo
          dsimp only [OwnMo] at ZM
          obtain ⟨⟨y0, y1, y2, y3, y4, y5, y6, y7, y8, y9, y10⟩, ⟨f0, f1, f2, f3, f4, f5, f6, f7, f8, f9, f10⟩, lr⟩ := ZM
          go_wp2
          clear y0 y1 y2 y3 y4 y5 y6 y7 y8 y9 y10 f0 f1 f2 f3 f4 f5 f6 f7 f8 f9 f10 lr
          have Y3 := Lib.hid (show OG w _ w1.heap.size { m with c := m.c + q, t := m.t + absI q, d := add m.d (tim q (add (sub x p) (add (sub y p) (sub z p)))) } b1 b2 b3 b4 (sub x p) (sub y p) (sub z p) (add (sub x p) (add (sub y p) (sub z p))) p from og_set Y2.out (ownMo_dip Y2.out.mo (add m.d (tim q (add (sub x p) (add (sub y p) (sub z p)))))) (fun r u ne h => own_d3 h ne) (ownMo_s3 Y2.out.res (by have := LG.out; omega)) (below_d3 Y2.out.bel (by have := LG.out; omega)))
          clear Y2
          have Y3 := Lib.hid (og_drew Y3.out)
          have s384 : BdP 384 (add (sub x p) (add (sub y p) (sub z p))) := sbd.mono (by decide)
          have p1 := pr6_bd hq2.1 hq2.2 (A1.mono (show (64 + 64 : Int) ≤ 384 by decide))
          have p2 := pr6_bd hq2.1 hq2.2 (A2.mono (show (64 + 64 : Int) ≤ 384 by decide))
          have p3 := pr6_bd hq2.1 hq2.2 (A3.mono (show (64 + 64 : Int) ≤ 384 by decide))
          have p4 := pr6_bd hq2.1 hq2.2 s384
          have N1 := Lib.hid (fun W => prods_any (sub x p) q W hq2.1 hq2.2 (A1.mono (by decide)))
          have N2 := Lib.hid (fun W => prods_any (sub y p) q W hq2.1 hq2.2 (A2.mono (by decide)))
          have N3 := Lib.hid (fun W => prods_any (sub z p) q W hq2.1 hq2.2 (A3.mono (by decide)))
          have N4 := Lib.hid (fun W => prods_any (add (sub x p) (add (sub y p) (sub z p))) q W hq2.1 hq2.2 s384)
          have K1 := Lib.hid (fun W => plus6_any (pr6 q (sub x p)) (pr6 q (sub y p)) W ((add6_bd p1 p2).mono (by decide)))
          have K2 := Lib.hid (fun W => plus6_any (pr6 q (sub z p)) (pr6 q (add (sub x p) (add (sub y p) (sub z p)))) W ((add6_bd p3 p4).mono (by decide)))
          have K3 := Lib.hid (fun W => plus6_any (add6 (pr6 q (sub x p)) (pr6 q (sub y p))) (add6 (pr6 q (sub z p)) (pr6 q (add (sub x p) (add (sub y p) (sub z p))))) W ((add6_bd (add6_bd p1 p2) (add6_bd p3 p4)).mono (by decide)))
          have K4 := Lib.hid (fun W => plus6_any (ms6 m) (add6 (add6 (pr6 q (sub x p)) (pr6 q (sub y p))) (add6 (pr6 q (sub z p)) (pr6 q (add (sub x p) (add (sub y p) (sub z p)))))) W ((add6_bd mb4 (add6_bd (add6_bd p1 p2) (add6_bd p3 p4))).mono (by decide)))
          clear p1 p2 p3 p4
          refine wp_region_HU (fun w' => (w'.cell? ⟨w1.heap.size, 5, none⟩ = some (.int .i64 m.s0) ∧ w'.cell? ⟨w1.heap.size, 6, none⟩ = some (.int .i64 m.s1) ∧ w'.cell? ⟨w1.heap.size, 7, none⟩ = some (.int .i64 m.s2) ∧ w'.cell? ⟨w1.heap.size, 8, none⟩ = some (.int .i64 m.s3) ∧ w'.cell? ⟨w1.heap.size, 9, none⟩ = some (.int .i64 m.s4) ∧ w'.cell? ⟨w1.heap.size, 10, none⟩ = some (.int .i64 m.s5)) ∧ (w'.cell? ⟨b1, 0, none⟩ = some (.int .i64 (sub x p).1) ∧ w'.cell? ⟨b1, 1, none⟩ = some (.int .i64 (sub x p).2.1) ∧ w'.cell? ⟨b1, 2, none⟩ = some (.int .i64 (sub x p).2.2)) ∧ (w'.cell? ⟨b2, 0, none⟩ = some (.int .i64 (sub y p).1) ∧ w'.cell? ⟨b2, 1, none⟩ = some (.int .i64 (sub y p).2.1) ∧ w'.cell? ⟨b2, 2, none⟩ = some (.int .i64 (sub y p).2.2)) ∧ (w'.cell? ⟨b3, 0, none⟩ = some (.int .i64 (sub z p).1) ∧ w'.cell? ⟨b3, 1, none⟩ = some (.int .i64 (sub z p).2.1) ∧ w'.cell? ⟨b3, 2, none⟩ = some (.int .i64 (sub z p).2.2)) ∧ w'.cell? ⟨b4, 0, none⟩ = some (.int .i64 (add (sub x p) (add (sub y p) (sub z p))).1) ∧ w'.cell? ⟨b4, 1, none⟩ = some (.int .i64 (add (sub x p) (add (sub y p) (sub z p))).2.1) ∧ w'.cell? ⟨b4, 2, none⟩ = some (.int .i64 (add (sub x p) (add (sub y p) (sub z p))).2.2)) (fun i => i != 19) (by kernel_rfl) ⟨Y3.out.mo.1.2.2.2.2.2, own_cells Y3.out.o1, own_cells Y3.out.o2, own_cells Y3.out.o3, own_cells Y3.out.o4⟩ (fun HS => ?_)
          refine wpHU_take (i := 0) (v := ?_) rfl (by kernel_rfl) (by kernel_rfl) (by kernel_rfl) (by kernel_rfl) (fun _ _ _ h => h) (Or.inl ⟨by (first | kernel_rfl | rfl), ?_⟩) HS ?_
          rotate_left
          · (intro w' hSw; (try dsimp only at hSw); go_simp; (try with_reducible rfl))
          refine wpHU_take (i := 1) (v := ?_) rfl (by kernel_rfl) (by kernel_rfl) (by kernel_rfl) (by kernel_rfl) (fun _ _ _ h => h) (Or.inl ⟨by (first | kernel_rfl | rfl), ?_⟩) HS ?_
          rotate_left
          · (intro w' hSw; (try dsimp only at hSw); go_simp; (try with_reducible rfl))
          refine wpHU_take (i := 2) (v := ?_) rfl (by kernel_rfl) (by kernel_rfl) (by kernel_rfl) (by kernel_rfl) (fun _ _ _ h => h) (Or.inl ⟨by (first | kernel_rfl | rfl), ?_⟩) HS ?_
          rotate_left
          · (intro w' hSw; (try dsimp only at hSw); go_simp; (try with_reducible rfl))
          refine wpHU_take (i := 3) (v := ?_) rfl (by kernel_rfl) (by kernel_rfl) (by kernel_rfl) (by kernel_rfl) (fun _ _ _ h => h) (Or.inl ⟨by (first | kernel_rfl | rfl), ?_⟩) HS ?_
          rotate_left
          · (intro w' hSw; (try dsimp only at hSw); go_simp; (try with_reducible rfl))
          refine wpHU_take (i := 5) (v := ?_) rfl (by kernel_rfl) (by kernel_rfl) (by kernel_rfl) (by kernel_rfl) (fun _ _ _ h => h) (Or.inl ⟨by (first | kernel_rfl | rfl), ?_⟩) HS ?_
          rotate_left
          · (intro w' hSw; (try dsimp only at hSw); go_simp; (try with_reducible rfl))
          refine wpHU_take (i := 6) (v := ?_) rfl (by kernel_rfl) (by kernel_rfl) (by kernel_rfl) (by kernel_rfl) (fun _ _ _ h => h) (Or.inl ⟨by (first | kernel_rfl | rfl), ?_⟩) HS ?_
          rotate_left
          · (intro w' hSw; (try dsimp only at hSw); go_simp; (try with_reducible rfl))
          refine wpHU_take (i := 9) (v := ?_) rfl (by kernel_rfl) (by kernel_rfl) (by kernel_rfl) (by kernel_rfl) (fun _ _ _ h => h) (Or.inl ⟨by (first | kernel_rfl | rfl), ?_⟩) HS ?_
          rotate_left
          · (intro w' hSw; (try dsimp only at hSw); go_simp; (try with_reducible rfl))
          refine wpHU_take (i := 10) (v := ?_) rfl (by kernel_rfl) (by kernel_rfl) (by kernel_rfl) (by kernel_rfl) (fun _ _ _ h => h) (Or.inl ⟨by (first | kernel_rfl | rfl), ?_⟩) HS ?_
          rotate_left
          · (intro w' hSw; (try dsimp only at hSw); go_simp; (try with_reducible rfl))
          refine wpHU_take (i := 12) (v := ?_) rfl (by kernel_rfl) (by kernel_rfl) (by kernel_rfl) (by kernel_rfl) (fun _ _ _ h => h) (Or.inl ⟨by (first | kernel_rfl | rfl), ?_⟩) HS ?_
          rotate_left
          · (intro w' hSw; (try dsimp only at hSw); go_simp; (try with_reducible rfl))
          refine wpHU_take (i := 13) (v := ?_) rfl (by kernel_rfl) (by kernel_rfl) (by kernel_rfl) (by kernel_rfl) (fun _ _ _ h => h) (Or.inl ⟨by (first | kernel_rfl | rfl), ?_⟩) HS ?_
          rotate_left
          · (intro w' hSw; (try dsimp only at hSw); go_simp; (try with_reducible rfl))
          clear HS
          refine wpHU_one (i := 4) (by kernel_rfl) rfl (fun K' hK => ?_)
          have HK' := Shut.intro4 hK
          clear hK
          go_simp
          go_at_call 18
          refine (N1.out _).mono ?_
          rintro e v ⟨rfl, hv⟩
          have Y3 := Lib.hid (og_below Y3.out hv)
          clear hv
          go_wp2_with fail
          refine HK'.out _ _ ⟨Y3.out.mo.1.2.2.2.2.2, own_cells Y3.out.o1, own_cells Y3.out.o2, own_cells Y3.out.o3, own_cells Y3.out.o4⟩ (fun _ => ?_)
          clear HK'
          refine wpHU_one (i := 7) (by kernel_rfl) rfl (fun K' hK => ?_)
          have HK' := Shut.intro4 hK
          clear hK
          go_simp
          go_at_call 18
          refine (N2.out _).mono ?_
          rintro e v ⟨rfl, hv⟩
          have Y3 := Lib.hid (og_below Y3.out hv)
          clear hv
          go_wp2_with fail
          refine HK'.out _ _ ⟨Y3.out.mo.1.2.2.2.2.2, own_cells Y3.out.o1, own_cells Y3.out.o2, own_cells Y3.out.o3, own_cells Y3.out.o4⟩ (fun _ => ?_)
          clear HK'
          refine wpHU_one (i := 8) (by kernel_rfl) rfl (fun K' hK => ?_)
          have HK' := Shut.intro4 hK
          clear hK
          go_simp
          go_at_call 17
          refine (K1.out _).mono ?_
          rintro e v ⟨rfl, hv⟩
          have Y3 := Lib.hid (og_below Y3.out hv)
          clear hv
          go_wp2_with fail
          refine HK'.out _ _ ⟨Y3.out.mo.1.2.2.2.2.2, own_cells Y3.out.o1, own_cells Y3.out.o2, own_cells Y3.out.o3, own_cells Y3.out.o4⟩ (fun _ => ?_)
          clear HK'
          refine wpHU_one (i := 11) (by kernel_rfl) rfl (fun K' hK => ?_)
          have HK' := Shut.intro4 hK
          clear hK
          go_simp
          go_at_call 18
          refine (N3.out _).mono ?_
          rintro e v ⟨rfl, hv⟩
          have Y3 := Lib.hid (og_below Y3.out hv)
          clear hv
          go_wp2_with fail
          refine HK'.out _ _ ⟨Y3.out.mo.1.2.2.2.2.2, own_cells Y3.out.o1, own_cells Y3.out.o2, own_cells Y3.out.o3, own_cells Y3.out.o4⟩ (fun _ => ?_)
          clear HK'
          refine wpHU_one (i := 14) (by kernel_rfl) rfl (fun K' hK => ?_)
          have HK' := Shut.intro4 hK
          clear hK
          go_simp
          go_at_call 18
          refine (N4.out _).mono ?_
          rintro e v ⟨rfl, hv⟩
          have Y3 := Lib.hid (og_below Y3.out hv)
          clear hv
          go_wp2_with fail
          refine HK'.out _ _ ⟨Y3.out.mo.1.2.2.2.2.2, own_cells Y3.out.o1, own_cells Y3.out.o2, own_cells Y3.out.o3, own_cells Y3.out.o4⟩ (fun _ => ?_)
          clear HK'
          refine wpHU_one (i := 15) (by kernel_rfl) rfl (fun K' hK => ?_)
          have HK' := Shut.intro4 hK
          clear hK
          go_simp
          go_at_call 17
          refine (K2.out _).mono ?_
          rintro e v ⟨rfl, hv⟩
          have Y3 := Lib.hid (og_below Y3.out hv)
          clear hv
          go_wp2_with fail
          refine HK'.out _ _ ⟨Y3.out.mo.1.2.2.2.2.2, own_cells Y3.out.o1, own_cells Y3.out.o2, own_cells Y3.out.o3, own_cells Y3.out.o4⟩ (fun _ => ?_)
          clear HK'
          refine wpHU_one (i := 16) (by kernel_rfl) rfl (fun K' hK => ?_)
          have HK' := Shut.intro4 hK
          clear hK
          go_simp
          go_at_call 17
          refine (K3.out _).mono ?_
          rintro e v ⟨rfl, hv⟩
          have Y3 := Lib.hid (og_below Y3.out hv)
          clear hv
          go_wp2_with fail
          refine HK'.out _ _ ⟨Y3.out.mo.1.2.2.2.2.2, own_cells Y3.out.o1, own_cells Y3.out.o2, own_cells Y3.out.o3, own_cells Y3.out.o4⟩ (fun _ => ?_)
          clear HK'
          refine wpHU_one (i := 17) (by kernel_rfl) rfl (fun K' hK => ?_)
          have HK' := Shut.intro4 hK
          clear hK
          go_simp
          go_at_call 17
          refine (K4.out _).mono ?_
          rintro e v ⟨rfl, hv⟩
          have Y3 := Lib.hid (og_below Y3.out hv)
          clear hv
          go_wp2_with fail
          refine HK'.out _ _ ⟨Y3.out.mo.1.2.2.2.2.2, own_cells Y3.out.o1, own_cells Y3.out.o2, own_cells Y3.out.o3, own_cells Y3.out.o4⟩ (fun _ => ?_)
          clear HK'
          refine wpHU_one (i := 18) (by kernel_rfl) rfl (fun K' hK => ?_)
          have HK' := Shut.intro4 hK
          clear hK
          go_simp
          refine HK'.out _ _ ⟨Y3.out.mo.1.2.2.2.2.2, own_cells Y3.out.o1, own_cells Y3.out.o2, own_cells Y3.out.o3, own_cells Y3.out.o4⟩ (fun _ => ?_)
          clear HK'
          have ZM := Y3.out.mo
          dsimp only [OwnMo] at ZM
          obtain ⟨⟨y0, y1, y2, y3, y4, y5, y6, y7, y8, y9, y10⟩, ⟨f0, f1, f2, f3, f4, f5, f6, f7, f8, f9, f10⟩, lr⟩ := ZM
          refine wpHU_last (i := 19) (by kernel_rfl) rfl (by decide) (fun K' hK => ?_)
          have HK' := Shut.intro4 hK
          clear hK
          go_simp
          refine HK'.out _ _ ?_
          clear y0 y1 y2 y3 y4 y5 y6 y7 y8 y9 y10 f0 f1 f2 f3 f4 f5 f6 f7 f8 f9 f10 lr
          clear HK' N1 N2 N3 N4 K1 K2 K3 K4
          refine wpHU_done (by kernel_rfl) ?_ _
          have Y4 := Lib.hid (show OG w _ w1.heap.size (madd m (gat p ((x, y, z), q))) b1 b2 b3 b4 (sub x p) (sub y p) (sub z p) (add (sub x p) (add (sub y p) (sub z p))) p from by
            rw [← of_round]
            exact og_set Y3.out (ownMo_sec Y3.out.mo _) (fun r u ne h => own_s6 h ne) (ownMo_s6 Y3.out.res (by have := LG.out; omega)) (below_s6 Y3.out.bel (by have := LG.out; omega)))
          clear Y3
          go_wp2
          go_roundw
          case rel => exact ⟨k + 1, by omega, by go_num, by rw [E.out]; exact Y4.out.mo, Y4.out.op, Y4.out.res, Y4.out.bel⟩
          case measure => simp [intOf]; omega
    · obtain rfl : k = n := by omega
      obtain ⟨⟨k0, k1, k2, k3, k4, k5, k6, k7, k8, k9, k10⟩, ⟨kf0, kf1, kf2, kf3, kf4, kf5, kf6, kf7, kf8, kf9, kf10⟩, kl⟩ := ST.out.1
      have OR' := ST.out.2.2.1
      simp only [OwnMo, mzero] at OR'
      obtain ⟨⟨y0, y1, y2, y3, y4, y5, y6, y7, y8, y9, y10⟩, ⟨g0, g1, g2, g3, g4, g5, g6, g7, g8, g9, g10⟩, lr⟩ := OR'
      go_wp2
      refine bodyPost_ret (v := .tuple #[mov (mof p Q k), .int .i64 0]) (by rw [results_cell_tmp rfl]; go_simp) rfl ⟨rfl, ?_⟩
      exact below_put11 ST.out.2.2.2 (by omega)

end Go.Proofs.YtofjnbebipkgkaaDoor
