/-
  The contract of the document's Block.
-/
import Derived.Test.YtcphdlcglaopjaaMakes0
import Derived.Outline
namespace Go.Proofs.Ytcphdlcglaopjaa
open Go.ChangeShapes Go.WideShapes Go.RowKit
open Sh
/-- the call's own mesh, whatever its slices -/
def OwnMs (w : World) (q : Nat) (v v' : Value) : Prop := w.cell? ⟨q, 0, none⟩ = some v ∧ w.cell? ⟨q, 1, none⟩ = some v' ∧ w.frozen? ⟨q, 0, none⟩ = false ∧ w.frozen? ⟨q, 1, none⟩ = false ∧ q < w.heap.size
theorem ownMs_block {w w1 : World} {q : Nat} {v v' : Value} (h : OwnMs w q v v') (e : w1.heap[q]? = w.heap[q]?) (k : w.heap.size ≤ w1.heap.size) : OwnMs w1 q v v' :=
  ⟨(World.cell?_of_block (w := w) (a := ⟨q, 0, none⟩) e).trans h.1, (World.cell?_of_block (w := w) (a := ⟨q, 1, none⟩) e).trans h.2.1, (World.frozen?_of_block (w := w) (a := ⟨q, 0, none⟩) e).trans h.2.2.1, (World.frozen?_of_block (w := w) (a := ⟨q, 1, none⟩) e).trans h.2.2.2.1, Nat.lt_of_lt_of_le h.2.2.2.2 k⟩
theorem ownMs_below {w w1 : World} {q : Nat} {v v' : Value} (h : OwnMs w q v v') (hb : Below w.heap.size w w1) : OwnMs w1 q v v' := ownMs_block h (hb.block q h.2.2.2.2) hb.size
theorem ownMs_alloc {w : World} {q : Nat} {v v' : Value} (h : OwnMs w q v v') (o : Obj) : OwnMs (w.alloc o) q v v' := ownMs_below h ((Below.refl _ _).alloc (Nat.le_refl _) _)
theorem ownMs_grown {w w1 : World} {row : Option Nat} {q : Nat} {v v' : Value} (h : OwnMs w q v v') (hg : w.grownBy w1 row) (hr : row ≠ some q) : OwnMs w1 q v v' := ownMs_block h (hg.block q h.2.2.2.2 (fun e => hr e.symm)) hg.size
theorem ownMs_new (w : World) (v v' : Value) (t : TypeId) : OwnMs (w.alloc (.cells #[v, v'] t)) w.heap.size v v' := ⟨by go_simp, by go_simp, by go_simp, by go_simp, by simp⟩
theorem ownMs_put0 {w : World} {q : Nat} {v v' : Value} (h : OwnMs w q v v') (u : Value) : OwnMs (w.setCell ⟨q, 0, none⟩ u) q u v' := by
  obtain ⟨h1, h2, h3, h4, h5⟩ := h
  exact ⟨by go_simp, by go_simp, by go_simp, by go_simp, by simpa using h5⟩
theorem ownMs_put1 {w : World} {q : Nat} {v v' : Value} (h : OwnMs w q v v') (u : Value) : OwnMs (w.setCell ⟨q, 1, none⟩ u) q v u := by
  obtain ⟨h1, h2, h3, h4, h5⟩ := h
  exact ⟨by go_simp, by go_simp, by go_simp, by go_simp, by simpa using h5⟩
theorem ownMs_set {w : World} {q r o : Nat} {v v' u : Value} (h : OwnMs w q v v') (k : r ≠ q) : OwnMs (w.setCell ⟨r, o, none⟩ u) q v v' := by
  obtain ⟨h1, h2, h3, h4, h5⟩ := h
  have k1 : ¬ r = q := k
  have k2 : ¬ q = r := fun e => k e.symm
  exact ⟨by go_simp, by go_simp, by go_simp, by go_simp, by simpa using h5⟩
theorem owns_slice {w : World} {base : Nat} {e : TypeId} {size n : Nat} {v : Value} {xs : List Value} (h : w.ownsRow base e size v n xs) (h0 : 0 < n) : ∃ g cap, v = .slice (some ⟨g, 0, none⟩) n cap := by
  rcases h.2 with ⟨_, h'⟩ | ⟨g, cap, cur, rfl, _⟩
  · omega
  · exact ⟨g, cap, rfl⟩
theorem below_put1 {a w : World} {r o : Nat} {x : Value} (h : Below a.heap.size a w) (n : a.heap.size ≤ r) : Below a.heap.size a (w.setCell ⟨r, o, none⟩ x) := h.setCell n _
theorem lst_put1 {w : World} {a : Option Addr} {n : Nat} {P : Nat → P3} {r o : Nat} {x : Value} (h : Lst w a n P) (k : ∀ b, a = some b → b.block ≠ r) : Lst (w.setCell ⟨r, o, none⟩ x) a n P := fun h0 => by
  obtain ⟨b, off, e, q⟩ := h h0
  have ne := k _ e
  exact ⟨b, off, e, row3_set q (fun z => ne z.symm)⟩
set_option maxRecDepth 100000 in
set_option maxHeartbeats 8000000 in
theorem rblock_row (a b c : Int) (w : World) (ha : szB a = true) (hb : szB b = true) (hc : szB c = true) :
    Calls Try.prog 54 #[.int .i64 a, .int .i64 b, .int .i64 c] w (Meshed 8 12 (boxP a b c) boxF w) := by
  have bd : 1 ≤ a ∧ a ≤ 64 ∧ 1 ≤ b ∧ b ≤ 64 ∧ 1 ≤ c ∧ c ≤ 64 := by unfold szB at ha hb hc; simp only [decide_eq_true_eq] at ha hb hc; omega
  obtain ⟨a1, a2, b1, b2, c1, c2⟩ := bd
  have Sa := Lib.hid (fun W => (show Calls Try.prog 68 #[.int .i64 a, .int .i64 1, .int .i64 64] W fun e w' => e = .returned (.bool true) ∧ W = w' by have z := rwithin_any a 1 64 W; rw [show decide (1 ≤ a ∧ a ≤ 64) = true from ha] at z; exact z))
  have Sb := Lib.hid (fun W => (show Calls Try.prog 68 #[.int .i64 b, .int .i64 1, .int .i64 64] W fun e w' => e = .returned (.bool true) ∧ W = w' by have z := rwithin_any b 1 64 W; rw [show decide (1 ≤ b ∧ b ≤ 64) = true from hb] at z; exact z))
  have Sc := Lib.hid (fun W => (show Calls Try.prog 68 #[.int .i64 c, .int .i64 1, .int .i64 64] W fun e w' => e = .returned (.bool true) ∧ W = w' by have z := rwithin_any c 1 64 W; rw [show decide (1 ≤ c ∧ c ≤ 64) = true from hc] at z; exact z))
  obtain ⟨i0, hi, hz0, hz1, hz2⟩ := info_parts infoPt
  clear ha hb hc
  go_enter Try.func54, Try.ntmps54
  go_wp2_with fail
  refine (Sa.out _).mono ?_
  rintro e w' ⟨rfl, rfl⟩
  go_wp2_with fail
  refine (Sb.out _).mono ?_
  rintro e w' ⟨rfl, rfl⟩
  go_wp2_with fail
  refine (Sc.out _).mono ?_
  rintro e w' ⟨rfl, rfl⟩
  go_wp2
  have M0 := Lib.hid (by have z := ownMs_new (w.alloc (.cells #[.slice none 0 0, .slice none 0 0] 25)) (.slice none 0 0) (.slice none 0 0) 25; simp only [World.size_alloc] at z; exact z : OwnMs ((w.alloc (.cells #[.slice none 0 0, .slice none 0 0] 25)).alloc (.cells #[.slice none 0 0, .slice none 0 0] 25)) (w.heap.size + 1) (.slice none 0 0) (.slice none 0 0))
  have Z0 := Lib.hid (ownMs_alloc (ownMs_new w (.slice none 0 0) (.slice none 0 0) 25) (.cells #[.slice none 0 0, .slice none 0 0] 25))
  have O0 := Lib.hid (World.ownsRow_nil ((w.alloc (.cells #[.slice none 0 0, .slice none 0 0] 25)).alloc (.cells #[.slice none 0 0, .slice none 0 0] 25)) (w.heap.size + 1 + 1) 33 3)
  have B0 := Lib.hid (balloc (balloc (Below.refl w.heap.size w) (.cells #[.slice none 0 0, .slice none 0 0] 25)) (.cells #[.slice none 0 0, .slice none 0 0] 25))
  obtain ⟨u0, hu0⟩ : ∃ u, u = (w.alloc (.cells #[.slice none 0 0, .slice none 0 0] 25)).alloc (.cells #[.slice none 0 0, .slice none 0 0] 25) := ⟨_, rfl⟩
  rw [← hu0] at M0 Z0 O0 B0 ⊢
  clear hu0
  refine wp_loop_rounds 9 ?_
  rw [rounds_succ]
  obtain ⟨y1, y2, y3, y4, y5⟩ := M0.out
  have OB0 := Lib.hid (ownsRow_block O0.out)
  go_wp2_with (at_builtin; refine wpList_append_own _ rfl _ _ 22 rfl (w.heap.size + 1 + 1) 33 i0 _ 3 24 Try.underlying22 hi hz0 hz1 hz2 rfl (by decide) _ _ _ rfl (O0.out.alloc _) ⟨u0.heap.size, 0, none⟩ 1 1 [.int .i64 0, .int .i64 0, .int .i64 0] rfl rfl (cells3 _ _ _ _ _) (one3 _ _ _) (by unfold maxLen; omega) (by omega) (by simp; omega) ?_; intro v1 x1 hown0 hgrow0 hnil; clear hnil y1 y2 y3 y4 y5; obtain ⟨g1, p1, rfl⟩ := owns_slice (n := 1) hown0 (by decide); have MM0 := ownMs_grown (ownMs_alloc M0.out _) hgrow0 (fun q => by have := OB0.out _ q; omega); have MH0 := Lib.hid MM0; have HO0 := Lib.hid hown0; have HG0 := Lib.hid hgrow0; clear hown0 hgrow0; obtain ⟨y1, y2, y3, y4, y5⟩ := MM0)
  clear y1 y2 y3 y4 y5
  have M1 := Lib.hid (ownMs_put0 MH0.out (.slice (some ⟨g1, 0, none⟩) 1 p1))
  have Z1 := Lib.hid (ownMs_set (o := 0) (u := (.slice (some ⟨g1, 0, none⟩) 1 p1)) (ownMs_grown (ownMs_alloc Z0.out _) HG0.out (fun q => by have := OB0.out _ q; omega)) (show w.heap.size + 1 ≠ w.heap.size by omega))
  have O1 := Lib.hid (ownsRow_setCell_below (show World.ownsRow _ _ _ _ (.slice (some ⟨g1, 0, none⟩) 1 p1) 1 _ from HO0.out) (a := ⟨w.heap.size + 1, 0, none⟩) (Nat.lt_succ_self _) (.slice (some ⟨g1, 0, none⟩) 1 p1))
  have B1 := Lib.hid (below_put1 (o := 0) (x := (.slice (some ⟨g1, 0, none⟩) 1 p1)) ((balloc B0.out _).grown HG0.out (by have := MH0.out.2.2.2.2; have := M0.out.2.2.2.2; simp; omega) (fun i hi => by have := OB0.out i hi; omega)) (show w.heap.size ≤ w.heap.size + 1 by omega))
  obtain ⟨u1, hu1⟩ : ∃ u, u = x1.setCell ⟨w.heap.size + 1, 0, none⟩ (.slice (some ⟨g1, 0, none⟩) 1 p1) := ⟨_, rfl⟩
  rw [← hu1] at M1 Z1 O1 B1 ⊢
  clear hu1 MH0 HO0 HG0 M0 Z0 O0 B0 OB0
  rw [rounds_succ]
  obtain ⟨y1, y2, y3, y4, y5⟩ := M1.out
  have OB1 := Lib.hid (ownsRow_block O1.out)
  go_wp2_with (at_builtin; refine wpList_append_own _ rfl _ _ 22 rfl (w.heap.size + 1 + 1) 33 i0 _ 3 24 Try.underlying22 hi hz0 hz1 hz2 rfl (by decide) _ _ _ rfl (O1.out.alloc _) ⟨u1.heap.size, 0, none⟩ 1 1 [.int .i64 a, .int .i64 0, .int .i64 0] rfl rfl (cells3 _ _ _ _ _) (one3 _ _ _) (by unfold maxLen; omega) (by omega) (by simp; omega) ?_; intro v2 x2 hown1 hgrow1 hnil; clear hnil y1 y2 y3 y4 y5; obtain ⟨g2, p2, rfl⟩ := owns_slice (n := 2) hown1 (by decide); have MM1 := ownMs_grown (ownMs_alloc M1.out _) hgrow1 (fun q => by have := OB1.out _ q; omega); have MH1 := Lib.hid MM1; have HO1 := Lib.hid hown1; have HG1 := Lib.hid hgrow1; clear hown1 hgrow1; obtain ⟨y1, y2, y3, y4, y5⟩ := MM1)
  clear y1 y2 y3 y4 y5
  have M2 := Lib.hid (ownMs_put0 MH1.out (.slice (some ⟨g2, 0, none⟩) 2 p2))
  have Z2 := Lib.hid (ownMs_set (o := 0) (u := (.slice (some ⟨g2, 0, none⟩) 2 p2)) (ownMs_grown (ownMs_alloc Z1.out _) HG1.out (fun q => by have := OB1.out _ q; omega)) (show w.heap.size + 1 ≠ w.heap.size by omega))
  have O2 := Lib.hid (ownsRow_setCell_below (show World.ownsRow _ _ _ _ (.slice (some ⟨g2, 0, none⟩) 2 p2) 2 _ from HO1.out) (a := ⟨w.heap.size + 1, 0, none⟩) (Nat.lt_succ_self _) (.slice (some ⟨g2, 0, none⟩) 2 p2))
  have B2 := Lib.hid (below_put1 (o := 0) (x := (.slice (some ⟨g2, 0, none⟩) 2 p2)) ((balloc B1.out _).grown HG1.out (by have := MH1.out.2.2.2.2; have := M1.out.2.2.2.2; simp; omega) (fun i hi => by have := OB1.out i hi; omega)) (show w.heap.size ≤ w.heap.size + 1 by omega))
  obtain ⟨u2, hu2⟩ : ∃ u, u = x2.setCell ⟨w.heap.size + 1, 0, none⟩ (.slice (some ⟨g2, 0, none⟩) 2 p2) := ⟨_, rfl⟩
  rw [← hu2] at M2 Z2 O2 B2 ⊢
  clear hu2 MH1 HO1 HG1 M1 Z1 O1 B1 OB1
  rw [rounds_succ]
  obtain ⟨y1, y2, y3, y4, y5⟩ := M2.out
  have OB2 := Lib.hid (ownsRow_block O2.out)
  go_wp2_with (at_builtin; refine wpList_append_own _ rfl _ _ 22 rfl (w.heap.size + 1 + 1) 33 i0 _ 3 24 Try.underlying22 hi hz0 hz1 hz2 rfl (by decide) _ _ _ rfl (O2.out.alloc _) ⟨u2.heap.size, 0, none⟩ 1 1 [.int .i64 0, .int .i64 b, .int .i64 0] rfl rfl (cells3 _ _ _ _ _) (one3 _ _ _) (by unfold maxLen; omega) (by omega) (by simp; omega) ?_; intro v3 x3 hown2 hgrow2 hnil; clear hnil y1 y2 y3 y4 y5; obtain ⟨g3, p3, rfl⟩ := owns_slice (n := 3) hown2 (by decide); have MM2 := ownMs_grown (ownMs_alloc M2.out _) hgrow2 (fun q => by have := OB2.out _ q; omega); have MH2 := Lib.hid MM2; have HO2 := Lib.hid hown2; have HG2 := Lib.hid hgrow2; clear hown2 hgrow2; obtain ⟨y1, y2, y3, y4, y5⟩ := MM2)
  clear y1 y2 y3 y4 y5
  have M3 := Lib.hid (ownMs_put0 MH2.out (.slice (some ⟨g3, 0, none⟩) 3 p3))
  have Z3 := Lib.hid (ownMs_set (o := 0) (u := (.slice (some ⟨g3, 0, none⟩) 3 p3)) (ownMs_grown (ownMs_alloc Z2.out _) HG2.out (fun q => by have := OB2.out _ q; omega)) (show w.heap.size + 1 ≠ w.heap.size by omega))
  have O3 := Lib.hid (ownsRow_setCell_below (show World.ownsRow _ _ _ _ (.slice (some ⟨g3, 0, none⟩) 3 p3) 3 _ from HO2.out) (a := ⟨w.heap.size + 1, 0, none⟩) (Nat.lt_succ_self _) (.slice (some ⟨g3, 0, none⟩) 3 p3))
  have B3 := Lib.hid (below_put1 (o := 0) (x := (.slice (some ⟨g3, 0, none⟩) 3 p3)) ((balloc B2.out _).grown HG2.out (by have := MH2.out.2.2.2.2; have := M2.out.2.2.2.2; simp; omega) (fun i hi => by have := OB2.out i hi; omega)) (show w.heap.size ≤ w.heap.size + 1 by omega))
  obtain ⟨u3, hu3⟩ : ∃ u, u = x3.setCell ⟨w.heap.size + 1, 0, none⟩ (.slice (some ⟨g3, 0, none⟩) 3 p3) := ⟨_, rfl⟩
  rw [← hu3] at M3 Z3 O3 B3 ⊢
  clear hu3 MH2 HO2 HG2 M2 Z2 O2 B2 OB2
  rw [rounds_succ]
  obtain ⟨y1, y2, y3, y4, y5⟩ := M3.out
  have OB3 := Lib.hid (ownsRow_block O3.out)
  go_wp2_with (at_builtin; refine wpList_append_own _ rfl _ _ 22 rfl (w.heap.size + 1 + 1) 33 i0 _ 3 24 Try.underlying22 hi hz0 hz1 hz2 rfl (by decide) _ _ _ rfl (O3.out.alloc _) ⟨u3.heap.size, 0, none⟩ 1 1 [.int .i64 a, .int .i64 b, .int .i64 0] rfl rfl (cells3 _ _ _ _ _) (one3 _ _ _) (by unfold maxLen; omega) (by omega) (by simp; omega) ?_; intro v4 x4 hown3 hgrow3 hnil; clear hnil y1 y2 y3 y4 y5; obtain ⟨g4, p4, rfl⟩ := owns_slice (n := 4) hown3 (by decide); have MM3 := ownMs_grown (ownMs_alloc M3.out _) hgrow3 (fun q => by have := OB3.out _ q; omega); have MH3 := Lib.hid MM3; have HO3 := Lib.hid hown3; have HG3 := Lib.hid hgrow3; clear hown3 hgrow3; obtain ⟨y1, y2, y3, y4, y5⟩ := MM3)
  clear y1 y2 y3 y4 y5
  have M4 := Lib.hid (ownMs_put0 MH3.out (.slice (some ⟨g4, 0, none⟩) 4 p4))
  have Z4 := Lib.hid (ownMs_set (o := 0) (u := (.slice (some ⟨g4, 0, none⟩) 4 p4)) (ownMs_grown (ownMs_alloc Z3.out _) HG3.out (fun q => by have := OB3.out _ q; omega)) (show w.heap.size + 1 ≠ w.heap.size by omega))
  have O4 := Lib.hid (ownsRow_setCell_below (show World.ownsRow _ _ _ _ (.slice (some ⟨g4, 0, none⟩) 4 p4) 4 _ from HO3.out) (a := ⟨w.heap.size + 1, 0, none⟩) (Nat.lt_succ_self _) (.slice (some ⟨g4, 0, none⟩) 4 p4))
  have B4 := Lib.hid (below_put1 (o := 0) (x := (.slice (some ⟨g4, 0, none⟩) 4 p4)) ((balloc B3.out _).grown HG3.out (by have := MH3.out.2.2.2.2; have := M3.out.2.2.2.2; simp; omega) (fun i hi => by have := OB3.out i hi; omega)) (show w.heap.size ≤ w.heap.size + 1 by omega))
  obtain ⟨u4, hu4⟩ : ∃ u, u = x4.setCell ⟨w.heap.size + 1, 0, none⟩ (.slice (some ⟨g4, 0, none⟩) 4 p4) := ⟨_, rfl⟩
  rw [← hu4] at M4 Z4 O4 B4 ⊢
  clear hu4 MH3 HO3 HG3 M3 Z3 O3 B3 OB3
  rw [rounds_succ]
  obtain ⟨y1, y2, y3, y4, y5⟩ := M4.out
  have OB4 := Lib.hid (ownsRow_block O4.out)
  go_wp2_with (at_builtin; refine wpList_append_own _ rfl _ _ 22 rfl (w.heap.size + 1 + 1) 33 i0 _ 3 24 Try.underlying22 hi hz0 hz1 hz2 rfl (by decide) _ _ _ rfl (O4.out.alloc _) ⟨u4.heap.size, 0, none⟩ 1 1 [.int .i64 0, .int .i64 0, .int .i64 c] rfl rfl (cells3 _ _ _ _ _) (one3 _ _ _) (by unfold maxLen; omega) (by omega) (by simp; omega) ?_; intro v5 x5 hown4 hgrow4 hnil; clear hnil y1 y2 y3 y4 y5; obtain ⟨g5, p5, rfl⟩ := owns_slice (n := 5) hown4 (by decide); have MM4 := ownMs_grown (ownMs_alloc M4.out _) hgrow4 (fun q => by have := OB4.out _ q; omega); have MH4 := Lib.hid MM4; have HO4 := Lib.hid hown4; have HG4 := Lib.hid hgrow4; clear hown4 hgrow4; obtain ⟨y1, y2, y3, y4, y5⟩ := MM4)
  clear y1 y2 y3 y4 y5
  have M5 := Lib.hid (ownMs_put0 MH4.out (.slice (some ⟨g5, 0, none⟩) 5 p5))
  have Z5 := Lib.hid (ownMs_set (o := 0) (u := (.slice (some ⟨g5, 0, none⟩) 5 p5)) (ownMs_grown (ownMs_alloc Z4.out _) HG4.out (fun q => by have := OB4.out _ q; omega)) (show w.heap.size + 1 ≠ w.heap.size by omega))
  have O5 := Lib.hid (ownsRow_setCell_below (show World.ownsRow _ _ _ _ (.slice (some ⟨g5, 0, none⟩) 5 p5) 5 _ from HO4.out) (a := ⟨w.heap.size + 1, 0, none⟩) (Nat.lt_succ_self _) (.slice (some ⟨g5, 0, none⟩) 5 p5))
  have B5 := Lib.hid (below_put1 (o := 0) (x := (.slice (some ⟨g5, 0, none⟩) 5 p5)) ((balloc B4.out _).grown HG4.out (by have := MH4.out.2.2.2.2; have := M4.out.2.2.2.2; simp; omega) (fun i hi => by have := OB4.out i hi; omega)) (show w.heap.size ≤ w.heap.size + 1 by omega))
  obtain ⟨u5, hu5⟩ : ∃ u, u = x5.setCell ⟨w.heap.size + 1, 0, none⟩ (.slice (some ⟨g5, 0, none⟩) 5 p5) := ⟨_, rfl⟩
  rw [← hu5] at M5 Z5 O5 B5 ⊢
  clear hu5 MH4 HO4 HG4 M4 Z4 O4 B4 OB4
  rw [rounds_succ]
  obtain ⟨y1, y2, y3, y4, y5⟩ := M5.out
  have OB5 := Lib.hid (ownsRow_block O5.out)
  go_wp2_with (at_builtin; refine wpList_append_own _ rfl _ _ 22 rfl (w.heap.size + 1 + 1) 33 i0 _ 3 24 Try.underlying22 hi hz0 hz1 hz2 rfl (by decide) _ _ _ rfl (O5.out.alloc _) ⟨u5.heap.size, 0, none⟩ 1 1 [.int .i64 a, .int .i64 0, .int .i64 c] rfl rfl (cells3 _ _ _ _ _) (one3 _ _ _) (by unfold maxLen; omega) (by omega) (by simp; omega) ?_; intro v6 x6 hown5 hgrow5 hnil; clear hnil y1 y2 y3 y4 y5; obtain ⟨g6, p6, rfl⟩ := owns_slice (n := 6) hown5 (by decide); have MM5 := ownMs_grown (ownMs_alloc M5.out _) hgrow5 (fun q => by have := OB5.out _ q; omega); have MH5 := Lib.hid MM5; have HO5 := Lib.hid hown5; have HG5 := Lib.hid hgrow5; clear hown5 hgrow5; obtain ⟨y1, y2, y3, y4, y5⟩ := MM5)
  clear y1 y2 y3 y4 y5
  have M6 := Lib.hid (ownMs_put0 MH5.out (.slice (some ⟨g6, 0, none⟩) 6 p6))
  have Z6 := Lib.hid (ownMs_set (o := 0) (u := (.slice (some ⟨g6, 0, none⟩) 6 p6)) (ownMs_grown (ownMs_alloc Z5.out _) HG5.out (fun q => by have := OB5.out _ q; omega)) (show w.heap.size + 1 ≠ w.heap.size by omega))
  have O6 := Lib.hid (ownsRow_setCell_below (show World.ownsRow _ _ _ _ (.slice (some ⟨g6, 0, none⟩) 6 p6) 6 _ from HO5.out) (a := ⟨w.heap.size + 1, 0, none⟩) (Nat.lt_succ_self _) (.slice (some ⟨g6, 0, none⟩) 6 p6))
  have B6 := Lib.hid (below_put1 (o := 0) (x := (.slice (some ⟨g6, 0, none⟩) 6 p6)) ((balloc B5.out _).grown HG5.out (by have := MH5.out.2.2.2.2; have := M5.out.2.2.2.2; simp; omega) (fun i hi => by have := OB5.out i hi; omega)) (show w.heap.size ≤ w.heap.size + 1 by omega))
  obtain ⟨u6, hu6⟩ : ∃ u, u = x6.setCell ⟨w.heap.size + 1, 0, none⟩ (.slice (some ⟨g6, 0, none⟩) 6 p6) := ⟨_, rfl⟩
  rw [← hu6] at M6 Z6 O6 B6 ⊢
  clear hu6 MH5 HO5 HG5 M5 Z5 O5 B5 OB5
  rw [rounds_succ]
  obtain ⟨y1, y2, y3, y4, y5⟩ := M6.out
  have OB6 := Lib.hid (ownsRow_block O6.out)
  go_wp2_with (at_builtin; refine wpList_append_own _ rfl _ _ 22 rfl (w.heap.size + 1 + 1) 33 i0 _ 3 24 Try.underlying22 hi hz0 hz1 hz2 rfl (by decide) _ _ _ rfl (O6.out.alloc _) ⟨u6.heap.size, 0, none⟩ 1 1 [.int .i64 0, .int .i64 b, .int .i64 c] rfl rfl (cells3 _ _ _ _ _) (one3 _ _ _) (by unfold maxLen; omega) (by omega) (by simp; omega) ?_; intro v7 x7 hown6 hgrow6 hnil; clear hnil y1 y2 y3 y4 y5; obtain ⟨g7, p7, rfl⟩ := owns_slice (n := 7) hown6 (by decide); have MM6 := ownMs_grown (ownMs_alloc M6.out _) hgrow6 (fun q => by have := OB6.out _ q; omega); have MH6 := Lib.hid MM6; have HO6 := Lib.hid hown6; have HG6 := Lib.hid hgrow6; clear hown6 hgrow6; obtain ⟨y1, y2, y3, y4, y5⟩ := MM6)
  clear y1 y2 y3 y4 y5
  have M7 := Lib.hid (ownMs_put0 MH6.out (.slice (some ⟨g7, 0, none⟩) 7 p7))
  have Z7 := Lib.hid (ownMs_set (o := 0) (u := (.slice (some ⟨g7, 0, none⟩) 7 p7)) (ownMs_grown (ownMs_alloc Z6.out _) HG6.out (fun q => by have := OB6.out _ q; omega)) (show w.heap.size + 1 ≠ w.heap.size by omega))
  have O7 := Lib.hid (ownsRow_setCell_below (show World.ownsRow _ _ _ _ (.slice (some ⟨g7, 0, none⟩) 7 p7) 7 _ from HO6.out) (a := ⟨w.heap.size + 1, 0, none⟩) (Nat.lt_succ_self _) (.slice (some ⟨g7, 0, none⟩) 7 p7))
  have B7 := Lib.hid (below_put1 (o := 0) (x := (.slice (some ⟨g7, 0, none⟩) 7 p7)) ((balloc B6.out _).grown HG6.out (by have := MH6.out.2.2.2.2; have := M6.out.2.2.2.2; simp; omega) (fun i hi => by have := OB6.out i hi; omega)) (show w.heap.size ≤ w.heap.size + 1 by omega))
  obtain ⟨u7, hu7⟩ : ∃ u, u = x7.setCell ⟨w.heap.size + 1, 0, none⟩ (.slice (some ⟨g7, 0, none⟩) 7 p7) := ⟨_, rfl⟩
  rw [← hu7] at M7 Z7 O7 B7 ⊢
  clear hu7 MH6 HO6 HG6 M6 Z6 O6 B6 OB6
  rw [rounds_succ]
  obtain ⟨y1, y2, y3, y4, y5⟩ := M7.out
  have OB7 := Lib.hid (ownsRow_block O7.out)
  go_wp2_with (at_builtin; refine wpList_append_own _ rfl _ _ 22 rfl (w.heap.size + 1 + 1) 33 i0 _ 3 24 Try.underlying22 hi hz0 hz1 hz2 rfl (by decide) _ _ _ rfl (O7.out.alloc _) ⟨u7.heap.size, 0, none⟩ 1 1 [.int .i64 a, .int .i64 b, .int .i64 c] rfl rfl (cells3 _ _ _ _ _) (one3 _ _ _) (by unfold maxLen; omega) (by omega) (by simp; omega) ?_; intro v8 x8 hown7 hgrow7 hnil; clear hnil y1 y2 y3 y4 y5; obtain ⟨g8, p8, rfl⟩ := owns_slice (n := 8) hown7 (by decide); have MM7 := ownMs_grown (ownMs_alloc M7.out _) hgrow7 (fun q => by have := OB7.out _ q; omega); have MH7 := Lib.hid MM7; have HO7 := Lib.hid hown7; have HG7 := Lib.hid hgrow7; clear hown7 hgrow7; obtain ⟨y1, y2, y3, y4, y5⟩ := MM7)
  clear y1 y2 y3 y4 y5
  have M8 := Lib.hid (ownMs_put0 MH7.out (.slice (some ⟨g8, 0, none⟩) 8 p8))
  have Z8 := Lib.hid (ownMs_set (o := 0) (u := (.slice (some ⟨g8, 0, none⟩) 8 p8)) (ownMs_grown (ownMs_alloc Z7.out _) HG7.out (fun q => by have := OB7.out _ q; omega)) (show w.heap.size + 1 ≠ w.heap.size by omega))
  have O8 := Lib.hid (ownsRow_setCell_below (show World.ownsRow _ _ _ _ (.slice (some ⟨g8, 0, none⟩) 8 p8) 8 _ from HO7.out) (a := ⟨w.heap.size + 1, 0, none⟩) (Nat.lt_succ_self _) (.slice (some ⟨g8, 0, none⟩) 8 p8))
  have B8 := Lib.hid (below_put1 (o := 0) (x := (.slice (some ⟨g8, 0, none⟩) 8 p8)) ((balloc B7.out _).grown HG7.out (by have := MH7.out.2.2.2.2; have := M7.out.2.2.2.2; simp; omega) (fun i hi => by have := OB7.out i hi; omega)) (show w.heap.size ≤ w.heap.size + 1 by omega))
  obtain ⟨u8, hu8⟩ : ∃ u, u = x8.setCell ⟨w.heap.size + 1, 0, none⟩ (.slice (some ⟨g8, 0, none⟩) 8 p8) := ⟨_, rfl⟩
  rw [← hu8] at M8 Z8 O8 B8 ⊢
  clear hu8 MH7 HO7 HG7 M7 Z7 O7 B7 OB7
  obtain ⟨g, cap, hq, hg, r8⟩ := box_points O8.out
  obtain ⟨rfl, rfl⟩ : g8 = g ∧ p8 = cap := by simp only [Value.slice.injEq, Option.some.injEq, Addr.mk.injEq, and_true, true_and] at hq; exact hq
  clear hq
  have R8 := Lib.hid r8
  clear r8
  rw [rounds_succ]
  obtain ⟨y1, y2, y3, y4, y5⟩ := M8.out
  go_wp2_with fail
  have E9 : (u8.setCell ⟨w.heap.size + 1, 1, none⟩ (.slice (some ⟨u8.heap.size, 0, none⟩) 12 12)).heap.size = u8.heap.size := by simp
  have LP := Lib.hid (show Lst ((u8.setCell ⟨w.heap.size + 1, 1, none⟩ (.slice (some ⟨u8.heap.size, 0, none⟩) 12 12)).alloc (.cells #[.int .i64 0, .int .i64 2, .int .i64 3, .int .i64 0, .int .i64 3, .int .i64 1, .int .i64 4, .int .i64 5, .int .i64 7, .int .i64 4, .int .i64 7, .int .i64 6, .int .i64 0, .int .i64 1, .int .i64 5, .int .i64 0, .int .i64 5, .int .i64 4, .int .i64 2, .int .i64 6, .int .i64 7, .int .i64 2, .int .i64 7, .int .i64 3, .int .i64 0, .int .i64 4, .int .i64 6, .int .i64 0, .int .i64 6, .int .i64 2, .int .i64 1, .int .i64 3, .int .i64 7, .int .i64 1, .int .i64 7, .int .i64 5] 55)) (some ⟨g8, 0, none⟩) 8 (boxP a b c) from fun _ => ⟨_, _, rfl, row3_alloc (row3_set R8.out (by omega)) _⟩)
  have LF := Lib.hid (show Lst ((u8.setCell ⟨w.heap.size + 1, 1, none⟩ (.slice (some ⟨u8.heap.size, 0, none⟩) 12 12)).alloc (.cells #[.int .i64 0, .int .i64 2, .int .i64 3, .int .i64 0, .int .i64 3, .int .i64 1, .int .i64 4, .int .i64 5, .int .i64 7, .int .i64 4, .int .i64 7, .int .i64 6, .int .i64 0, .int .i64 1, .int .i64 5, .int .i64 0, .int .i64 5, .int .i64 4, .int .i64 2, .int .i64 6, .int .i64 7, .int .i64 2, .int .i64 7, .int .i64 3, .int .i64 0, .int .i64 4, .int .i64 6, .int .i64 0, .int .i64 6, .int .i64 2, .int .i64 1, .int .i64 3, .int .i64 7, .int .i64 1, .int .i64 7, .int .i64 5] 55)) (some ⟨u8.heap.size, 0, none⟩) 12 boxF from fun _ => ⟨_, _, rfl, by have z := box_faces (u8.setCell ⟨w.heap.size + 1, 1, none⟩ (.slice (some ⟨u8.heap.size, 0, none⟩) 12 12)) 55; rw [E9] at z; exact z⟩)
  have Z9 := Lib.hid (ownMs_alloc (ownMs_set (o := 1) (u := .slice (some ⟨u8.heap.size, 0, none⟩) 12 12) Z8.out (show w.heap.size + 1 ≠ w.heap.size by omega)) (.cells #[.int .i64 0, .int .i64 2, .int .i64 3, .int .i64 0, .int .i64 3, .int .i64 1, .int .i64 4, .int .i64 5, .int .i64 7, .int .i64 4, .int .i64 7, .int .i64 6, .int .i64 0, .int .i64 1, .int .i64 5, .int .i64 0, .int .i64 5, .int .i64 4, .int .i64 2, .int .i64 6, .int .i64 7, .int .i64 2, .int .i64 7, .int .i64 3, .int .i64 0, .int .i64 4, .int .i64 6, .int .i64 0, .int .i64 6, .int .i64 2, .int .i64 1, .int .i64 3, .int .i64 7, .int .i64 1, .int .i64 7, .int .i64 5] 55))
  have B9 := Lib.hid (balloc (below_put1 (o := 1) (x := .slice (some ⟨u8.heap.size, 0, none⟩) 12 12) B8.out (show w.heap.size ≤ w.heap.size + 1 by omega)) (.cells #[.int .i64 0, .int .i64 2, .int .i64 3, .int .i64 0, .int .i64 3, .int .i64 1, .int .i64 4, .int .i64 5, .int .i64 7, .int .i64 4, .int .i64 7, .int .i64 6, .int .i64 0, .int .i64 1, .int .i64 5, .int .i64 0, .int .i64 5, .int .i64 4, .int .i64 2, .int .i64 6, .int .i64 7, .int .i64 2, .int .i64 7, .int .i64 3, .int .i64 0, .int .i64 4, .int .i64 6, .int .i64 0, .int .i64 6, .int .i64 2, .int .i64 1, .int .i64 3, .int .i64 7, .int .i64 1, .int .i64 7, .int .i64 5] 55))
  have N8 := Lib.hid (show w.heap.size + 1 < u8.heap.size from M8.out.2.2.2.2)
  have NG := Lib.hid hg
  clear y1 y2 y3 y4 y5 M8 Z8 O8 B8 E9 R8 hg
  by_cases h : vcode ⟨8, 12, boxP a b c, boxF⟩ = 0
  · have Z := Lib.hid h
    clear h
    refine (rtold_yes _ 8 _ _ 12 12 (boxP a b c) boxF _ (by exact LP.out) (by exact LF.out) (by decide) (by decide) Z.out).mono ?_
    rintro e w1 ⟨rfl, hb⟩
    have M9 := ownMs_below Z9.out hb
    have BB := Lib.hid (bstep B9.out hb)
    have LA := Lib.hid (lst_below LP.out hb)
    have LB := Lib.hid (lst_below LF.out hb)
    obtain ⟨m1, m2, m3, m4, m5⟩ := M9
    clear hb
    go_wp2
    refine bodyPost_ret (v := .tuple #[msv (some ⟨g8, 0, none⟩) 8 p8 (some ⟨u8.heap.size, 0, none⟩) 12 12, .int .i64 0]) (by rw [results_cell_tmp rfl]; go_simp) rfl ⟨fun _ => ⟨_, _, _, _, rfl, lst_put2 LA.out (fun b e => by have := congrArg Addr.block (Option.some.inj e); have := NG.out; simp at *; omega), lst_put2 LB.out (fun b e => by have := congrArg Addr.block (Option.some.inj e); have := N8.out; simp at *; omega), ?_⟩, fun k => absurd Z.out k⟩
    exact below_put2 BB.out (Nat.le_refl _)
  · have Z := Lib.hid h
    clear h
    refine (rtold_not _ 8 _ _ 12 12 (boxP a b c) boxF _ (by exact LP.out) (by exact LF.out) (by decide) (by decide) Z.out).mono ?_
    rintro e w1 ⟨rfl, hb⟩
    have M9 := ownMs_below Z9.out hb
    have BB := Lib.hid (bstep B9.out hb)
    obtain ⟨m1, m2, m3, m4, m5⟩ := M9
    clear hb
    go_wp2
    refine bodyPost_ret (v := .tuple #[msv none 0 0 none 0 0, .int .i64 (vcode ⟨8, 12, boxP a b c, boxF⟩)]) (by rw [results_cell_tmp rfl]; go_simp) rfl ⟨fun k => absurd k Z.out, fun _ => ⟨rfl, ?_⟩⟩
    exact below_put2 BB.out (Nat.le_refl _)

end Go.Proofs.Ytcphdlcglaopjaa
