/-
  The contract of Block.
-/
import Derived.Test.YtllonfaogbdbnaaBlock0
namespace Go.Proofs.Ytllonfaogbdbnaa
open Go.ChangeShapes Go.WideShapes Go.RowKit
open Sh
theorem checked_any (a : Option Addr) (np c : Nat) (a' : Option Addr) (nf c' : Nat) (P F : Nat → P3) (w : World) (rp : Lst w a np P) (rf : Lst w a' nf F) (hn : np ≤ 1000000) (hm : nf ≤ 1000000) :
    Calls Try.prog 67 #[msv a np c a' nf c'] w (Meshed np nf P F w) := by
  have V := fun W (B : Below w.heap.size w W) => val_any a np c a' nf c' P F W (lst_below rp B) (lst_below rf B) hn hm
  by_cases z : vcode ⟨np, nf, P, F⟩ = 0
  · rw [z] at V
    exact (checked_ok a np c a' nf c' w (Lib.hid V)).mono fun e w' ⟨h1, h2⟩ => ⟨fun _ => ⟨a, c, a', c', h1, lst_below rp h2, lst_below rf h2, h2⟩, fun k => absurd z k⟩
  · exact (checked_no a np c a' nf c' _ w (Lib.hid V) z).mono fun e w' ⟨h1, h2⟩ => ⟨fun k => absurd k z, fun _ => ⟨h1, h2⟩⟩
theorem checked_yes (a : Option Addr) (np c : Nat) (a' : Option Addr) (nf c' : Nat) (P F : Nat → P3) (w : World) (rp : Lst w a np P) (rf : Lst w a' nf F) (hn : np ≤ 1000000) (hm : nf ≤ 1000000) (z : vcode ⟨np, nf, P, F⟩ = 0) :
    Calls Try.prog 67 #[msv a np c a' nf c'] w fun e w' => e = .returned (.tuple #[msv a np c a' nf c', .int .i64 0]) ∧ Below w.heap.size w w' := by
  have V := fun W (B : Below w.heap.size w W) => val_any a np c a' nf c' P F W (lst_below rp B) (lst_below rf B) hn hm
  rw [z] at V
  exact checked_ok a np c a' nf c' w (Lib.hid V)
theorem checked_not (a : Option Addr) (np c : Nat) (a' : Option Addr) (nf c' : Nat) (P F : Nat → P3) (w : World) (rp : Lst w a np P) (rf : Lst w a' nf F) (hn : np ≤ 1000000) (hm : nf ≤ 1000000) (z : vcode ⟨np, nf, P, F⟩ ≠ 0) :
    Calls Try.prog 67 #[msv a np c a' nf c'] w fun e w' => e = .returned (.tuple #[msv none 0 0 none 0 0, .int .i64 (vcode ⟨np, nf, P, F⟩)]) ∧ Below w.heap.size w w' := by
  have V := fun W (B : Below w.heap.size w W) => val_any a np c a' nf c' P F W (lst_below rp B) (lst_below rf B) hn hm
  exact checked_no a np c a' nf c' _ w (Lib.hid V) z
theorem row3_set {w : World} {b off n q o : Nat} {f : Nat → P3} {v : Value} (r : Row3 w b off n f) (h : q ≠ b) : Row3 (w.setCell ⟨q, o, none⟩ v) b off n f := by
  refine ⟨by simpa using r.1, fun k hk => ?_⟩
  obtain ⟨h1, h2, h3⟩ := r.2 k hk
  have n1 : ¬ q = b := h
  have n2 : ¬ b = q := fun e => h e.symm
  exact ⟨by go_simp, by go_simp, by go_simp⟩
/-- the call's own mesh, still empty -/
def OwnM (w : World) (q : Nat) : Prop := w.cell? ⟨q, 0, none⟩ = some (.slice none 0 0) ∧ w.cell? ⟨q, 1, none⟩ = some (.slice none 0 0) ∧ w.frozen? ⟨q, 0, none⟩ = false ∧ w.frozen? ⟨q, 1, none⟩ = false ∧ q < w.heap.size
theorem ownM_new (w : World) (t : TypeId) : OwnM (w.alloc (.cells #[.slice none 0 0, .slice none 0 0] t)) w.heap.size := ⟨by go_simp, by go_simp, by go_simp, by go_simp, by simp⟩
theorem ownM_block {w w1 : World} {q : Nat} (h : OwnM w q) (e : w1.heap[q]? = w.heap[q]?) (k : w.heap.size ≤ w1.heap.size) : OwnM w1 q :=
  ⟨(World.cell?_of_block (w := w) (a := ⟨q, 0, none⟩) e).trans h.1, (World.cell?_of_block (w := w) (a := ⟨q, 1, none⟩) e).trans h.2.1, (World.frozen?_of_block (w := w) (a := ⟨q, 0, none⟩) e).trans h.2.2.1, (World.frozen?_of_block (w := w) (a := ⟨q, 1, none⟩) e).trans h.2.2.2.1, Nat.lt_of_lt_of_le h.2.2.2.2 k⟩
theorem ownM_below {w w1 : World} {q : Nat} (h : OwnM w q) (hb : Below w.heap.size w w1) : OwnM w1 q := ownM_block h (hb.block q h.2.2.2.2) hb.size
theorem ownM_alloc {w : World} {q : Nat} (h : OwnM w q) (o : Obj) : OwnM (w.alloc o) q := ownM_below h ((Below.refl _ _).alloc (Nat.le_refl _) _)
theorem ownM_grown {w w1 : World} {row : Option Nat} {q : Nat} (h : OwnM w q) (hg : w.grownBy w1 row) (hr : row ≠ some q) : OwnM w1 q := ownM_block h (hg.block q h.2.2.2.2 (fun e => hr e.symm)) hg.size
theorem infoPt : (Try.prog.info? 27).map (fun i => (i.zero, i.size, i.bytes)) = some (some (.agg #[.int .i64 0, .int .i64 0, .int .i64 0]), 3, 24) := by kernel_rfl
theorem cells3 (w : World) (c0 c1 c2 : Int) (t : TypeId) : ∀ j u, [Value.int .i64 c0, .int .i64 c1, .int .i64 c2][j]? = some u → (w.alloc (.cells #[.int .i64 c0, .int .i64 c1, .int .i64 c2] t)).cell? ((⟨w.heap.size, 0, none⟩ : Addr).add j) = some u := by
  intro j u h
  match j, h with
  | 0, h | 1, h | 2, h => (simp at h; subst h; simp only [Addr.add]; go_simp)
  | j + 3, h => simp at h
theorem one3 (c0 c1 c2 : Int) : ∀ u ∈ [Value.int .i64 c0, .int .i64 c1, .int .i64 c2], u.oneCell' = true := by
  intro u h
  simp only [List.mem_cons, List.not_mem_nil, or_false] at h
  rcases h with h | h | h <;> (subst h; rfl)
/-- the points and the faces of a box -/
def boxP (a b c : Int) (k : Nat) : P3 := [(0, 0, 0), (a, 0, 0), (0, b, 0), (a, b, 0), (0, 0, c), (a, 0, c), (0, b, c), (a, b, c)].getD k (0, 0, 0)
def boxF (k : Nat) : P3 := [(0, 2, 3), (0, 3, 1), (4, 5, 7), (4, 7, 6), (0, 1, 5), (0, 5, 4), (2, 6, 7), (2, 7, 3), (0, 4, 6), (0, 6, 2), (1, 3, 7), (1, 7, 5)].getD k (0, 0, 0)
theorem box_faces (w : World) (t : TypeId) : Row3 (w.alloc (.cells #[.int .i64 0, .int .i64 2, .int .i64 3, .int .i64 0, .int .i64 3, .int .i64 1, .int .i64 4, .int .i64 5, .int .i64 7, .int .i64 4, .int .i64 7, .int .i64 6, .int .i64 0, .int .i64 1, .int .i64 5, .int .i64 0, .int .i64 5, .int .i64 4, .int .i64 2, .int .i64 6, .int .i64 7, .int .i64 2, .int .i64 7, .int .i64 3, .int .i64 0, .int .i64 4, .int .i64 6, .int .i64 0, .int .i64 6, .int .i64 2, .int .i64 1, .int .i64 3, .int .i64 7, .int .i64 1, .int .i64 7, .int .i64 5] t)) w.heap.size 0 12 boxF :=
  ⟨by simp, fun k hk => by
    match k, hk with
    | 0, _ => exact ⟨by go_simp; rfl, by go_simp; rfl, by go_simp; rfl⟩
    | 1, _ => exact ⟨by go_simp; rfl, by go_simp; rfl, by go_simp; rfl⟩
    | 2, _ => exact ⟨by go_simp; rfl, by go_simp; rfl, by go_simp; rfl⟩
    | 3, _ => exact ⟨by go_simp; rfl, by go_simp; rfl, by go_simp; rfl⟩
    | 4, _ => exact ⟨by go_simp; rfl, by go_simp; rfl, by go_simp; rfl⟩
    | 5, _ => exact ⟨by go_simp; rfl, by go_simp; rfl, by go_simp; rfl⟩
    | 6, _ => exact ⟨by go_simp; rfl, by go_simp; rfl, by go_simp; rfl⟩
    | 7, _ => exact ⟨by go_simp; rfl, by go_simp; rfl, by go_simp; rfl⟩
    | 8, _ => exact ⟨by go_simp; rfl, by go_simp; rfl, by go_simp; rfl⟩
    | 9, _ => exact ⟨by go_simp; rfl, by go_simp; rfl, by go_simp; rfl⟩
    | 10, _ => exact ⟨by go_simp; rfl, by go_simp; rfl, by go_simp; rfl⟩
    | 11, _ => exact ⟨by go_simp; rfl, by go_simp; rfl, by go_simp; rfl⟩⟩
theorem box_points {w : World} {base : Nat} {v : Value} {a b c : Int} (h : w.ownsRow base 27 3 v 8 ((((((((([] : List Value) ++ [.int .i64 0, .int .i64 0, .int .i64 0]) ++ [.int .i64 a, .int .i64 0, .int .i64 0]) ++ [.int .i64 0, .int .i64 b, .int .i64 0]) ++ [.int .i64 a, .int .i64 b, .int .i64 0]) ++ [.int .i64 0, .int .i64 0, .int .i64 c]) ++ [.int .i64 a, .int .i64 0, .int .i64 c]) ++ [.int .i64 0, .int .i64 b, .int .i64 c]) ++ [.int .i64 a, .int .i64 b, .int .i64 c])) : ∃ g cap, v = .slice (some ⟨g, 0, none⟩) 8 cap ∧ base ≤ g ∧ Row3 w g 0 8 (boxP a b c) := by
  rcases h.2 with ⟨_, h'⟩ | ⟨g, cap, cur, rfl, hb, hg, _⟩
  · omega
  · refine ⟨g, cap, rfl, hb, (Array.getElem?_eq_some_iff.1 hg).1, fun k hk => ?_⟩
    have q (j : Nat) (hj : j < 8 * 3) := h.cellAt j hj
    match k, hk with
    | 0, _ => exact ⟨q 0 (by decide), q 1 (by decide), q 2 (by decide)⟩
    | 1, _ => exact ⟨q 3 (by decide), q 4 (by decide), q 5 (by decide)⟩
    | 2, _ => exact ⟨q 6 (by decide), q 7 (by decide), q 8 (by decide)⟩
    | 3, _ => exact ⟨q 9 (by decide), q 10 (by decide), q 11 (by decide)⟩
    | 4, _ => exact ⟨q 12 (by decide), q 13 (by decide), q 14 (by decide)⟩
    | 5, _ => exact ⟨q 15 (by decide), q 16 (by decide), q 17 (by decide)⟩
    | 6, _ => exact ⟨q 18 (by decide), q 19 (by decide), q 20 (by decide)⟩
    | 7, _ => exact ⟨q 21 (by decide), q 22 (by decide), q 23 (by decide)⟩
set_option maxRecDepth 100000 in
set_option maxHeartbeats 4000000 in
theorem block_row (a b c : Int) (w : World) (ha : szB a = true) (hb : szB b = true) (hc : szB c = true) :
    Calls Try.prog 29 #[.int .i64 a, .int .i64 b, .int .i64 c] w (Meshed 8 12 (boxP a b c) boxF w) := by
  have bd : 1 ≤ a ∧ a ≤ 64 ∧ 1 ≤ b ∧ b ≤ 64 ∧ 1 ≤ c ∧ c ≤ 64 := by unfold szB at ha hb hc; simp only [decide_eq_true_eq] at ha hb hc; omega
  obtain ⟨a1, a2, b1, b2, c1, c2⟩ := bd
  have SA := Lib.hid (fun W => (ha ▸ size_any a W : Calls Try.prog 66 #[.int .i64 a] W fun e w' => e = .returned (.bool true) ∧ W = w'))
  have SB := Lib.hid (fun W => (hb ▸ size_any b W : Calls Try.prog 66 #[.int .i64 b] W fun e w' => e = .returned (.bool true) ∧ W = w'))
  have SC := Lib.hid (fun W => (hc ▸ size_any c W : Calls Try.prog 66 #[.int .i64 c] W fun e w' => e = .returned (.bool true) ∧ W = w'))
  obtain ⟨i0, hi, hz0, hz1, hz2⟩ := info_parts infoPt
  clear ha hb hc
  have q0 : bits BinOp.and IntKind.i64 0 1 = 0 := by decide
  have q1 : bits BinOp.and IntKind.i64 1 1 = 1 := by decide
  have q2 : bits BinOp.and IntKind.i64 2 1 = 0 := by decide
  have q3 : bits BinOp.and IntKind.i64 3 1 = 1 := by decide
  have q4 : bits BinOp.and IntKind.i64 4 1 = 0 := by decide
  have q5 : bits BinOp.and IntKind.i64 5 1 = 1 := by decide
  have q6 : bits BinOp.and IntKind.i64 6 1 = 0 := by decide
  have q7 : bits BinOp.and IntKind.i64 7 1 = 1 := by decide
  go_enter Try.func29, Try.ntmps29
  go_wp2_with fail
  refine (SA.out _).mono ?_
  rintro e w' ⟨rfl, rfl⟩
  go_wp2_with fail
  refine (SB.out _).mono ?_
  rintro e w' ⟨rfl, rfl⟩
  go_wp2_with fail
  refine (SC.out _).mono ?_
  rintro e w' ⟨rfl, rfl⟩
  go_wp2
  have M0 := Lib.hid (ownM_new w 25)
  have O0 := Lib.hid (World.ownsRow_nil (w.alloc (.cells #[.slice none 0 0, .slice none 0 0] 25)) (w.heap.size + 1) 27 3)
  have B0 := Lib.hid ((Below.refl w.heap.size w).alloc (Nat.le_refl _) (.cells #[.slice none 0 0, .slice none 0 0] 25))
  obtain ⟨u0, hu0⟩ : ∃ u, u = w.alloc (.cells #[.slice none 0 0, .slice none 0 0] 25) := ⟨_, rfl⟩
  rw [← hu0] at M0 O0 B0 ⊢
  clear hu0
  refine wp_loop_rounds 9 ?_
  rw [rounds_succ]
  have l0 := M0.out.2.2.2.2
  go_wp2_with (at_builtin; refine wpList_append_own _ rfl _ _ 22 rfl (w.heap.size + 1) 27 i0 _ 3 24 Try.underlying22 hi hz0 hz1 hz2 rfl (by decide) _ _ _ rfl (O0.out.alloc _) ⟨u0.heap.size, 0, none⟩ 1 1 [.int .i64 0, .int .i64 0, .int .i64 0] rfl rfl (cells3 _ _ _ _ _) (one3 _ _ _) (by unfold maxLen; omega) (by omega) (by simp; omega) ?_; intro v1 u1 hown0 hgrow0 hnil; clear hnil)
  have OB0 := ownsRow_block O0.out
  have M1 := Lib.hid (ownM_grown (ownM_alloc M0.out _) hgrow0 (fun q => by have := OB0 _ q; omega))
  have O1 := Lib.hid hown0
  have B1 := Lib.hid ((balloc B0.out _).grown hgrow0 (by simp; omega) (fun i hi => by have := OB0 i hi; omega))
  clear l0 OB0 hown0 hgrow0
  rw [rounds_succ]
  have l1 := M1.out.2.2.2.2
  go_wp2_with (at_builtin; refine wpList_append_own _ rfl _ _ 22 rfl (w.heap.size + 1) 27 i0 _ 3 24 Try.underlying22 hi hz0 hz1 hz2 rfl (by decide) _ _ _ rfl (O1.out.alloc _) ⟨u1.heap.size, 0, none⟩ 1 1 [.int .i64 a, .int .i64 0, .int .i64 0] rfl rfl (cells3 _ _ _ _ _) (one3 _ _ _) (by unfold maxLen; omega) (by omega) (by simp; omega) ?_; intro v2 u2 hown1 hgrow1 hnil; clear hnil)
  have OB1 := ownsRow_block O1.out
  have M2 := Lib.hid (ownM_grown (ownM_alloc M1.out _) hgrow1 (fun q => by have := OB1 _ q; omega))
  have O2 := Lib.hid hown1
  have B2 := Lib.hid ((balloc B1.out _).grown hgrow1 (by simp; omega) (fun i hi => by have := OB1 i hi; omega))
  clear l1 OB1 hown1 hgrow1
  rw [rounds_succ]
  have l2 := M2.out.2.2.2.2
  go_wp2_with (at_builtin; refine wpList_append_own _ rfl _ _ 22 rfl (w.heap.size + 1) 27 i0 _ 3 24 Try.underlying22 hi hz0 hz1 hz2 rfl (by decide) _ _ _ rfl (O2.out.alloc _) ⟨u2.heap.size, 0, none⟩ 1 1 [.int .i64 0, .int .i64 b, .int .i64 0] rfl rfl (cells3 _ _ _ _ _) (one3 _ _ _) (by unfold maxLen; omega) (by omega) (by simp; omega) ?_; intro v3 u3 hown2 hgrow2 hnil; clear hnil)
  have OB2 := ownsRow_block O2.out
  have M3 := Lib.hid (ownM_grown (ownM_alloc M2.out _) hgrow2 (fun q => by have := OB2 _ q; omega))
  have O3 := Lib.hid hown2
  have B3 := Lib.hid ((balloc B2.out _).grown hgrow2 (by simp; omega) (fun i hi => by have := OB2 i hi; omega))
  clear l2 OB2 hown2 hgrow2
  rw [rounds_succ]
  have l3 := M3.out.2.2.2.2
  go_wp2_with (at_builtin; refine wpList_append_own _ rfl _ _ 22 rfl (w.heap.size + 1) 27 i0 _ 3 24 Try.underlying22 hi hz0 hz1 hz2 rfl (by decide) _ _ _ rfl (O3.out.alloc _) ⟨u3.heap.size, 0, none⟩ 1 1 [.int .i64 a, .int .i64 b, .int .i64 0] rfl rfl (cells3 _ _ _ _ _) (one3 _ _ _) (by unfold maxLen; omega) (by omega) (by simp; omega) ?_; intro v4 u4 hown3 hgrow3 hnil; clear hnil)
  have OB3 := ownsRow_block O3.out
  have M4 := Lib.hid (ownM_grown (ownM_alloc M3.out _) hgrow3 (fun q => by have := OB3 _ q; omega))
  have O4 := Lib.hid hown3
  have B4 := Lib.hid ((balloc B3.out _).grown hgrow3 (by simp; omega) (fun i hi => by have := OB3 i hi; omega))
  clear l3 OB3 hown3 hgrow3
  rw [rounds_succ]
  have l4 := M4.out.2.2.2.2
  go_wp2_with (at_builtin; refine wpList_append_own _ rfl _ _ 22 rfl (w.heap.size + 1) 27 i0 _ 3 24 Try.underlying22 hi hz0 hz1 hz2 rfl (by decide) _ _ _ rfl (O4.out.alloc _) ⟨u4.heap.size, 0, none⟩ 1 1 [.int .i64 0, .int .i64 0, .int .i64 c] rfl rfl (cells3 _ _ _ _ _) (one3 _ _ _) (by unfold maxLen; omega) (by omega) (by simp; omega) ?_; intro v5 u5 hown4 hgrow4 hnil; clear hnil)
  have OB4 := ownsRow_block O4.out
  have M5 := Lib.hid (ownM_grown (ownM_alloc M4.out _) hgrow4 (fun q => by have := OB4 _ q; omega))
  have O5 := Lib.hid hown4
  have B5 := Lib.hid ((balloc B4.out _).grown hgrow4 (by simp; omega) (fun i hi => by have := OB4 i hi; omega))
  clear l4 OB4 hown4 hgrow4
  rw [rounds_succ]
  have l5 := M5.out.2.2.2.2
  go_wp2_with (at_builtin; refine wpList_append_own _ rfl _ _ 22 rfl (w.heap.size + 1) 27 i0 _ 3 24 Try.underlying22 hi hz0 hz1 hz2 rfl (by decide) _ _ _ rfl (O5.out.alloc _) ⟨u5.heap.size, 0, none⟩ 1 1 [.int .i64 a, .int .i64 0, .int .i64 c] rfl rfl (cells3 _ _ _ _ _) (one3 _ _ _) (by unfold maxLen; omega) (by omega) (by simp; omega) ?_; intro v6 u6 hown5 hgrow5 hnil; clear hnil)
  have OB5 := ownsRow_block O5.out
  have M6 := Lib.hid (ownM_grown (ownM_alloc M5.out _) hgrow5 (fun q => by have := OB5 _ q; omega))
  have O6 := Lib.hid hown5
  have B6 := Lib.hid ((balloc B5.out _).grown hgrow5 (by simp; omega) (fun i hi => by have := OB5 i hi; omega))
  clear l5 OB5 hown5 hgrow5
  rw [rounds_succ]
  have l6 := M6.out.2.2.2.2
  go_wp2_with (at_builtin; refine wpList_append_own _ rfl _ _ 22 rfl (w.heap.size + 1) 27 i0 _ 3 24 Try.underlying22 hi hz0 hz1 hz2 rfl (by decide) _ _ _ rfl (O6.out.alloc _) ⟨u6.heap.size, 0, none⟩ 1 1 [.int .i64 0, .int .i64 b, .int .i64 c] rfl rfl (cells3 _ _ _ _ _) (one3 _ _ _) (by unfold maxLen; omega) (by omega) (by simp; omega) ?_; intro v7 u7 hown6 hgrow6 hnil; clear hnil)
  have OB6 := ownsRow_block O6.out
  have M7 := Lib.hid (ownM_grown (ownM_alloc M6.out _) hgrow6 (fun q => by have := OB6 _ q; omega))
  have O7 := Lib.hid hown6
  have B7 := Lib.hid ((balloc B6.out _).grown hgrow6 (by simp; omega) (fun i hi => by have := OB6 i hi; omega))
  clear l6 OB6 hown6 hgrow6
  rw [rounds_succ]
  have l7 := M7.out.2.2.2.2
  go_wp2_with (at_builtin; refine wpList_append_own _ rfl _ _ 22 rfl (w.heap.size + 1) 27 i0 _ 3 24 Try.underlying22 hi hz0 hz1 hz2 rfl (by decide) _ _ _ rfl (O7.out.alloc _) ⟨u7.heap.size, 0, none⟩ 1 1 [.int .i64 a, .int .i64 b, .int .i64 c] rfl rfl (cells3 _ _ _ _ _) (one3 _ _ _) (by unfold maxLen; omega) (by omega) (by simp; omega) ?_; intro v8 u8 hown7 hgrow7 hnil; clear hnil)
  have OB7 := ownsRow_block O7.out
  have M8 := Lib.hid (ownM_grown (ownM_alloc M7.out _) hgrow7 (fun q => by have := OB7 _ q; omega))
  have O8 := Lib.hid hown7
  have B8 := Lib.hid ((balloc B7.out _).grown hgrow7 (by simp; omega) (fun i hi => by have := OB7 i hi; omega))
  clear l7 OB7 hown7 hgrow7
  obtain ⟨g, cap, rfl, hg, r8⟩ := box_points O8.out
  have R8 := Lib.hid r8
  clear r8
  rw [rounds_succ]
  go_wp2_with fail
  have FR := Lib.hid (box_faces u8 112)
  have L8 := M8.out.2.2.2.2
  by_cases z : vcode ⟨8, 12, boxP a b c, boxF⟩ = 0
  · have Z := Lib.hid z
    clear z
    refine (checked_yes (some ⟨g, 0, none⟩) 8 cap (some ⟨u8.heap.size, 0, none⟩) 12 12 (boxP a b c) boxF _ (fun _ => ⟨_, _, rfl, row3_alloc R8.out _⟩) (fun _ => ⟨_, _, rfl, box_faces _ _⟩) (by decide) (by decide) Z.out).mono ?_
    rintro e w' ⟨rfl, hb⟩
    have M9 := ownM_below (ownM_alloc M8.out _) hb
    have BB := Lib.hid (bstep (balloc B8.out _) hb)
    have RA := Lib.hid (row3_below (row3_alloc R8.out _) hb)
    have RB := Lib.hid (row3_below FR.out hb)
    obtain ⟨m1, m2, m3, m4, m5⟩ := M9
    clear hb
    have n1 : w.heap.size ≠ g := by omega
    have n2 : w.heap.size ≠ u8.heap.size := by omega
    have N1 := Lib.hid n1
    have N2 := Lib.hid n2
    clear n1 n2
    go_wp2
    refine bodyPost_ret (v := .tuple #[msv (some ⟨g, 0, none⟩) 8 cap (some ⟨u8.heap.size, 0, none⟩) 12 12, .int .i64 0]) (by rw [results_cell_tmp rfl]; go_simp) rfl ⟨fun _ => ⟨_, _, _, _, rfl, fun _ => ⟨_, _, rfl, row3_set (row3_set RA.out N1.out) N1.out⟩, fun _ => ⟨_, _, rfl, row3_set (row3_set RB.out N2.out) N2.out⟩, ?_⟩, fun k => absurd Z.out k⟩
    have hB := BB.out
    (repeat' (first | exact Below.refl _ _ | refine bstep ?_ hB | refine Below.setCell ?_ (by simp <;> omega) _ | refine balloc ?_ _ | refine Below.drew ?_ | refine bdrewN ?_ _))
  · have Z := Lib.hid z
    clear z
    refine (checked_not (some ⟨g, 0, none⟩) 8 cap (some ⟨u8.heap.size, 0, none⟩) 12 12 (boxP a b c) boxF _ (fun _ => ⟨_, _, rfl, row3_alloc R8.out _⟩) (fun _ => ⟨_, _, rfl, box_faces _ _⟩) (by decide) (by decide) Z.out).mono ?_
    rintro e w' ⟨rfl, hb⟩
    have M9 := ownM_below (ownM_alloc M8.out _) hb
    have BB := Lib.hid (bstep (balloc B8.out _) hb)
    obtain ⟨m1, m2, m3, m4, m5⟩ := M9
    clear hb
    go_wp2
    refine bodyPost_ret (v := .tuple #[msv none 0 0 none 0 0, .int .i64 (vcode ⟨8, 12, boxP a b c, boxF⟩)]) (by rw [results_cell_tmp rfl]; go_simp) rfl ⟨fun k => absurd k Z.out, fun _ => ⟨rfl, ?_⟩⟩
    have hB := BB.out
    (repeat' (first | exact Below.refl _ _ | refine bstep ?_ hB | refine Below.setCell ?_ (by simp <;> omega) _ | refine balloc ?_ _ | refine Below.drew ?_ | refine bdrewN ?_ _))

end Go.Proofs.Ytllonfaogbdbnaa
