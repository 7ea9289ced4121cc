/-
  The contract of quarters: the four parts of a panel.
-/
import Derived.Test.YtlegalibjkeccaaVec
import Derived.Test.YtlegalibjkeccaaFiPts
import Derived.Test.YtlegalibjkeccaaReg
import Derived.Deep.MidRow
namespace Go.Proofs.Ytlegalibjkeccaa
open Go.ChangeShapes Go.WideShapes Go.RowKit
open Sh
theorem ftimes_any (k : Int) (a : P3) (w : World) (h : BdP 4611686018427387904 (tim k a)) :
    Calls Try.prog 93 #[.int .i64 k, ptv a] w fun e w' => e = .returned (ptv (tim k a)) ∧ Below w.heap.size w w' := by
  simp only [BdP, tim] at h
  obtain ⟨h1, h2, h3, h4, h5, h6⟩ := h
  go_enter Try.func93, Try.ntmps93
  go_wp2
  refine bodyPost_ret (v := ptv (tim k a)) (by rw [results_cell rfl]; go_simp; exact ⟨rfl, rfl, rfl⟩) rfl ⟨rfl, ?_⟩
  (repeat' (first | exact Below.refl _ _ | refine Below.setCell ?_ (by simp <;> omega) _ | refine balloc ?_ _ | refine Below.drew ?_ | refine bdrewN ?_ _))
theorem fplus_any (a b : P3) (w : World) (h : BdP 4611686018427387904 (add a b)) :
    Calls Try.prog 94 #[ptv a, ptv b] w fun e w' => e = .returned (ptv (add a b)) ∧ Below w.heap.size w w' := by
  simp only [BdP, add] at h
  obtain ⟨h1, h2, h3, h4, h5, h6⟩ := h
  go_enter Try.func94, Try.ntmps94
  go_wp2
  refine bodyPost_ret (v := ptv (add a b)) (by rw [results_cell rfl]; go_simp; exact ⟨rfl, rfl, rfl⟩) rfl ⟨rfl, ?_⟩
  (repeat' (first | exact Below.refl _ _ | refine Below.setCell ?_ (by simp <;> omega) _ | refine balloc ?_ _ | refine Below.drew ?_ | refine bdrewN ?_ _))
/-- a block of the call's own, of a point, from N on; x is its address -/
def QA (l : Array Bool) (W : World) (x : Value) (k s N : Nat) (t : P3) : Prop :=
  (l.getD s false = true → l.getD k false = true) ∧ (l.getD k false = true → ∃ b v, x = .pointer (some ⟨b, 0, none⟩) ∧ N ≤ b ∧ Own W b v ∧ (l.getD s false = true → v = t))
theorem rep_no {n k : Nat} (h : (Array.replicate n false).getD k false = true) : False := by
  rw [Array.getD_eq_getD_getElem?, Array.getElem?_replicate] at h
  split at h <;> cases h
theorem PV.nought {n k : Nat} {x v : Value} : PV (Array.replicate n false) k x v := fun h => (rep_no h).elim
theorem QA.nought {n : Nat} {W : World} {x : Value} {k s N : Nat} {t : P3} : QA (Array.replicate n false) W x k s N t := ⟨fun h => (rep_no h).elim, fun h => (rep_no h).elim⟩
theorem QA.keep {l : Array Bool} {W W' : World} {x : Value} {i k s N : Nat} {t : P3} (h : QA l W x k s N t) (ne : i ≠ k) (ns : i ≠ s) (tr : ∀ b v, Own W b v → Own W' b v) : QA (l.setIfInBounds i true) W' x k s N t :=
  ⟨fun e => gs_t ne (h.1 (gs ns e)), fun e => by
    obtain ⟨b, v, h1, h2, h3, h4⟩ := h.2 (gs ne e)
    exact ⟨b, v, h1, h2, tr b v h3, fun e' => h4 (gs ns e')⟩⟩
theorem QA.other {l : Array Bool} {W W' : World} {x : Value} {i k s N b' : Nat} {t : P3} (h : QA l W x k s N t) (ne : i ≠ k) (ns : i ≠ s) (hn : l.getD k false = true → x ≠ .pointer (some ⟨b', 0, none⟩)) (tr : ∀ b v, b ≠ b' → Own W b v → Own W' b v) : QA (l.setIfInBounds i true) W' x k s N t :=
  ⟨fun e => gs_t ne (h.1 (gs ns e)), fun e => by
    obtain ⟨b, v, h1, h2, h3, h4⟩ := h.2 (gs ne e)
    exact ⟨b, v, h1, h2, tr b v (fun e' => hn (gs ne e) (by rw [h1, e'])) h3, fun e' => h4 (gs ns e')⟩⟩
theorem QA.made {l : Array Bool} {W W' : World} {x : Value} {k s N : Nat} {t v : P3} (h : QA l W x k s N t) (ne : k ≠ s) (hl : k < l.size) (hk : l.getD k true = false) (hN : N ≤ W.heap.size) (o : Own W' W.heap.size v) : QA (l.setIfInBounds k true) W' (.pointer (some ⟨W.heap.size, 0, none⟩)) k s N t :=
  ⟨fun _ => gs_i hl, fun _ => ⟨_, v, rfl, hN, o, fun e => by
    have z := h.1 (gs ne e)
    rw [Array.getD_eq_getD_getElem?, Array.getElem?_eq_getElem hl] at z hk
    rw [show l[k] = true from z] at hk
    cases hk⟩⟩
theorem QA.put {l : Array Bool} {W' : World} {x : Value} {k s N b : Nat} {t : P3} (ne : s ≠ k) (hk : l.getD k false = true) (hx : x = .pointer (some ⟨b, 0, none⟩)) (hN : N ≤ b) (o : Own W' b t) : QA (l.setIfInBounds s true) W' x k s N t :=
  ⟨fun _ => gs_t ne hk, fun _ => ⟨b, t, hx, hN, o, fun _ => rfl⟩⟩
/-- two slots do not hold one address -/
def DD (l : Array Bool) (x y : Value) (k m : Nat) : Prop := l.getD k false = true → l.getD m false = true → x ≠ y
theorem DD.nought {n : Nat} {x y : Value} {k m : Nat} : DD (Array.replicate n false) x y k m := fun h => (rep_no h).elim
theorem DD.keep {l : Array Bool} {x y : Value} {i k m : Nat} (h : DD l x y k m) (ne : i ≠ k) (nm : i ≠ m) : DD (l.setIfInBounds i true) x y k m := fun e f => h (gs ne e) (gs nm f)
theorem DD.mk1 {l : Array Bool} {W : World} {y : Value} {k m s N : Nat} {t : P3} (h : QA l W y m s N t) (ne : k ≠ m) : DD (l.setIfInBounds k true) (.pointer (some ⟨W.heap.size, 0, none⟩)) y k m := fun _ f e => by
  obtain ⟨b, v, h1, _, h3, _⟩ := h.2 (gs ne f)
  rw [h1] at e
  injection e with e; injection e with e; injection e with e
  have := h3.2.2.2.2.2.2
  omega
theorem DD.mk2 {l : Array Bool} {W : World} {x : Value} {k m s N : Nat} {t : P3} (h : QA l W x k s N t) (ne : m ≠ k) : DD (l.setIfInBounds m true) x (.pointer (some ⟨W.heap.size, 0, none⟩)) k m := fun f _ e => by
  obtain ⟨b, v, h1, _, h3, _⟩ := h.2 (gs ne f)
  rw [h1] at e
  injection e with e; injection e with e; injection e with e
  have := h3.2.2.2.2.2.2
  omega
theorem own_put {w : World} {b : Nat} {v : P3} (h : Own w b v) (a : P3) : Own (((w.setCell ⟨b, 0, none⟩ (.int .i64 a.1)).setCell ⟨b, 1, none⟩ (.int .i64 a.2.1)).setCell ⟨b, 2, none⟩ (.int .i64 a.2.2)) b a := by
  obtain ⟨h1, h2, h3, h4, h5, h6, h7⟩ := h
  exact ⟨by go_simp, by go_simp, by go_simp, by go_simp, by go_simp, by go_simp, by simpa using h7⟩
theorem own_set3 {w : World} {b b' : Nat} {v : P3} (x y z : Value) (n : b ≠ b') (h : Own w b v) : Own (((w.setCell ⟨b', 0, none⟩ x).setCell ⟨b', 1, none⟩ y).setCell ⟨b', 2, none⟩ z) b v := own_set (own_set (own_set h n) n) n
theorem below_set3 {N : Nat} {w : World} {b : Nat} (x y z : Value) (h : N ≤ b) : Below N w (((w.setCell ⟨b, 0, none⟩ x).setCell ⟨b, 1, none⟩ y).setCell ⟨b, 2, none⟩ z) := (((Below.refl _ _).setCell h _).setCell h _).setCell h _
/-- the block of the four parts, before they are written -/
def Z36 (W : World) (Z : Nat) : Prop := (∀ o, o < 36 → (W.cell? ⟨Z, o, none⟩).isSome = true) ∧ (∀ o, o < 36 → W.frozen? ⟨Z, o, none⟩ = false) ∧ Z < W.heap.size
theorem z36_in {W W' : World} {Z N : Nat} (h : Z36 W Z) (hb : Below N W W') (hN : Z < N) : Z36 W' Z :=
  ⟨fun o ho => by rw [hb.cell (p := ⟨Z, o, none⟩) hN]; exact h.1 o ho, fun o ho => (hb.frozen (p := ⟨Z, o, none⟩) hN).trans (h.2.1 o ho), Nat.lt_of_lt_of_le h.2.2 hb.size⟩
theorem own_in' {W W' : World} {b N : Nat} {v : P3} (h : Own W b v) (hb : Below N W W') (hN : b < N) : Own W' b v := by
  obtain ⟨h1, h2, h3, h4, h5, h6, h7⟩ := h
  exact ⟨(hb.cell (p := ⟨b, 0, none⟩) hN).trans h1, (hb.cell (p := ⟨b, 1, none⟩) hN).trans h2, (hb.cell (p := ⟨b, 2, none⟩) hN).trans h3, (hb.frozen (p := ⟨b, 0, none⟩) hN).trans h4, (hb.frozen (p := ⟨b, 1, none⟩) hN).trans h5, (hb.frozen (p := ⟨b, 2, none⟩) hN).trans h6, Nat.lt_of_lt_of_le h7 hb.size⟩
theorem pan_in' {w w1 : World} {q N : Nat} {a b c : P3} (h : Pan w q a b c) (hb : Below N w w1) (hN : q < N) : Pan w1 q a b c := by
  obtain ⟨h1, h2, h3, h4, h5, h6, h7, h8, h9, hq⟩ := h
  exact ⟨(hb.cell (p := ⟨q, 0, none⟩) hN).trans h1, (hb.cell (p := ⟨q, 1, none⟩) hN).trans h2, (hb.cell (p := ⟨q, 2, none⟩) hN).trans h3, (hb.cell (p := ⟨q, 3, none⟩) hN).trans h4, (hb.cell (p := ⟨q, 4, none⟩) hN).trans h5, (hb.cell (p := ⟨q, 5, none⟩) hN).trans h6, (hb.cell (p := ⟨q, 6, none⟩) hN).trans h7, (hb.cell (p := ⟨q, 7, none⟩) hN).trans h8, (hb.cell (p := ⟨q, 8, none⟩) hN).trans h9, Nat.lt_of_lt_of_le hq hb.size⟩
/-- what quarters holds ahead of its first region -/
def QG (w : World) (a b c : P3) (W : World) : Prop := Pan W w.heap.size a b c ∧ Z36 W (w.heap.size + 1) ∧ Below w.heap.size w W
theorem qg_in {w W W' : World} {N : Nat} {a b c : P3} (h : QG w a b c W) (hb : Below N W W') (hN : w.heap.size + 1 < N) : QG w a b c W' :=
  ⟨pan_in' h.1 hb (by omega), z36_in h.2.1 hb hN, h.2.2.trans (hb.mono (by omega))⟩
/-- and ahead of its second -/
def QH (w : World) (a b c : P3) (x y z : Nat) (W : World) : Prop := QG w a b c W ∧ Own W x (tim 2 a) ∧ Own W y (tim 2 b) ∧ Own W z (tim 2 c)
theorem qg_drew {w W : World} {a b c : P3} (h : QG w a b c W) : QG w a b c W.drew := ⟨pan_drew h.1, h.2.1, Below.drew h.2.2⟩
theorem qh_in {w W W' : World} {x y z N : Nat} {a b c : P3} (h : QH w a b c x y z W) (hb : Below N W W') (hN : w.heap.size + 1 < N) (hx : x < N) (hy : y < N) (hz : z < N) : QH w a b c x y z W' :=
  ⟨qg_in h.1 hb hN, own_in' h.2.1 hb hx, own_in' h.2.2.1 hb hy, own_in' h.2.2.2 hb hz⟩
theorem qh_drew {w W : World} {x y z : Nat} {a b c : P3} (h : QH w a b c x y z W) : QH w a b c x y z W.drew := ⟨qg_drew h.1, h.2.1, h.2.2.1, h.2.2.2⟩
def qr1T (w : World) (a b c : P3)  (X : Nat → Value) : Array Value := #[pnv a b c, .pointer (some ⟨w.heap.size, 0, none⟩), .pointer (some ⟨w.heap.size + 1, 0, none⟩), X 3, X 4, X 5, undef, undef, undef, X 9, X 10, X 11, X 12, X 13, X 14, X 15, X 16, X 17, undef, undef, undef, undef, undef, undef, undef, undef, undef, undef, undef, undef, undef, undef, undef, undef, undef, undef, undef, undef, undef, undef, undef, undef, undef, undef, undef, undef, undef, undef, undef, undef]
def qr1I (w : World) (a b c : P3)  (N : Nat) (l : Array Bool) (A : Act) (W : World) : Prop :=
  l.size = 15 ∧ ∃ X : Nat → Value, A = { tmps := qr1T w a b c  X, defers := [] } ∧ N ≤ W.heap.size ∧ QG w a b c W ∧ PV l 0 (X 9) (.pointer (some ⟨w.heap.size, 0, none⟩)) ∧ PV l 1 (X 10) (ptv a) ∧ PV l 2 (X 11) (ptv (tim 2 a)) ∧ PV l 3 (X 12) (.pointer (some ⟨w.heap.size, 3, none⟩)) ∧ PV l 4 (X 13) (ptv b) ∧ PV l 5 (X 14) (ptv (tim 2 b)) ∧ PV l 6 (X 15) (.pointer (some ⟨w.heap.size, 6, none⟩)) ∧ PV l 7 (X 16) (ptv c) ∧ PV l 8 (X 17) (ptv (tim 2 c)) ∧ QA l W (X 3) 9 12 N (tim 2 a) ∧ QA l W (X 4) 10 13 N (tim 2 b) ∧ QA l W (X 5) 11 14 N (tim 2 c) ∧ DD l (X 3) (X 4) 9 10 ∧ DD l (X 3) (X 5) 9 11 ∧ DD l (X 4) (X 5) 10 11
def qr2T (w : World) (a b c : P3) (x y z : Nat) (X : Nat → Value) : Array Value := #[pnv a b c, .pointer (some ⟨w.heap.size, 0, none⟩), .pointer (some ⟨w.heap.size + 1, 0, none⟩), .pointer (some ⟨x, 0, none⟩), .pointer (some ⟨y, 0, none⟩), .pointer (some ⟨z, 0, none⟩), X 6, X 7, X 8, .pointer (some ⟨w.heap.size, 0, none⟩), ptv a, ptv (tim 2 a), .pointer (some ⟨w.heap.size, 3, none⟩), ptv b, ptv (tim 2 b), .pointer (some ⟨w.heap.size, 6, none⟩), ptv c, ptv (tim 2 c), X 18, X 19, X 20, X 21, X 22, X 23, X 24, X 25, X 26, X 27, X 28, X 29, X 30, X 31, X 32, undef, undef, undef, undef, undef, undef, undef, undef, undef, undef, undef, undef, undef, undef, undef, undef, undef]
def qr2I (w : World) (a b c : P3) (x y z : Nat) (N : Nat) (l : Array Bool) (A : Act) (W : World) : Prop :=
  l.size = 21 ∧ ∃ X : Nat → Value, A = { tmps := qr2T w a b c x y z X, defers := [] } ∧ N ≤ W.heap.size ∧ QH w a b c x y z W ∧ PV l 0 (X 18) (.pointer (some ⟨w.heap.size, 0, none⟩)) ∧ PV l 1 (X 19) (ptv a) ∧ PV l 2 (X 20) (.pointer (some ⟨w.heap.size, 3, none⟩)) ∧ PV l 3 (X 21) (ptv b) ∧ PV l 4 (X 22) (ptv (add a b)) ∧ PV l 5 (X 23) (.pointer (some ⟨w.heap.size, 3, none⟩)) ∧ PV l 6 (X 24) (ptv b) ∧ PV l 7 (X 25) (.pointer (some ⟨w.heap.size, 6, none⟩)) ∧ PV l 8 (X 26) (ptv c) ∧ PV l 9 (X 27) (ptv (add b c)) ∧ PV l 10 (X 28) (.pointer (some ⟨w.heap.size, 6, none⟩)) ∧ PV l 11 (X 29) (ptv c) ∧ PV l 12 (X 30) (.pointer (some ⟨w.heap.size, 0, none⟩)) ∧ PV l 13 (X 31) (ptv a) ∧ PV l 14 (X 32) (ptv (add c a)) ∧ QA l W (X 6) 15 18 N (add a b) ∧ QA l W (X 7) 16 19 N (add b c) ∧ QA l W (X 8) 17 20 N (add c a) ∧ DD l (X 6) (X 7) 15 16 ∧ DD l (X 6) (X 8) 15 17 ∧ DD l (X 7) (X 8) 16 17
theorem below_cells (N b : Nat) : ∀ (cs : List Value) (o : Nat) {w : World}, N ≤ b → Below N w (w.setCells b o cs)
  | [], _, _, _ => Below.refl _ _
  | v :: r, o, w, h => by
    rw [World.setCells]
    exact ((Below.refl N w).setCell (p := ⟨b, o, none⟩) h v).trans (below_cells N b r (o + 1) h)
theorem info89 : (Try.prog.info? 109).map (·.size) = some 36 := by kernel_rfl
theorem t62 {a : P3} (h : BdP 1152921504606846976 a) : BdP 4611686018427387904 (tim 2 a) := (tim2_bd h).mono (by decide)
theorem a62 {a b : P3} (h : BdP 1152921504606846976 a) (k : BdP 1152921504606846976 b) : BdP 4611686018427387904 (add a b) := (add2_bd h k).mono (by decide)
theorem pan_zero (w : World) (a b c : P3) (t u : TypeId) : QG w a b c ((w.alloc (pnc a b c t)).alloc (.cells #[.int .i64 0, .int .i64 0, .int .i64 0, .int .i64 0, .int .i64 0, .int .i64 0, .int .i64 0, .int .i64 0, .int .i64 0, .int .i64 0, .int .i64 0, .int .i64 0, .int .i64 0, .int .i64 0, .int .i64 0, .int .i64 0, .int .i64 0, .int .i64 0, .int .i64 0, .int .i64 0, .int .i64 0, .int .i64 0, .int .i64 0, .int .i64 0, .int .i64 0, .int .i64 0, .int .i64 0, .int .i64 0, .int .i64 0, .int .i64 0, .int .i64 0, .int .i64 0, .int .i64 0, .int .i64 0, .int .i64 0, .int .i64 0] u)) := by
  refine ⟨pan_alloc (pan_new w a b c t) _, ⟨?_, ?_, by simp⟩, balloc (balloc (Below.refl _ w) _) _⟩
  · intro o ho
    have : o = 0 ∨ o = 1 ∨ o = 2 ∨ o = 3 ∨ o = 4 ∨ o = 5 ∨ o = 6 ∨ o = 7 ∨ o = 8 ∨ o = 9 ∨ o = 10 ∨ o = 11 ∨ o = 12 ∨ o = 13 ∨ o = 14 ∨ o = 15 ∨ o = 16 ∨ o = 17 ∨ o = 18 ∨ o = 19 ∨ o = 20 ∨ o = 21 ∨ o = 22 ∨ o = 23 ∨ o = 24 ∨ o = 25 ∨ o = 26 ∨ o = 27 ∨ o = 28 ∨ o = 29 ∨ o = 30 ∨ o = 31 ∨ o = 32 ∨ o = 33 ∨ o = 34 ∨ o = 35 := by omega
    (repeat' (rcases this with rfl | this))
    all_goals (try subst this)
    all_goals go_simp
  · intro o ho
    go_simp

end Go.Proofs.Ytlegalibjkeccaa
