/-
  The law ShapeMoves: its walk, for any answers of its callees that belong together.
-/
import Derived.Test.YtfpenkgkcjpknaaCopy0
import Derived.Test.YtfpenkgkcjpknaaMoves0
import Derived.Test.YtfpenkgkcjpknaaValsW
namespace Go.Proofs.Ytfpenkgkcjpknaa
open Go.ChangeShapes Go.WideShapes Go.RowKit
open Sh
/-- a list in blocks below B -/
def LstB (w : World) (B : Nat) (a : Option Addr) (n : Nat) (f : Nat → P3) : Prop := 0 < n → ∃ b off, a = some ⟨b, off, none⟩ ∧ b < B ∧ Row3 w b off n f
theorem lstB_of {w : World} {a : Option Addr} {n : Nat} {f : Nat → P3} (h : Lst w a n f) : LstB w w.heap.size a n f := fun h0 => by
  obtain ⟨b, off, e, r⟩ := h h0
  exact ⟨b, off, e, r.1, r⟩
theorem lstB_below {w w1 : World} {B : Nat} {a : Option Addr} {n : Nat} {f : Nat → P3} (h : LstB w B a n f) (hb : Below w.heap.size w w1) : LstB w1 B a n f := fun h0 => by
  obtain ⟨b, off, e, l, r⟩ := h h0
  exact ⟨b, off, e, l, row3_below r hb⟩
theorem lstB_alloc {w : World} {B : Nat} {a : Option Addr} {n : Nat} {f : Nat → P3} (h : LstB w B a n f) (o : Obj) : LstB (w.alloc o) B a n f := lstB_below h ((Below.refl _ _).alloc (Nat.le_refl _) _)
theorem lstB_set {w : World} {B q o : Nat} {v : Value} {a : Option Addr} {n : Nat} {f : Nat → P3} (h : LstB w B a n f) (k : B ≤ q) : LstB (w.setCell ⟨q, o, none⟩ v) B a n f := fun h0 => by
  obtain ⟨b, off, e, l, r⟩ := h h0
  exact ⟨b, off, e, l, row3_set r (by omega)⟩
theorem lstB_lst {w : World} {B : Nat} {a : Option Addr} {n : Nat} {f : Nat → P3} (h : LstB w B a n f) : Lst w a n f := fun h0 => by
  obtain ⟨b, off, e, l, r⟩ := h h0
  exact ⟨b, off, e, r⟩
/-- a list of the call's own, in a block from lo on and below hi; what it holds is not said -/
def LstR (w : World) (lo hi : Nat) (a : Option Addr) (n : Nat) : Prop := 0 < n → ∃ b f, a = some ⟨b, 0, none⟩ ∧ lo ≤ b ∧ b < hi ∧ Row3W w b n f
theorem lstR_of {w : World} {base : Nat} {a : Option Addr} {n : Nat} {f : Nat → P3} (h : LstW w base a n f) : LstR w base w.heap.size a n := fun h0 => by
  obtain ⟨b, e, l, r⟩ := h h0
  exact ⟨b, f, e, l, r.1, r⟩
theorem lstR_below {w w1 : World} {lo hi : Nat} {a : Option Addr} {n : Nat} (h : LstR w lo hi a n) (hb : Below w.heap.size w w1) : LstR w1 lo hi a n := fun h0 => by
  obtain ⟨b, f, e, l, k, r⟩ := h h0
  exact ⟨b, f, e, l, k, row3w_below r hb⟩
theorem lstR_alloc {w : World} {lo hi : Nat} {a : Option Addr} {n : Nat} (h : LstR w lo hi a n) (o : Obj) : LstR (w.alloc o) lo hi a n := lstR_below h ((Below.refl _ _).alloc (Nat.le_refl _) _)
theorem lstR_set {w : World} {lo hi q o : Nat} {v : Value} {a : Option Addr} {n : Nat} (h : LstR w lo hi a n) (k : q < lo ∨ hi ≤ q) : LstR (w.setCell ⟨q, o, none⟩ v) lo hi a n := fun h0 => by
  obtain ⟨b, f, e, l, m, r⟩ := h h0
  exact ⟨b, f, e, l, m, row3w_set r (by omega)⟩
/-- the first number of a row is laid anew -/
theorem row3w_first {w : World} {b n : Nat} {f : Nat → P3} (r : Row3W w b n f) {i : Nat} (hi : i < n) (x : Int) :
    Row3W (w.setCell ⟨b, i * 3, none⟩ (.int .i64 x)) b n (fun k => if k = i then (x, (f k).2.1, (f k).2.2) else f k) := by
  refine ⟨by simpa using r.1, fun k hk => ?_⟩
  obtain ⟨⟨a1, a2, a3⟩, a4, a5, a6⟩ := r.2 i hi
  obtain ⟨⟨h1, h2, h3⟩, h4, h5, h6⟩ := r.2 k hk
  by_cases e : k = i
  · subst e
    dsimp only
    rw [if_pos rfl]
    have e1 : ¬ k * 3 = k * 3 + 1 := by omega
    have e2 : ¬ k * 3 = k * 3 + 2 := by omega
    exact ⟨⟨by go_simp, by go_simp, by go_simp⟩, by go_simp, by go_simp, by go_simp⟩
  · dsimp only
    rw [if_neg e]
    have e0 : ¬ i * 3 = k * 3 := by omega
    have e1 : ¬ i * 3 = k * 3 + 1 := by omega
    have e2 : ¬ i * 3 = k * 3 + 2 := by omega
    exact ⟨⟨by go_simp, by go_simp, by go_simp⟩, by go_simp, by go_simp, by go_simp⟩
theorem lstR_first {w : World} {lo hi b n : Nat} {f : Nat → P3} (r : Row3W w b n f) (l : lo ≤ b) (m : b < hi) {i : Nat} (h : i < n) (x : Int) : LstR (w.setCell ⟨b, i * 3, none⟩ (.int .i64 x)) lo hi (some ⟨b, 0, none⟩) n :=
  fun _ => ⟨b, _, rfl, l, m, row3w_first r h x⟩
end Go.Proofs.Ytfpenkgkcjpknaa
