/-
  The contracts of Validate for moments, in the program and in the document's answer.
-/
import Derived.Test.YtlegalibjkeccaaMo4
namespace Go.Proofs.Ytlegalibjkeccaa
open Go.ChangeShapes Go.WideShapes Go.RowKit
open Sh
/-- moments as a value, and their block -/
abbrev mov (m : Mo) : Value := .agg #[.int .i64 m.c, .int .i64 m.t, .int .i64 m.d.1, .int .i64 m.d.2.1, .int .i64 m.d.2.2, .int .i64 m.s0, .int .i64 m.s1, .int .i64 m.s2, .int .i64 m.s3, .int .i64 m.s4, .int .i64 m.s5]
abbrev mob (m : Mo) (t : TypeId) : Obj := .cells #[.int .i64 m.c, .int .i64 m.t, .int .i64 m.d.1, .int .i64 m.d.2.1, .int .i64 m.d.2.2, .int .i64 m.s0, .int .i64 m.s1, .int .i64 m.s2, .int .i64 m.s3, .int .i64 m.s4, .int .i64 m.s5] t
/-- block b is the call's own moments, and may be written -/
def OwnMo (w : World) (b : Nat) (m : Mo) : Prop :=
  (w.cell? ⟨b, 0, none⟩ = some (.int .i64 m.c) ∧ w.cell? ⟨b, 1, none⟩ = some (.int .i64 m.t) ∧ w.cell? ⟨b, 2, none⟩ = some (.int .i64 m.d.1) ∧ w.cell? ⟨b, 3, none⟩ = some (.int .i64 m.d.2.1) ∧ w.cell? ⟨b, 4, none⟩ = some (.int .i64 m.d.2.2) ∧ w.cell? ⟨b, 5, none⟩ = some (.int .i64 m.s0) ∧ w.cell? ⟨b, 6, none⟩ = some (.int .i64 m.s1) ∧ w.cell? ⟨b, 7, none⟩ = some (.int .i64 m.s2) ∧ w.cell? ⟨b, 8, none⟩ = some (.int .i64 m.s3) ∧ w.cell? ⟨b, 9, none⟩ = some (.int .i64 m.s4) ∧ w.cell? ⟨b, 10, none⟩ = some (.int .i64 m.s5)) ∧ (w.frozen? ⟨b, 0, none⟩ = false ∧ w.frozen? ⟨b, 1, none⟩ = false ∧ w.frozen? ⟨b, 2, none⟩ = false ∧ w.frozen? ⟨b, 3, none⟩ = false ∧ w.frozen? ⟨b, 4, none⟩ = false ∧ w.frozen? ⟨b, 5, none⟩ = false ∧ w.frozen? ⟨b, 6, none⟩ = false ∧ w.frozen? ⟨b, 7, none⟩ = false ∧ w.frozen? ⟨b, 8, none⟩ = false ∧ w.frozen? ⟨b, 9, none⟩ = false ∧ w.frozen? ⟨b, 10, none⟩ = false) ∧ b < w.heap.size
theorem ownMo_new (w : World) (m : Mo) (t : TypeId) : OwnMo (w.alloc (mob m t)) w.heap.size m := ⟨⟨by go_simp, by go_simp, by go_simp, by go_simp, by go_simp, by go_simp, by go_simp, by go_simp, by go_simp, by go_simp, by go_simp⟩, ⟨by go_simp, by go_simp, by go_simp, by go_simp, by go_simp, by go_simp, by go_simp, by go_simp, by go_simp, by go_simp, by go_simp⟩, by simp⟩
theorem ownMo_below {w w1 : World} {b : Nat} {m : Mo} (h : OwnMo w b m) (hb : Below w.heap.size w w1) : OwnMo w1 b m := by
  obtain ⟨⟨h0, h1, h2, h3, h4, h5, h6, h7, h8, h9, h10⟩, ⟨f0, f1, f2, f3, f4, f5, f6, f7, f8, f9, f10⟩, l⟩ := h
  exact ⟨⟨(hb.cell (p := ⟨b, 0, none⟩) l).trans h0, (hb.cell (p := ⟨b, 1, none⟩) l).trans h1, (hb.cell (p := ⟨b, 2, none⟩) l).trans h2, (hb.cell (p := ⟨b, 3, none⟩) l).trans h3, (hb.cell (p := ⟨b, 4, none⟩) l).trans h4, (hb.cell (p := ⟨b, 5, none⟩) l).trans h5, (hb.cell (p := ⟨b, 6, none⟩) l).trans h6, (hb.cell (p := ⟨b, 7, none⟩) l).trans h7, (hb.cell (p := ⟨b, 8, none⟩) l).trans h8, (hb.cell (p := ⟨b, 9, none⟩) l).trans h9, (hb.cell (p := ⟨b, 10, none⟩) l).trans h10⟩, ⟨(hb.frozen (p := ⟨b, 0, none⟩) l).trans f0, (hb.frozen (p := ⟨b, 1, none⟩) l).trans f1, (hb.frozen (p := ⟨b, 2, none⟩) l).trans f2, (hb.frozen (p := ⟨b, 3, none⟩) l).trans f3, (hb.frozen (p := ⟨b, 4, none⟩) l).trans f4, (hb.frozen (p := ⟨b, 5, none⟩) l).trans f5, (hb.frozen (p := ⟨b, 6, none⟩) l).trans f6, (hb.frozen (p := ⟨b, 7, none⟩) l).trans f7, (hb.frozen (p := ⟨b, 8, none⟩) l).trans f8, (hb.frozen (p := ⟨b, 9, none⟩) l).trans f9, (hb.frozen (p := ⟨b, 10, none⟩) l).trans f10⟩, Nat.lt_of_lt_of_le l hb.size⟩
theorem ownMo_alloc {w : World} {b : Nat} {m : Mo} (h : OwnMo w b m) (o : Obj) : OwnMo (w.alloc o) b m := ownMo_below h ((Below.refl _ _).alloc (Nat.le_refl _) _)
theorem ownMo_drew {w : World} {b : Nat} {m : Mo} (h : OwnMo w b m) : OwnMo w.drew b m := h
theorem ownMo_cells {w : World} {b : Nat} {m : Mo} (h : OwnMo w b m) : w.cell? ⟨b, 0, none⟩ = some (.int .i64 m.c) ∧ w.cell? ⟨b, 1, none⟩ = some (.int .i64 m.t) ∧ w.cell? ⟨b, 2, none⟩ = some (.int .i64 m.d.1) ∧ w.cell? ⟨b, 3, none⟩ = some (.int .i64 m.d.2.1) ∧ w.cell? ⟨b, 4, none⟩ = some (.int .i64 m.d.2.2) ∧ w.cell? ⟨b, 5, none⟩ = some (.int .i64 m.s0) ∧ w.cell? ⟨b, 6, none⟩ = some (.int .i64 m.s1) ∧ w.cell? ⟨b, 7, none⟩ = some (.int .i64 m.s2) ∧ w.cell? ⟨b, 8, none⟩ = some (.int .i64 m.s3) ∧ w.cell? ⟨b, 9, none⟩ = some (.int .i64 m.s4) ∧ w.cell? ⟨b, 10, none⟩ = some (.int .i64 m.s5) := h.1
/-- what Validate answers -/
def MVal (m : Mo) (w : World) (e : Ending) (w' : World) : Prop := e = .returned (.int .i64 (mcode m)) ∧ Below w.heap.size w w'
theorem mval_no {m : Mo} {w w' : World} (h : ¬ mok m) (hb : Below w.heap.size w w') : MVal m w (.returned (.int .i64 1)) w' := ⟨by rw [mcode_not h], hb⟩
theorem mval_yes {m : Mo} {w w' : World} (h : mok m) (hb : Below w.heap.size w w') : MVal m w (.returned (.int .i64 0)) w' := ⟨by rw [mcode_mok h], hb⟩
theorem rng_t {m : Mo} (h : rngB m.t 0 1048576 = false) : ¬ mok m := fun x => rngB_not.1 h x.1
theorem rng_c {m : Mo} (h : rngB m.c (-m.t) m.t = false) : ¬ mok m := fun x => rngB_not.1 h x.2.1
theorem rng_d1 {m : Mo} (h : rngB m.d.1 (-1073741824) 1073741824 = false) : ¬ mok m := fun x => rngB_not.1 h (cor1 x.2.2.1)
theorem rng_d2 {m : Mo} (h : rngB m.d.2.1 (-1073741824) 1073741824 = false) : ¬ mok m := fun x => rngB_not.1 h (cor2 x.2.2.1)
theorem rng_d3 {m : Mo} (h : rngB m.d.2.2 (-1073741824) 1073741824 = false) : ¬ mok m := fun x => rngB_not.1 h (cor3 x.2.2.1)
theorem rng_s0 {m : Mo} (h : rngB m.s0 (-17179869184) 17179869184 = false) : ¬ mok m := fun x => rngB_not.1 h x.2.2.2.1
theorem rng_s1 {m : Mo} (h : rngB m.s1 (-17179869184) 17179869184 = false) : ¬ mok m := fun x => rngB_not.1 h x.2.2.2.2.1
theorem rng_s2 {m : Mo} (h : rngB m.s2 (-17179869184) 17179869184 = false) : ¬ mok m := fun x => rngB_not.1 h x.2.2.2.2.2.1
theorem rng_s3 {m : Mo} (h : rngB m.s3 (-17179869184) 17179869184 = false) : ¬ mok m := fun x => rngB_not.1 h x.2.2.2.2.2.2.1
theorem rng_s4 {m : Mo} (h : rngB m.s4 (-17179869184) 17179869184 = false) : ¬ mok m := fun x => rngB_not.1 h x.2.2.2.2.2.2.2.1
theorem rng_s5 {m : Mo} (h : rngB m.s5 (-17179869184) 17179869184 = false) : ¬ mok m := fun x => rngB_not.1 h x.2.2.2.2.2.2.2.2
theorem rng_all {m : Mo} (h0 : rngB m.t 0 1048576 = true) (h1 : rngB m.c (-m.t) m.t = true) (h2 : rngB m.d.1 (-1073741824) 1073741824 = true) (h3 : rngB m.d.2.1 (-1073741824) 1073741824 = true) (h4 : rngB m.d.2.2 (-1073741824) 1073741824 = true) (h5 : rngB m.s0 (-17179869184) 17179869184 = true) (h6 : rngB m.s1 (-17179869184) 17179869184 = true) (h7 : rngB m.s2 (-17179869184) 17179869184 = true) (h8 : rngB m.s3 (-17179869184) 17179869184 = true) (h9 : rngB m.s4 (-17179869184) 17179869184 = true) (h10 : rngB m.s5 (-17179869184) 17179869184 = true) : mok m := by
  have a := rngB_iff.1 h2
  have b := rngB_iff.1 h3
  have c := rngB_iff.1 h4
  exact ⟨rngB_iff.1 h0, rngB_iff.1 h1, ⟨a.1, a.2, b.1, b.2, c.1, c.2⟩, rngB_iff.1 h5, rngB_iff.1 h6, rngB_iff.1 h7, rngB_iff.1 h8, rngB_iff.1 h9, rngB_iff.1 h10⟩
end Go.Proofs.Ytlegalibjkeccaa
