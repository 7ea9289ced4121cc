/-
  The contracts of the small words of moments: ranges, vectors, their sums and products.
  The contracts of the document's small words of moments: sizes, limits, sums and differences of points.
  The contracts of Validate for moments, in the program and in the document's answer.
  The contract of the document's Validate for moments.
  The contracts of ValidateCharged, checkPanels and given: the errors of charged panels and of a center.
-/
import Derived.Test.YtjigcgpcglfjfaaPtM
import Derived.Test.YtjigcgpcglfjfaaVecM
import Derived.RegionTactic
import Derived.BigRegion
import Derived.LoopTactic
import Derived.Deep.DeepFit
namespace Go.Proofs.Ytjigcgpcglfjfaa
open Go.ChangeShapes Go.WideShapes Go.RowKit
open Sh
theorem finr_any (n lo hi : Int) (w : World) :
    Calls Try.prog 78 #[.int .i64 n, .int .i64 lo, .int .i64 hi] w fun e w' => e = .returned (.bool (rngB n lo hi)) ∧ w = w' := by
  by_cases h : lo ≤ n
  · by_cases k : n ≤ hi
    · rw [rngB_iff.2 ⟨h, k⟩]
      go_enter Try.func78, Try.ntmps78
      go_wp2
      go_ret
      exact ⟨rfl, rfl⟩
    · rw [rngB_not.2 (fun x => k x.2)]
      have k' : decide (n ≤ hi) = false := decide_eq_false k
      clear k
      go_enter Try.func78, Try.ntmps78
      go_wp2
      go_ret
      exact ⟨rfl, rfl⟩
  · rw [rngB_not.2 (fun x => h x.1)]
    go_enter Try.func78, Try.ntmps78
    go_wp2
    go_ret
    exact ⟨rfl, rfl⟩
theorem rfinr_any (n lo hi : Int) (w : World) :
    Calls Try.prog 47 #[.int .i64 n, .int .i64 lo, .int .i64 hi] w fun e w' => e = .returned (.bool (rngB n lo hi)) ∧ w = w' := by
  by_cases h : lo ≤ n
  · by_cases k : n ≤ hi
    · rw [rngB_iff.2 ⟨h, k⟩]
      go_enter Try.func47, Try.ntmps47
      go_wp2
      go_ret
      exact ⟨rfl, rfl⟩
    · rw [rngB_not.2 (fun x => k x.2)]
      have k' : decide (n ≤ hi) = false := decide_eq_false k
      clear k
      go_enter Try.func47, Try.ntmps47
      go_wp2
      go_ret
      exact ⟨rfl, rfl⟩
  · rw [rngB_not.2 (fun x => h x.1)]
    go_enter Try.func47, Try.ntmps47
    go_wp2
    go_ret
    exact ⟨rfl, rfl⟩
theorem inP_rng (a : P3) (L : Int) : inP L a = (rngB a.1 (-L) L && rngB a.2.1 (-L) L && rngB a.2.2 (-L) L) := by
  unfold inP rngB
  rw [Bool.eq_iff_iff]
  simp only [decide_eq_true_eq, Bool.and_eq_true]
  constructor
  · rintro ⟨h1, h2, h3, h4, h5, h6⟩; exact ⟨⟨⟨h1, h2⟩, ⟨h3, h4⟩⟩, ⟨h5, h6⟩⟩
  · rintro ⟨⟨⟨h1, h2⟩, ⟨h3, h4⟩⟩, ⟨h5, h6⟩⟩; exact ⟨h1, h2, h3, h4, h5, h6⟩
end Go.Proofs.Ytjigcgpcglfjfaa
namespace Go.Proofs.Ytjigcgpcglfjfaa
open Go.ChangeShapes Go.WideShapes Go.RowKit
open Sh
attribute [local go_sem 1000000] run_min_mn run_max_mx
/-- the size of a number, as the program's negation has it -/
def szI (n : Int) : Int := Sp.mx n (wrap64 (-n))
theorem szI_le {n L : Int} (h0 : 0 ≤ L) (hL : L ≤ 4611686018427387904) : (szI n ≤ L ∧ -L ≤ n) ↔ (-L ≤ n ∧ n ≤ L) := by
  unfold szI Sp.mx
  constructor
  · rintro ⟨h, k⟩
    refine ⟨k, ?_⟩
    split at h <;> omega
  · rintro ⟨h, k⟩
    refine ⟨?_, h⟩
    have e : wrap64 (-n) = -n := IntWalk.wrap64_in _ (by omega)
    rw [e]
    split <;> omega
theorem szI_abs {n : Int} (h : -4611686018427387904 ≤ n ∧ n ≤ 4611686018427387904) : szI n = absI n := by
  unfold szI Sp.mx absI
  have e : wrap64 (-n) = -n := IntWalk.wrap64_in _ (by omega)
  rw [e]
  split <;> split <;> omega
theorem inP_sz (a : P3) (L : Int) (h0 : 0 ≤ L) (hL : L ≤ 4611686018427387904) : inP L a = (decide (szI a.1 ≤ L) && decide (szI a.2.1 ≤ L) && decide (szI a.2.2 ≤ L) && decide (-L ≤ a.1) && decide (-L ≤ a.2.1) && decide (-L ≤ a.2.2)) := by
  have x := szI_le (n := a.1) h0 hL
  have y := szI_le (n := a.2.1) h0 hL
  have z := szI_le (n := a.2.2) h0 hL
  unfold inP
  rw [Bool.eq_iff_iff]
  simp only [decide_eq_true_eq, Bool.and_eq_true]
  constructor
  · rintro ⟨h1, h2, h3, h4, h5, h6⟩
    exact ⟨⟨⟨⟨⟨(x.2 ⟨h1, h2⟩).1, (y.2 ⟨h3, h4⟩).1⟩, (z.2 ⟨h5, h6⟩).1⟩, h1⟩, h3⟩, h5⟩
  · rintro ⟨⟨⟨⟨⟨h1, h2⟩, h3⟩, h4⟩, h5⟩, h6⟩
    exact ⟨h4, (x.1 ⟨h1, h4⟩).2, h5, (y.1 ⟨h2, h5⟩).2, h6, (z.1 ⟨h3, h6⟩).2⟩
end Go.Proofs.Ytjigcgpcglfjfaa
namespace Go.Proofs.Ytjigcgpcglfjfaa
open Go.ChangeShapes Go.WideShapes Go.RowKit
open Sh
/-- moments as a value, and their block -/
abbrev mov (m : Mo) : Value := .agg #[.int .i64 m.c, .int .i64 m.t, .int .i64 m.d.1, .int .i64 m.d.2.1, .int .i64 m.d.2.2, .int .i64 m.s0, .int .i64 m.s1, .int .i64 m.s2, .int .i64 m.s3, .int .i64 m.s4, .int .i64 m.s5]
abbrev mob (m : Mo) (t : TypeId) : Obj := .cells #[.int .i64 m.c, .int .i64 m.t, .int .i64 m.d.1, .int .i64 m.d.2.1, .int .i64 m.d.2.2, .int .i64 m.s0, .int .i64 m.s1, .int .i64 m.s2, .int .i64 m.s3, .int .i64 m.s4, .int .i64 m.s5] t
/-- block b is the call's own moments, and may be written -/
def OwnMo (w : World) (b : Nat) (m : Mo) : Prop :=
  (w.cell? ⟨b, 0, none⟩ = some (.int .i64 m.c) ∧ w.cell? ⟨b, 1, none⟩ = some (.int .i64 m.t) ∧ w.cell? ⟨b, 2, none⟩ = some (.int .i64 m.d.1) ∧ w.cell? ⟨b, 3, none⟩ = some (.int .i64 m.d.2.1) ∧ w.cell? ⟨b, 4, none⟩ = some (.int .i64 m.d.2.2) ∧ w.cell? ⟨b, 5, none⟩ = some (.int .i64 m.s0) ∧ w.cell? ⟨b, 6, none⟩ = some (.int .i64 m.s1) ∧ w.cell? ⟨b, 7, none⟩ = some (.int .i64 m.s2) ∧ w.cell? ⟨b, 8, none⟩ = some (.int .i64 m.s3) ∧ w.cell? ⟨b, 9, none⟩ = some (.int .i64 m.s4) ∧ w.cell? ⟨b, 10, none⟩ = some (.int .i64 m.s5)) ∧ (w.frozen? ⟨b, 0, none⟩ = false ∧ w.frozen? ⟨b, 1, none⟩ = false ∧ w.frozen? ⟨b, 2, none⟩ = false ∧ w.frozen? ⟨b, 3, none⟩ = false ∧ w.frozen? ⟨b, 4, none⟩ = false ∧ w.frozen? ⟨b, 5, none⟩ = false ∧ w.frozen? ⟨b, 6, none⟩ = false ∧ w.frozen? ⟨b, 7, none⟩ = false ∧ w.frozen? ⟨b, 8, none⟩ = false ∧ w.frozen? ⟨b, 9, none⟩ = false ∧ w.frozen? ⟨b, 10, none⟩ = false) ∧ b < w.heap.size
theorem ownMo_new (w : World) (m : Mo) (t : TypeId) : OwnMo (w.alloc (mob m t)) w.heap.size m := ⟨⟨by go_simp, by go_simp, by go_simp, by go_simp, by go_simp, by go_simp, by go_simp, by go_simp, by go_simp, by go_simp, by go_simp⟩, ⟨by go_simp, by go_simp, by go_simp, by go_simp, by go_simp, by go_simp, by go_simp, by go_simp, by go_simp, by go_simp, by go_simp⟩, by simp⟩
theorem ownMo_below {w w1 : World} {b : Nat} {m : Mo} (h : OwnMo w b m) (hb : Below w.heap.size w w1) : OwnMo w1 b m := by
  obtain ⟨⟨h0, h1, h2, h3, h4, h5, h6, h7, h8, h9, h10⟩, ⟨f0, f1, f2, f3, f4, f5, f6, f7, f8, f9, f10⟩, l⟩ := h
  exact ⟨⟨(hb.cell (p := ⟨b, 0, none⟩) l).trans h0, (hb.cell (p := ⟨b, 1, none⟩) l).trans h1, (hb.cell (p := ⟨b, 2, none⟩) l).trans h2, (hb.cell (p := ⟨b, 3, none⟩) l).trans h3, (hb.cell (p := ⟨b, 4, none⟩) l).trans h4, (hb.cell (p := ⟨b, 5, none⟩) l).trans h5, (hb.cell (p := ⟨b, 6, none⟩) l).trans h6, (hb.cell (p := ⟨b, 7, none⟩) l).trans h7, (hb.cell (p := ⟨b, 8, none⟩) l).trans h8, (hb.cell (p := ⟨b, 9, none⟩) l).trans h9, (hb.cell (p := ⟨b, 10, none⟩) l).trans h10⟩, ⟨(hb.frozen (p := ⟨b, 0, none⟩) l).trans f0, (hb.frozen (p := ⟨b, 1, none⟩) l).trans f1, (hb.frozen (p := ⟨b, 2, none⟩) l).trans f2, (hb.frozen (p := ⟨b, 3, none⟩) l).trans f3, (hb.frozen (p := ⟨b, 4, none⟩) l).trans f4, (hb.frozen (p := ⟨b, 5, none⟩) l).trans f5, (hb.frozen (p := ⟨b, 6, none⟩) l).trans f6, (hb.frozen (p := ⟨b, 7, none⟩) l).trans f7, (hb.frozen (p := ⟨b, 8, none⟩) l).trans f8, (hb.frozen (p := ⟨b, 9, none⟩) l).trans f9, (hb.frozen (p := ⟨b, 10, none⟩) l).trans f10⟩, Nat.lt_of_lt_of_le l hb.size⟩
theorem ownMo_alloc {w : World} {b : Nat} {m : Mo} (h : OwnMo w b m) (o : Obj) : OwnMo (w.alloc o) b m := ownMo_below h ((Below.refl _ _).alloc (Nat.le_refl _) _)
theorem ownMo_drew {w : World} {b : Nat} {m : Mo} (h : OwnMo w b m) : OwnMo w.drew b m := h
theorem ownMo_cells {w : World} {b : Nat} {m : Mo} (h : OwnMo w b m) : w.cell? ⟨b, 0, none⟩ = some (.int .i64 m.c) ∧ w.cell? ⟨b, 1, none⟩ = some (.int .i64 m.t) ∧ w.cell? ⟨b, 2, none⟩ = some (.int .i64 m.d.1) ∧ w.cell? ⟨b, 3, none⟩ = some (.int .i64 m.d.2.1) ∧ w.cell? ⟨b, 4, none⟩ = some (.int .i64 m.d.2.2) ∧ w.cell? ⟨b, 5, none⟩ = some (.int .i64 m.s0) ∧ w.cell? ⟨b, 6, none⟩ = some (.int .i64 m.s1) ∧ w.cell? ⟨b, 7, none⟩ = some (.int .i64 m.s2) ∧ w.cell? ⟨b, 8, none⟩ = some (.int .i64 m.s3) ∧ w.cell? ⟨b, 9, none⟩ = some (.int .i64 m.s4) ∧ w.cell? ⟨b, 10, none⟩ = some (.int .i64 m.s5) := h.1
/-- what Validate answers -/
def MVal (m : Mo) (w : World) (e : Ending) (w' : World) : Prop := e = .returned (.int .i64 (mcode m)) ∧ Below w.heap.size w w'
theorem mval_no {m : Mo} {w w' : World} (h : ¬ mok m) (hb : Below w.heap.size w w') : MVal m w (.returned (.int .i64 1)) w' := ⟨by rw [mcode_not h], hb⟩
theorem mval_yes {m : Mo} {w w' : World} (h : mok m) (hb : Below w.heap.size w w') : MVal m w (.returned (.int .i64 0)) w' := ⟨by rw [mcode_mok h], hb⟩
theorem rng_t {m : Mo} (h : rngB m.t 0 1048576 = false) : ¬ mok m := fun x => rngB_not.1 h x.1
theorem rng_c {m : Mo} (h : rngB m.c (-m.t) m.t = false) : ¬ mok m := fun x => rngB_not.1 h x.2.1
theorem rng_d1 {m : Mo} (h : rngB m.d.1 (-1073741824) 1073741824 = false) : ¬ mok m := fun x => rngB_not.1 h (cor1 x.2.2.1)
theorem rng_d2 {m : Mo} (h : rngB m.d.2.1 (-1073741824) 1073741824 = false) : ¬ mok m := fun x => rngB_not.1 h (cor2 x.2.2.1)
theorem rng_d3 {m : Mo} (h : rngB m.d.2.2 (-1073741824) 1073741824 = false) : ¬ mok m := fun x => rngB_not.1 h (cor3 x.2.2.1)
theorem rng_s0 {m : Mo} (h : rngB m.s0 (-17179869184) 17179869184 = false) : ¬ mok m := fun x => rngB_not.1 h x.2.2.2.1
theorem rng_s1 {m : Mo} (h : rngB m.s1 (-17179869184) 17179869184 = false) : ¬ mok m := fun x => rngB_not.1 h x.2.2.2.2.1
theorem rng_s2 {m : Mo} (h : rngB m.s2 (-17179869184) 17179869184 = false) : ¬ mok m := fun x => rngB_not.1 h x.2.2.2.2.2.1
theorem rng_s3 {m : Mo} (h : rngB m.s3 (-17179869184) 17179869184 = false) : ¬ mok m := fun x => rngB_not.1 h x.2.2.2.2.2.2.1
theorem rng_s4 {m : Mo} (h : rngB m.s4 (-17179869184) 17179869184 = false) : ¬ mok m := fun x => rngB_not.1 h x.2.2.2.2.2.2.2.1
theorem rng_s5 {m : Mo} (h : rngB m.s5 (-17179869184) 17179869184 = false) : ¬ mok m := fun x => rngB_not.1 h x.2.2.2.2.2.2.2.2
theorem rng_all {m : Mo} (h0 : rngB m.t 0 1048576 = true) (h1 : rngB m.c (-m.t) m.t = true) (h2 : rngB m.d.1 (-1073741824) 1073741824 = true) (h3 : rngB m.d.2.1 (-1073741824) 1073741824 = true) (h4 : rngB m.d.2.2 (-1073741824) 1073741824 = true) (h5 : rngB m.s0 (-17179869184) 17179869184 = true) (h6 : rngB m.s1 (-17179869184) 17179869184 = true) (h7 : rngB m.s2 (-17179869184) 17179869184 = true) (h8 : rngB m.s3 (-17179869184) 17179869184 = true) (h9 : rngB m.s4 (-17179869184) 17179869184 = true) (h10 : rngB m.s5 (-17179869184) 17179869184 = true) : mok m := by
  have a := rngB_iff.1 h2
  have b := rngB_iff.1 h3
  have c := rngB_iff.1 h4
  exact ⟨rngB_iff.1 h0, rngB_iff.1 h1, ⟨a.1, a.2, b.1, b.2, c.1, c.2⟩, rngB_iff.1 h5, rngB_iff.1 h6, rngB_iff.1 h7, rngB_iff.1 h8, rngB_iff.1 h9, rngB_iff.1 h10⟩
end Go.Proofs.Ytjigcgpcglfjfaa
namespace Go.Proofs.Ytjigcgpcglfjfaa
open Go.ChangeShapes Go.WideShapes Go.RowKit
open Sh
end Go.Proofs.Ytjigcgpcglfjfaa
namespace Go.Proofs.Ytjigcgpcglfjfaa
open Go.ChangeShapes Go.WideShapes Go.RowKit
open Sh
/-- a charged panel as a value, and its block -/
abbrev chv (q : Ch) : Value := .agg #[.int .i64 q.1.1.1, .int .i64 q.1.1.2.1, .int .i64 q.1.1.2.2, .int .i64 q.1.2.1.1, .int .i64 q.1.2.1.2.1, .int .i64 q.1.2.1.2.2, .int .i64 q.1.2.2.1, .int .i64 q.1.2.2.2.1, .int .i64 q.1.2.2.2.2, .int .i64 q.2]
abbrev chb (q : Ch) (t : TypeId) : Obj := .cells #[.int .i64 q.1.1.1, .int .i64 q.1.1.2.1, .int .i64 q.1.1.2.2, .int .i64 q.1.2.1.1, .int .i64 q.1.2.1.2.1, .int .i64 q.1.2.1.2.2, .int .i64 q.1.2.2.1, .int .i64 q.1.2.2.2.1, .int .i64 q.1.2.2.2.2, .int .i64 q.2] t
/-- n charged panels in memory, from off on -/
def RowC (w : World) (b off n : Nat) (Q : Nat → Ch) : Prop :=
  b < w.heap.size ∧ ∀ k, k < n → w.cell? ⟨b, off + k * 10, none⟩ = some (.int .i64 (Q k).1.1.1) ∧ w.cell? ⟨b, off + k * 10 + 1, none⟩ = some (.int .i64 (Q k).1.1.2.1) ∧ w.cell? ⟨b, off + k * 10 + 2, none⟩ = some (.int .i64 (Q k).1.1.2.2) ∧ w.cell? ⟨b, off + k * 10 + 3, none⟩ = some (.int .i64 (Q k).1.2.1.1) ∧ w.cell? ⟨b, off + k * 10 + 4, none⟩ = some (.int .i64 (Q k).1.2.1.2.1) ∧ w.cell? ⟨b, off + k * 10 + 5, none⟩ = some (.int .i64 (Q k).1.2.1.2.2) ∧ w.cell? ⟨b, off + k * 10 + 6, none⟩ = some (.int .i64 (Q k).1.2.2.1) ∧ w.cell? ⟨b, off + k * 10 + 7, none⟩ = some (.int .i64 (Q k).1.2.2.2.1) ∧ w.cell? ⟨b, off + k * 10 + 8, none⟩ = some (.int .i64 (Q k).1.2.2.2.2) ∧ w.cell? ⟨b, off + k * 10 + 9, none⟩ = some (.int .i64 (Q k).2)
theorem rowC_in {w wr : World} {B b off n : Nat} {Q : Nat → Ch} (r : RowC w b off n Q) (hb : Below B w wr) (h : b < B) : RowC wr b off n Q := by
  refine ⟨Nat.lt_of_lt_of_le r.1 hb.size, fun k hk => ?_⟩
  obtain ⟨h0, h1, h2, h3, h4, h5, h6, h7, h8, h9⟩ := r.2 k hk
  exact ⟨(hb.cell (p := ⟨b, _, none⟩) h).trans h0, (hb.cell (p := ⟨b, _, none⟩) h).trans h1, (hb.cell (p := ⟨b, _, none⟩) h).trans h2, (hb.cell (p := ⟨b, _, none⟩) h).trans h3, (hb.cell (p := ⟨b, _, none⟩) h).trans h4, (hb.cell (p := ⟨b, _, none⟩) h).trans h5, (hb.cell (p := ⟨b, _, none⟩) h).trans h6, (hb.cell (p := ⟨b, _, none⟩) h).trans h7, (hb.cell (p := ⟨b, _, none⟩) h).trans h8, (hb.cell (p := ⟨b, _, none⟩) h).trans h9⟩
theorem rowC_below {w w1 : World} {b off n : Nat} {Q : Nat → Ch} (r : RowC w b off n Q) (hb : Below w.heap.size w w1) : RowC w1 b off n Q := rowC_in r hb r.1
/-- a list of charged panels; of none nothing is known -/
def LstC (w : World) (a : Option Addr) (n : Nat) (Q : Nat → Ch) : Prop := 0 < n → ∃ b off, a = some ⟨b, off, none⟩ ∧ RowC w b off n Q
theorem lstC_below {w w1 : World} {a : Option Addr} {n : Nat} {Q : Nat → Ch} (h : LstC w a n Q) (hb : Below w.heap.size w w1) : LstC w1 a n Q := fun h0 => by
  obtain ⟨b, off, e, r⟩ := h h0
  exact ⟨b, off, e, rowC_below r hb⟩
theorem lstC_in {w wr : World} {a : Option Addr} {n : Nat} {Q : Nat → Ch} (h : LstC w a n Q) (hb : Below w.heap.size w wr) : LstC wr a n Q := lstC_below h hb
/-- block b is the call's own charged panel -/
def OwnCh (w : World) (b : Nat) (q : Ch) : Prop := (w.cell? ⟨b, 0, none⟩ = some (.int .i64 q.1.1.1) ∧ w.cell? ⟨b, 1, none⟩ = some (.int .i64 q.1.1.2.1) ∧ w.cell? ⟨b, 2, none⟩ = some (.int .i64 q.1.1.2.2) ∧ w.cell? ⟨b, 3, none⟩ = some (.int .i64 q.1.2.1.1) ∧ w.cell? ⟨b, 4, none⟩ = some (.int .i64 q.1.2.1.2.1) ∧ w.cell? ⟨b, 5, none⟩ = some (.int .i64 q.1.2.1.2.2) ∧ w.cell? ⟨b, 6, none⟩ = some (.int .i64 q.1.2.2.1) ∧ w.cell? ⟨b, 7, none⟩ = some (.int .i64 q.1.2.2.2.1) ∧ w.cell? ⟨b, 8, none⟩ = some (.int .i64 q.1.2.2.2.2) ∧ w.cell? ⟨b, 9, none⟩ = some (.int .i64 q.2)) ∧ b < w.heap.size
theorem ownCh_new (w : World) (q : Ch) (t : TypeId) : OwnCh (w.alloc (chb q t)) w.heap.size q := ⟨⟨by go_simp, by go_simp, by go_simp, by go_simp, by go_simp, by go_simp, by go_simp, by go_simp, by go_simp, by go_simp⟩, by simp⟩
theorem ownCh_below {w w1 : World} {b : Nat} {q : Ch} (h : OwnCh w b q) (hb : Below w.heap.size w w1) : OwnCh w1 b q := by
  obtain ⟨⟨h0, h1, h2, h3, h4, h5, h6, h7, h8, h9⟩, l⟩ := h
  exact ⟨⟨(hb.cell (p := ⟨b, 0, none⟩) l).trans h0, (hb.cell (p := ⟨b, 1, none⟩) l).trans h1, (hb.cell (p := ⟨b, 2, none⟩) l).trans h2, (hb.cell (p := ⟨b, 3, none⟩) l).trans h3, (hb.cell (p := ⟨b, 4, none⟩) l).trans h4, (hb.cell (p := ⟨b, 5, none⟩) l).trans h5, (hb.cell (p := ⟨b, 6, none⟩) l).trans h6, (hb.cell (p := ⟨b, 7, none⟩) l).trans h7, (hb.cell (p := ⟨b, 8, none⟩) l).trans h8, (hb.cell (p := ⟨b, 9, none⟩) l).trans h9⟩, Nat.lt_of_lt_of_le l hb.size⟩
theorem ownCh_alloc {w : World} {b : Nat} {q : Ch} (h : OwnCh w b q) (o : Obj) : OwnCh (w.alloc o) b q := ownCh_below h ((Below.refl _ _).alloc (Nat.le_refl _) _)
theorem int_ne0 {x : Int} (h : x ≠ 0) : (x != 0) = true := bne_iff_ne.2 h
theorem fvc_big (a : Option Addr) (n cap : Nat) (w : World) (h : 96 < n) (hn : n ≤ 140737488355328) :
    Calls Try.prog 61 #[.slice a n cap] w fun e w' => e = .returned (.int .i64 4) ∧ Below w.heap.size w w' := by
  go_enter Try.func61, Try.ntmps61
  go_wp2
  go_ret
  exact ⟨rfl, Below.refl _ _⟩
theorem fvc_zero (a : Option Addr) (cap : Nat) (w : World) :
    Calls Try.prog 61 #[.slice a 0 cap] w fun e w' => e = .returned (.int .i64 0) ∧ Below w.heap.size w w' := by
  go_enter Try.func61, Try.ntmps61
  go_wp2
  refine wp_loop_rounds 1 ?_
  rw [rounds_succ]
  go_wp2
  go_ret
  exact ⟨rfl, Below.refl _ _⟩
set_option maxRecDepth 100000 in
set_option maxHeartbeats 2000000 in
theorem fvc_row (b off n cap : Nat) (Q : Nat → Ch) (w : World) (r : RowC w b off n Q) (hn : n ≤ 96) :
    Calls Try.prog 61 #[.slice (some ⟨b, off, none⟩) n cap] w fun e w' => e = .returned (.int .i64 (chcodes Q n)) ∧ Below w.heap.size w w' := by
  have hb1 : b < w.heap.size := r.1
  have R := Lib.hid r
  have hn' : (n : Int) ≤ 96 := by omega
  obtain ⟨res, hres⟩ : ∃ res, chcodes Q n = res := ⟨_, rfl⟩
  have RES := Lib.hid hres
  rw [hres]
  clear r hres
  go_enter Try.func61, Try.ntmps61
  go_wp2
  go_loopw [11] (fun kv wr => ∃ k : Nat, k ≤ n ∧ kv = .int .i64 k ∧ chcodes Q k = 0 ∧ Below w.heap.size w wr) (fun kv _ => n - (intOf kv).toNat)
  case atStart => exact ⟨0, Nat.zero_le _, rfl, rfl, Below.refl _ _⟩
  case round =>
    obtain ⟨k, hk, rfl, good, BB⟩ := hrel
    have GOOD := Lib.hid good
    have B0 := Lib.hid BB
    clear good BB
    by_cases hlt : k < n
    · have r2 := rowC_in R.out B0.out hb1
      obtain ⟨c0, c1, c2, c3, c4, c5, c6, c7, c8, c9⟩ := r2.2 k hlt
      have r5 := r2.1
      clear r2
      have hk1 : (k : Int) < (n : Int) := by omega
      have HIT := Lib.hid (fun h : chcode (Q k) ≠ 0 => chcodes_hit hlt GOOD.out h)
      have NEXT := Lib.hid (fun h : chcode (Q k) = 0 => chcodes_next GOOD.out h)
      obtain ⟨q, hq⟩ : ∃ q, Q k = q := ⟨_, rfl⟩
      rw [hq] at c0 c1 c2 c3 c4 c5 c6 c7 c8 c9 HIT NEXT
      have QK := Lib.hid hq
      clear hq
      obtain ⟨pc, hpc⟩ : ∃ pc, pcode q.1.1 q.1.2.1 q.1.2.2 = pc := ⟨_, rfl⟩
      have V := Lib.hid (fun W => (hpc ▸ vp_any q.1.1 q.1.2.1 q.1.2.2 W : Calls Try.prog 97 #[pnv q.1.1 q.1.2.1 q.1.2.2] W fun e w' => e = .returned (.int .i64 pc) ∧ Below W.heap.size W w'))
      have PC := Lib.hid hpc
      clear hpc
      by_cases z : pc = 0
      · subst z
        cases hr : rngB q.2 (-100) 100 with
        | false =>
          have I := Lib.hid (fun W => (hr ▸ finr_any q.2 (-100) 100 W : Calls Try.prog 78 #[.int .i64 q.2, .int .i64 (-100), .int .i64 100] W fun e w' => e = .returned (.bool false) ∧ W = w'))
          have E := Lib.hid (chcode_far PC.out hr)
          have hf : res = 1 := by rw [← RES.out, HIT.out (by rw [E.out]; decide), E.out]
          subst hf
          clear hr
          go_wp2_with fail
          refine (V.out _).mono ?_
          rintro e w1 ⟨rfl, hb2⟩
          have r3 := rowC_in R.out (bstep (balloc B0.out _) hb2) hb1
          have own := ownCh_below (ownCh_new wr q 90) hb2
          obtain ⟨⟨d0, d1, d2, d3, d4, d5, d6, d7, d8, d9⟩, dl⟩ := own
          clear c0 c1 c2 c3 c4 c5 c6 c7 c8 c9 r3
          go_wp2_with fail
          refine (I.out _).mono ?_
          rintro e w' ⟨rfl, rfl⟩
          go_wp2
          go_ret
          exact ⟨rfl, by have hB := B0.out; (repeat' (first | exact Below.refl _ _ | refine bstep ?_ hb2 | refine bstep ?_ hB | refine Below.setCell ?_ (by simp <;> omega) _ | refine balloc ?_ _ | refine Below.drew ?_ | refine bdrewN ?_ _))⟩
        | true =>
          have I := Lib.hid (fun W => (hr ▸ finr_any q.2 (-100) 100 W : Calls Try.prog 78 #[.int .i64 q.2, .int .i64 (-100), .int .i64 100] W fun e w' => e = .returned (.bool true) ∧ W = w'))
          have E := Lib.hid (chcode_ok PC.out hr)
          clear hr
          go_wp2_with fail
          refine (V.out _).mono ?_
          rintro e w1 ⟨rfl, hb2⟩
          have r3 := rowC_in R.out (bstep (balloc B0.out _) hb2) hb1
          have own := ownCh_below (ownCh_new wr q 90) hb2
          obtain ⟨⟨d0, d1, d2, d3, d4, d5, d6, d7, d8, d9⟩, dl⟩ := own
          clear c0 c1 c2 c3 c4 c5 c6 c7 c8 c9 r3
          go_wp2_with fail
          refine (I.out _).mono ?_
          rintro e w' ⟨rfl, rfl⟩
          go_wp2
          go_roundw
          case rel => exact ⟨k + 1, by omega, by go_num, NEXT.out E.out, by have hB := B0.out; (repeat' (first | exact Below.refl _ _ | refine bstep ?_ hb2 | refine bstep ?_ hB | refine Below.setCell ?_ (by simp <;> omega) _ | refine balloc ?_ _ | refine Below.drew ?_ | refine bdrewN ?_ _))⟩
          case measure => simp [intOf]; omega
      · have z1 := int_ne0 z
        have hf : res = pc := by rw [← RES.out, HIT.out (by rw [chcode_panel (by rw [PC.out]; exact z), PC.out]; exact z), chcode_panel (by rw [PC.out]; exact z), PC.out]
        subst hf
        clear z
        go_wp2_with fail
        refine (V.out _).mono ?_
        rintro e w1 ⟨rfl, hb2⟩
        go_wp2
        go_ret
        exact ⟨rfl, by have hB := B0.out; (repeat' (first | exact Below.refl _ _ | refine bstep ?_ hb2 | refine bstep ?_ hB | refine Below.setCell ?_ (by simp <;> omega) _ | refine balloc ?_ _ | refine Below.drew ?_ | refine bdrewN ?_ _))⟩
    · obtain rfl : k = n := by omega
      have hf : res = 0 := by rw [← RES.out, GOOD.out]
      subst hf
      go_wp2
      go_ret
      exact ⟨rfl, B0.out⟩
theorem fvc_any (a : Option Addr) (n cap : Nat) (Q : Nat → Ch) (w : World) (r : LstC w a n Q) (hn : n ≤ 140737488355328) :
    Calls Try.prog 61 #[.slice a n cap] w fun e w' => e = .returned (.int .i64 (ccode n Q)) ∧ Below w.heap.size w w' := by
  unfold ccode
  by_cases h : 96 < n
  · rw [if_pos h]; exact fvc_big a n cap w h hn
  · rw [if_neg h]
    by_cases h0 : n = 0
    · subst h0; exact fvc_zero a cap w
    · obtain ⟨b, off, rfl, rr⟩ := r (by omega)
      exact fvc_row b off n cap Q w rr (by omega)
end Go.Proofs.Ytjigcgpcglfjfaa
