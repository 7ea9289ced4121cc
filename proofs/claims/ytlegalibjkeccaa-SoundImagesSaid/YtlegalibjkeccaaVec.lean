/-
  The contracts of the words on points: sums, differences, products, normals, limits; in the program and in the document's answer.
-/
import Derived.Test.YtlegalibjkeccaaBase
import Derived.Test.YtlegalibjkeccaaPts
import Derived.Deep.RegionHeld3
import Derived.LoopTactic
namespace Go.Proofs.Ytlegalibjkeccaa
open Go.ChangeShapes Go.WideShapes Go.RowKit
open Sh
/-- a point as a value, and a panel -/
abbrev ptv (a : P3) : Value := .agg #[.int .i64 a.1, .int .i64 a.2.1, .int .i64 a.2.2]
abbrev pnv (a b c : P3) : Value := .agg #[.int .i64 a.1, .int .i64 a.2.1, .int .i64 a.2.2, .int .i64 b.1, .int .i64 b.2.1, .int .i64 b.2.2, .int .i64 c.1, .int .i64 c.2.1, .int .i64 c.2.2]
abbrev ptc (a : P3) (t : TypeId) : Obj := .cells #[.int .i64 a.1, .int .i64 a.2.1, .int .i64 a.2.2] t
abbrev pnc (a b c : P3) (t : TypeId) : Obj := .cells #[.int .i64 a.1, .int .i64 a.2.1, .int .i64 a.2.2, .int .i64 b.1, .int .i64 b.2.1, .int .i64 b.2.2, .int .i64 c.1, .int .i64 c.2.1, .int .i64 c.2.2] t
theorem results_cell {fn : Func} {p : Tmp} {ty : TypeId} (h : fn.results = #[.cell p ty]) (tmps : Array Value) (P : Program) (w : World) :
    (results fn tmps).run P w =
      ((asAddr (tmps.getD p undef)).run P w).andThen fun a w₁ => (loadVar ty a).run P w₁ := by
  simp only [results, h]
  simp [Sem.run_bind, Result.andThen]
/-- block b holds the point, from off on -/
def Tri (w : World) (b off : Nat) (a : P3) : Prop :=
  w.cell? ⟨b, off, none⟩ = some (.int .i64 a.1) ∧ w.cell? ⟨b, off + 1, none⟩ = some (.int .i64 a.2.1) ∧ w.cell? ⟨b, off + 1 + 1, none⟩ = some (.int .i64 a.2.2) ∧ b < w.heap.size
theorem tri_below {w w1 : World} {b off : Nat} {a : P3} (h : Tri w b off a) (hb : Below w.heap.size w w1) : Tri w1 b off a := by
  obtain ⟨h1, h2, h3, h5⟩ := h
  exact ⟨(hb.cell (p := ⟨b, off, none⟩) h5).trans h1, (hb.cell (p := ⟨b, off + 1, none⟩) h5).trans h2, (hb.cell (p := ⟨b, off + 1 + 1, none⟩) h5).trans h3, Nat.lt_of_lt_of_le h5 hb.size⟩
theorem tri_alloc {w : World} {b off : Nat} {a : P3} (h : Tri w b off a) (o : Obj) : Tri (w.alloc o) b off a := tri_below h ((Below.refl _ _).alloc (Nat.le_refl _) _)
/-- block b is the call's own point, and may be written -/
def Own (w : World) (b : Nat) (a : P3) : Prop :=
  w.cell? ⟨b, 0, none⟩ = some (.int .i64 a.1) ∧ w.cell? ⟨b, 1, none⟩ = some (.int .i64 a.2.1) ∧ w.cell? ⟨b, 2, none⟩ = some (.int .i64 a.2.2) ∧ w.frozen? ⟨b, 0, none⟩ = false ∧ w.frozen? ⟨b, 1, none⟩ = false ∧ w.frozen? ⟨b, 2, none⟩ = false ∧ b < w.heap.size
theorem own_new (w : World) (a : P3) (t : TypeId) : Own (w.alloc (ptc a t)) w.heap.size a := ⟨by go_simp, by go_simp, by go_simp, by go_simp, by go_simp, by go_simp, by simp⟩
theorem own_below {w w1 : World} {b : Nat} {a : P3} (h : Own w b a) (hb : Below w.heap.size w w1) : Own w1 b a := by
  obtain ⟨h1, h2, h3, h4, h5, h6, h7⟩ := h
  exact ⟨(hb.cell (p := ⟨b, 0, none⟩) h7).trans h1, (hb.cell (p := ⟨b, 1, none⟩) h7).trans h2, (hb.cell (p := ⟨b, 2, none⟩) h7).trans h3, (hb.frozen (p := ⟨b, 0, none⟩) h7).trans h4, (hb.frozen (p := ⟨b, 1, none⟩) h7).trans h5, (hb.frozen (p := ⟨b, 2, none⟩) h7).trans h6, Nat.lt_of_lt_of_le h7 hb.size⟩
theorem own_alloc {w : World} {b : Nat} {a : P3} (h : Own w b a) (o : Obj) : Own (w.alloc o) b a := own_below h ((Below.refl _ _).alloc (Nat.le_refl _) _)
theorem own_drew {w : World} {b : Nat} {a : P3} (h : Own w b a) : Own w.drew b a := h
theorem keep2 {a b c d e f : Prop} (h : a ∧ b ∧ c) (k : d ∧ e ∧ f) : a ∧ b ∧ c ∧ d ∧ e ∧ f := ⟨h.1, h.2.1, h.2.2, k⟩
/-- block b holds the panel -/
def Pan (w : World) (q : Nat) (a b c : P3) : Prop :=
  w.cell? ⟨q, 0, none⟩ = some (.int .i64 a.1) ∧ w.cell? ⟨q, 1, none⟩ = some (.int .i64 a.2.1) ∧ w.cell? ⟨q, 2, none⟩ = some (.int .i64 a.2.2) ∧
  w.cell? ⟨q, 3, none⟩ = some (.int .i64 b.1) ∧ w.cell? ⟨q, 4, none⟩ = some (.int .i64 b.2.1) ∧ w.cell? ⟨q, 5, none⟩ = some (.int .i64 b.2.2) ∧
  w.cell? ⟨q, 6, none⟩ = some (.int .i64 c.1) ∧ w.cell? ⟨q, 7, none⟩ = some (.int .i64 c.2.1) ∧ w.cell? ⟨q, 8, none⟩ = some (.int .i64 c.2.2) ∧ q < w.heap.size
theorem pan_new (w : World) (a b c : P3) (t : TypeId) : Pan (w.alloc (pnc a b c t)) w.heap.size a b c :=
  ⟨by go_simp, by go_simp, by go_simp, by go_simp, by go_simp, by go_simp, by go_simp, by go_simp, by go_simp, by simp⟩
theorem pan_below {w w1 : World} {q : Nat} {a b c : P3} (h : Pan w q a b c) (hb : Below w.heap.size w w1) : Pan w1 q a b c := by
  obtain ⟨h1, h2, h3, h4, h5, h6, h7, h8, h9, hq⟩ := h
  exact ⟨(hb.cell (p := ⟨q, 0, none⟩) hq).trans h1, (hb.cell (p := ⟨q, 1, none⟩) hq).trans h2, (hb.cell (p := ⟨q, 2, none⟩) hq).trans h3, (hb.cell (p := ⟨q, 3, none⟩) hq).trans h4, (hb.cell (p := ⟨q, 4, none⟩) hq).trans h5, (hb.cell (p := ⟨q, 5, none⟩) hq).trans h6, (hb.cell (p := ⟨q, 6, none⟩) hq).trans h7, (hb.cell (p := ⟨q, 7, none⟩) hq).trans h8, (hb.cell (p := ⟨q, 8, none⟩) hq).trans h9, Nat.lt_of_lt_of_le hq hb.size⟩
theorem pan_alloc {w : World} {q : Nat} {a b c : P3} (h : Pan w q a b c) (o : Obj) : Pan (w.alloc o) q a b c := pan_below h ((Below.refl _ _).alloc (Nat.le_refl _) _)
theorem own_cells {w : World} {b : Nat} {a : P3} (h : Own w b a) : w.cell? ⟨b, 0, none⟩ = some (.int .i64 a.1) ∧ w.cell? ⟨b, 1, none⟩ = some (.int .i64 a.2.1) ∧ w.cell? ⟨b, 2, none⟩ = some (.int .i64 a.2.2) := ⟨h.1, h.2.1, h.2.2.1⟩
theorem pan_cells {w : World} {q : Nat} {a b c : P3} (h : Pan w q a b c) : w.cell? ⟨q, 0, none⟩ = some (.int .i64 a.1) ∧ w.cell? ⟨q, 1, none⟩ = some (.int .i64 a.2.1) ∧ w.cell? ⟨q, 2, none⟩ = some (.int .i64 a.2.2) ∧
  w.cell? ⟨q, 3, none⟩ = some (.int .i64 b.1) ∧ w.cell? ⟨q, 4, none⟩ = some (.int .i64 b.2.1) ∧ w.cell? ⟨q, 5, none⟩ = some (.int .i64 b.2.2) ∧
  w.cell? ⟨q, 6, none⟩ = some (.int .i64 c.1) ∧ w.cell? ⟨q, 7, none⟩ = some (.int .i64 c.2.1) ∧ w.cell? ⟨q, 8, none⟩ = some (.int .i64 c.2.2) := by
  obtain ⟨h1, h2, h3, h4, h5, h6, h7, h8, h9, _⟩ := h
  exact ⟨h1, h2, h3, h4, h5, h6, h7, h8, h9⟩
theorem pan_set {w : World} {q r o : Nat} {v : Value} {a b c : P3} (h : Pan w q a b c) (n : q ≠ r) : Pan (w.setCell ⟨r, o, none⟩ v) q a b c := by
  obtain ⟨h1, h2, h3, h4, h5, h6, h7, h8, h9, hq⟩ := h
  have n' : ¬ r = q := fun e => n e.symm
  exact ⟨by go_simp, by go_simp, by go_simp, by go_simp, by go_simp, by go_simp, by go_simp, by go_simp, by go_simp, by simpa using hq⟩
theorem own_set {w : World} {q r o : Nat} {v : Value} {a : P3} (h : Own w q a) (n : q ≠ r) : Own (w.setCell ⟨r, o, none⟩ v) q a := by
  obtain ⟨h1, h2, h3, h4, h5, h6, h7⟩ := h
  have n' : ¬ r = q := fun e => n e.symm
  exact ⟨by go_simp, by go_simp, by go_simp, by go_simp, by go_simp, by go_simp, by simpa using h7⟩
theorem pan_drew {w : World} {q : Nat} {a b c : P3} (h : Pan w q a b c) : Pan w.drew q a b c := h
theorem times_any (k : Int) (a : P3) (w : World) (h : BdP 4611686018427387904 (tim k a)) :
    Calls Try.prog 92 #[.int .i64 k, ptv a] w fun e w' => e = .returned (ptv (tim k a)) ∧ Below w.heap.size w w' := by
  simp only [BdP, tim] at h
  obtain ⟨h1, h2, h3, h4, h5, h6⟩ := h
  go_enter Try.func92, Try.ntmps92
  go_wp2
  refine bodyPost_ret (v := ptv (tim k a)) (by rw [results_cell rfl]; go_simp; exact ⟨rfl, rfl, rfl⟩) rfl ⟨rfl, ?_⟩
  (repeat' (first | exact Below.refl _ _ | refine Below.setCell ?_ (by simp <;> omega) _ | refine balloc ?_ _ | refine Below.drew ?_ | refine bdrewN ?_ _))
theorem plus_any (a b : P3) (w : World) (h : BdP 4611686018427387904 (add a b)) :
    Calls Try.prog 91 #[ptv a, ptv b] w fun e w' => e = .returned (ptv (add a b)) ∧ Below w.heap.size w w' := by
  simp only [BdP, add] at h
  obtain ⟨h1, h2, h3, h4, h5, h6⟩ := h
  go_enter Try.func91, Try.ntmps91
  go_wp2
  refine bodyPost_ret (v := ptv (add a b)) (by rw [results_cell rfl]; go_simp; exact ⟨rfl, rfl, rfl⟩) rfl ⟨rfl, ?_⟩
  (repeat' (first | exact Below.refl _ _ | refine Below.setCell ?_ (by simp <;> omega) _ | refine balloc ?_ _ | refine Below.drew ?_ | refine bdrewN ?_ _))
theorem rminus_any (a b : P3) (w : World) (h : BdP 4611686018427387904 (sub a b)) :
    Calls Try.prog 68 #[ptv a, ptv b] w fun e w' => e = .returned (ptv (sub a b)) ∧ Below w.heap.size w w' := by
  simp only [BdP, sub] at h
  obtain ⟨h1, h2, h3, h4, h5, h6⟩ := h
  go_enter Try.func68, Try.ntmps68
  go_wp2
  refine bodyPost_ret (v := ptv (sub a b)) (by rw [results_cell rfl]; go_simp; exact ⟨rfl, rfl, rfl⟩) rfl ⟨rfl, ?_⟩
  (repeat' (first | exact Below.refl _ _ | refine Below.setCell ?_ (by simp <;> omega) _ | refine balloc ?_ _ | refine Below.drew ?_ | refine bdrewN ?_ _))
theorem mul20 {x y : Int} (h1 : -1048576 ≤ x) (h2 : x ≤ 1048576) (h3 : -1048576 ≤ y) (h4 : y ≤ 1048576) : -1099511627776 ≤ x * y ∧ x * y ≤ 1099511627776 := mul_bd h1 h2 h3 h4
theorem vector_any (a b : P3) (w : World) (h : BdP 1048576 a) (k : BdP 1048576 b) :
    Calls Try.prog 87 #[ptv a, ptv b] w fun e w' => e = .returned (ptv (vec a b)) ∧ Below w.heap.size w w' := by
  obtain ⟨a1, a2, a3, a4, a5, a6⟩ := h
  obtain ⟨b1, b2, b3, b4, b5, b6⟩ := k
  obtain ⟨x1, x2⟩ := mul20 a3 a4 b5 b6
  obtain ⟨x3, x4⟩ := mul20 a5 a6 b3 b4
  obtain ⟨y1, y2⟩ := mul20 a5 a6 b1 b2
  obtain ⟨y3, y4⟩ := mul20 a1 a2 b5 b6
  obtain ⟨z1, z2⟩ := mul20 a1 a2 b3 b4
  obtain ⟨z3, z4⟩ := mul20 a3 a4 b1 b2
  clear a1 a2 a3 a4 a5 a6 b1 b2 b3 b4 b5 b6
  go_enter Try.func87, Try.ntmps87
  go_wp2
  refine bodyPost_ret (v := ptv (vec a b)) (by rw [results_cell rfl]; go_simp; exact ⟨rfl, rfl, rfl⟩) rfl ⟨rfl, ?_⟩
  (repeat' (first | exact Below.refl _ _ | refine Below.setCell ?_ (by simp <;> omega) _ | refine balloc ?_ _ | refine Below.drew ?_ | refine bdrewN ?_ _))
theorem cross_any (a b : P3) (w : World) (h : BdP 1048576 a) (k : BdP 1048576 b) :
    Calls Try.prog 67 #[ptv a, ptv b] w fun e w' => e = .returned (ptv (vec a b)) ∧ Below w.heap.size w w' := by
  obtain ⟨a1, a2, a3, a4, a5, a6⟩ := h
  obtain ⟨b1, b2, b3, b4, b5, b6⟩ := k
  obtain ⟨x1, x2⟩ := mul20 a3 a4 b5 b6
  obtain ⟨x3, x4⟩ := mul20 a5 a6 b3 b4
  obtain ⟨y1, y2⟩ := mul20 a5 a6 b1 b2
  obtain ⟨y3, y4⟩ := mul20 a1 a2 b5 b6
  obtain ⟨z1, z2⟩ := mul20 a1 a2 b3 b4
  obtain ⟨z3, z4⟩ := mul20 a3 a4 b1 b2
  clear a1 a2 a3 a4 a5 a6 b1 b2 b3 b4 b5 b6
  go_enter Try.func67, Try.ntmps67
  go_wp2
  refine bodyPost_ret (v := ptv (vec a b)) (by rw [results_cell rfl]; go_simp; exact ⟨rfl, rfl, rfl⟩) rfl ⟨rfl, ?_⟩
  (repeat' (first | exact Below.refl _ _ | refine Below.setCell ?_ (by simp <;> omega) _ | refine balloc ?_ _ | refine Below.drew ?_ | refine bdrewN ?_ _))
/-- the three products of a scalar product -/
def pw (a b : P3) : P3 := (a.1 * b.1, a.2.1 * b.2.1, a.2.2 * b.2.2)
set_option maxRecDepth 100000 in
theorem minus_any (a b : P3) (w : World) (h : BdP 1152921504606846976 a) (k : BdP 1152921504606846976 b) :
    Calls Try.prog 88 #[ptv a, ptv b] w fun e w' => e = .returned (ptv (sub a b)) ∧ Below w.heap.size w w' := by
  have H1 : Hid (BdP 4611686018427387904 (tim (-1) b)) := Lib.hid (by unfold BdP tim at *; dsimp only; omega)
  have H2 : Hid (BdP 4611686018427387904 (add a (tim (-1) b))) := Lib.hid (by unfold BdP add tim at *; dsimp only; omega)
  rw [← sub_neg]
  have ne0 : ¬ (w.heap.size + 1 + 1 = w.heap.size) := by omega
  have ne1 : ¬ (w.heap.size = w.heap.size + 1 + 1) := by omega
  clear h k
  go_enter Try.func88, Try.ntmps88
  go_wp2_with fail
  have i0 := (own_drew (own_alloc (own_alloc (own_new w a 23) (.cells #[.int .i64 b.1, .int .i64 b.2.1, .int .i64 b.2.2] 23)) (.cells #[.int .i64 0, .int .i64 0, .int .i64 0] 23)))
  have i1 := (own_drew (own_alloc (own_new (w.alloc (.cells #[.int .i64 a.1, .int .i64 a.2.1, .int .i64 a.2.2] 23)) b 23) (.cells #[.int .i64 0, .int .i64 0, .int .i64 0] 23)))
  simp only [World.size_alloc] at i1
  have i2 := (own_drew (own_new ((w.alloc (.cells #[.int .i64 a.1, .int .i64 a.2.1, .int .i64 a.2.2] 23)).alloc (.cells #[.int .i64 b.1, .int .i64 b.2.1, .int .i64 b.2.2] 23)) (0, 0, 0) 23))
  simp only [World.size_alloc] at i2
  go_region_held3 (fun w' => w'.cell? ⟨w.heap.size, 0, none⟩ = some (.int .i64 a.1) ∧ w'.cell? ⟨w.heap.size, 1, none⟩ = some (.int .i64 a.2.1) ∧ w'.cell? ⟨w.heap.size, 2, none⟩ = some (.int .i64 a.2.2) ∧ w'.cell? ⟨w.heap.size + 1, 0, none⟩ = some (.int .i64 b.1) ∧ w'.cell? ⟨w.heap.size + 1, 1, none⟩ = some (.int .i64 b.2.1) ∧ w'.cell? ⟨w.heap.size + 1, 2, none⟩ = some (.int .i64 b.2.2))
    (first | (refine keep2 (own_cells ?_) (own_cells ?_) <;> assumption) | (refine keep2 (own_cells ?_) (own_cells ?_) <;> (refine own_set ?_ (by omega); refine own_set ?_ (by omega); refine own_set ?_ (by omega); assumption)))
    (first | (go_at_call 92; (with_reducible refine (times_any (-1) b _ H1.out).mono ?_); rintro e v0 ⟨rfl, hv0⟩; have q0_0 := own_below i0 hv0; have q0_1 := own_below i1 hv0; have q0_2 := own_below i2 hv0) | (go_at_call 91; (with_reducible refine (plus_any a (tim (-1) b) _ H2.out).mono ?_); rintro e v1 ⟨rfl, hv1⟩; have q1_0 := own_below q0_0 hv1; have q1_1 := own_below q0_1 hv1; have q1_2 := own_below q0_2 hv1; have r1 := q1_2; obtain ⟨x1_0, x1_1, x1_2, x1_3, x1_4, x1_5, x1_6⟩ := r1))
  all_goals
    go_wp2
    refine bodyPost_ret (v := ptv (add a (tim (-1) b))) (by rw [results_cell rfl]; go_simp) rfl ⟨rfl, ?_⟩
    (repeat' (first | exact Below.refl _ _ | refine bstep ?_ hv0 | refine bstep ?_ hv1 | refine Below.setCell ?_ (by simp <;> omega) _ | refine balloc ?_ _ | refine Below.drew ?_ | refine bdrewN ?_ _))

end Go.Proofs.Ytlegalibjkeccaa
