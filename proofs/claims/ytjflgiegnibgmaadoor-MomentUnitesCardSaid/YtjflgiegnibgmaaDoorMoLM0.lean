/-
  The law MomentScales: for all charged panels, centers and numbers it answers true.
-/
import Derived.Test.YtjflgiegnibgmaaDoorMoSa
import Derived.Test.YtjflgiegnibgmaaDoorMoSd
import Derived.Test.YtjflgiegnibgmaaDoorMoApp
namespace Go.Proofs.YtjflgiegnibgmaaDoor
open Go.ChangeShapes Go.WideShapes Go.RowKit
open Sh
theorem ocode_ok2 {n : Nat} {Q : Nat → Ch} {p : P3} (z : ocode n Q p = 0) : n ≤ 96 ∧ inP 64 p = true ∧ chcodes Q n = 0 := by
  have hc : ccode n Q = 0 := by
    unfold ocode at z
    by_cases q : ccode n Q = 0
    · exact q
    · rw [if_neg q] at z; exact absurd z q
  have hp : inP 64 p = true := by
    unfold ocode at z
    rw [if_pos hc] at z
    cases q : inP 64 p with
    | true => rfl
    | false => rw [q] at z; cases z
  have h9 : ¬ 96 < n := fun h => by unfold ccode at hc; rw [if_pos h] at hc; cases hc
  have hq : chcodes Q n = 0 := by unfold ccode at hc; rw [if_neg h9] at hc; exact hc
  exact ⟨by omega, hp, hq⟩
theorem lstC_of {w : World} {base n : Nat} {v : Value} {Q : Nat → Ch} (h : w.ownsRow base 41 10 v n (ccs Q n)) : ∃ ao c, v = .slice ao n c ∧ LstC w ao n Q := by
  rcases Nat.eq_zero_or_pos n with h0 | h0
  · subst h0
    rcases h.2 with ⟨e, _⟩ | ⟨g, cap, cur, e, _⟩
    · exact ⟨none, 0, e, fun h => absurd h (Nat.not_lt_zero 0)⟩
    · exact ⟨some ⟨g, 0, none⟩, cap, e, fun h => absurd h (Nat.not_lt_zero 0)⟩
  · obtain ⟨g, cap, e, _, r⟩ := rowC_of h h0
    exact ⟨_, cap, e, fun _ => ⟨g, 0, rfl, r⟩⟩
theorem scl_sh {n : Nat} {Q : Nat → Ch} {p : P3} {k : Int} (z : ocode n Q p = 0) (y : ocode n (fun i => timQ k (Q i)) (tim k p) = 0) (h : rngB k 1 128 = true) : scR k (mof p Q n) = (mof (tim k p) (fun i => timQ k (Q i)) n, 0) := by
  obtain ⟨h1, h2, h3⟩ := ocode_ok2 z
  obtain ⟨_, h4, h5⟩ := ocode_ok2 y
  have a := mokB_iff.2 (mof_mok (inP_iff.1 h2) h3 (by omega))
  have b := mokB_iff.2 (mof_mok (inP_iff.1 h4) h5 (by omega))
  rw [scR_ok a h, ← mof_times]
  unfold mtold mlarge
  rw [b]
  rfl
/-- what the law has in its loop -/
def SLR (w wr : World) (g : Nat) (p : P3) (R : Mo) (Q : Nat → Ch) (k : Int) (j : Nat) (v : Value) : Prop :=
  wr.ownsRow (g + 1) 41 10 v j (ccs (fun i => timQ k (Q i)) j) ∧ OwnMo wr g R ∧ Own wr w.heap.size p ∧ Below w.heap.size w wr ∧ g + 1 ≤ wr.heap.size ∧ w.heap.size < g
theorem own_in2 {w w1 : World} {b B : Nat} {a : P3} (h : Own w b a) (hb : Below B w w1) (l : b < B) : Own w1 b a := by
  obtain ⟨h1, h2, h3, h4, h5, h6, h7⟩ := h
  exact ⟨(hb.cell (p := ⟨b, 0, none⟩) l).trans h1, (hb.cell (p := ⟨b, 1, none⟩) l).trans h2, (hb.cell (p := ⟨b, 2, none⟩) l).trans h3, (hb.frozen (p := ⟨b, 0, none⟩) l).trans h4, (hb.frozen (p := ⟨b, 1, none⟩) l).trans h5, (hb.frozen (p := ⟨b, 2, none⟩) l).trans h6, Nat.lt_of_lt_of_le h7 hb.size⟩
theorem slr_below {w wr w1 : World} {g : Nat} {p : P3} {R : Mo} {Q : Nat → Ch} {k : Int} {j : Nat} {v : Value} (h : SLR w wr g p R Q k j v) (hb : Below wr.heap.size wr w1) : SLR w w1 g p R Q k j v := by
  obtain ⟨a, b, c, d, e, f⟩ := h
  refine ⟨a.kept (row := none) ⟨hb.os, hb.tape, hb.output, hb.size, fun q hq _ => hb.block q hq⟩ (by cases v.ownBlock <;> simp), ownMo_below b hb, own_below c hb, bstep d hb, Nat.le_trans e hb.size, f⟩
/-- what the law has while it appends -/
def SLS (w wr : World) (g q0 b0 o0 : Nat) (p : P3) (R : Mo) (Q : Nat → Ch) (k : Int) (j : Nat) (v : Value) (a b c : P3) (z : Int) : Prop :=
  Pan wr q0 a b c ∧ wr.cell? ⟨b0, o0, none⟩ = some (.int .i64 z) ∧ b0 < w.heap.size ∧ q0 < wr.heap.size ∧ v.ownBlock ≠ some q0 ∧ SLR w wr g p R Q k j v
theorem sls_below {w wr w1 : World} {g q0 b0 o0 : Nat} {p : P3} {R : Mo} {Q : Nat → Ch} {k : Int} {j : Nat} {v : Value} {a b c : P3} {z : Int} (h : SLS w wr g q0 b0 o0 p R Q k j v a b c z) (hb : Below wr.heap.size wr w1) : SLS w w1 g q0 b0 o0 p R Q k j v a b c z := by
  obtain ⟨h1, h2, h3, h4, h5, h6⟩ := h
  exact ⟨pan_below h1 hb, (hb.cell (p := ⟨b0, o0, none⟩) (Nat.lt_of_lt_of_le h3 h6.2.2.2.1.size)).trans h2, h3, Nat.lt_of_lt_of_le h4 hb.size, h5, slr_below h6 hb⟩
theorem sls_alloc {w wr : World} {g q0 b0 o0 : Nat} {p : P3} {R : Mo} {Q : Nat → Ch} {k : Int} {j : Nat} {v : Value} {a b c : P3} {z : Int} (h : SLS w wr g q0 b0 o0 p R Q k j v a b c z) (o : Obj) : SLS w (wr.alloc o) g q0 b0 o0 p R Q k j v a b c z := sls_below h ((Below.refl _ _).alloc (Nat.le_refl _) _)
theorem sls_drew {w wr : World} {g q0 b0 o0 : Nat} {p : P3} {R : Mo} {Q : Nat → Ch} {k : Int} {j : Nat} {v : Value} {a b c : P3} {z : Int} (h : SLS w wr g q0 b0 o0 p R Q k j v a b c z) : SLS w wr.drew g q0 b0 o0 p R Q k j v a b c z := sls_below h (Below.drew (Below.refl _ _))
theorem sls_new {w wr : World} {g b0 o0 : Nat} {p : P3} {R : Mo} {Q : Nat → Ch} {k : Int} {j : Nat} {v : Value} {a b c : P3} {z : Int} (h : SLR w wr g p R Q k j v) (hc : wr.cell? ⟨b0, o0, none⟩ = some (.int .i64 z)) (hb : b0 < w.heap.size) (t : TypeId) : SLS w (wr.alloc (pnc a b c t)) g wr.heap.size b0 o0 p R Q k j v a b c z := by
  have e := (Below.refl wr.heap.size wr).alloc (Nat.le_refl _) (pnc a b c t)
  exact ⟨pan_new wr a b c t, (e.cell (p := ⟨b0, o0, none⟩) (Nat.lt_of_lt_of_le hb h.2.2.2.1.size)).trans hc, hb, by simp, fun h' => absurd (h.1.lt _ h').2 (Nat.lt_irrefl _), slr_below h e⟩
theorem sls_cells {w wr : World} {g q0 b0 o0 : Nat} {p : P3} {R : Mo} {Q : Nat → Ch} {k : Int} {j : Nat} {v : Value} {a b c : P3} {z : Int} (h : SLS w wr g q0 b0 o0 p R Q k j v a b c z) : (wr.cell? ⟨q0, 0, none⟩ = some (.int .i64 a.1) ∧ wr.cell? ⟨q0, 1, none⟩ = some (.int .i64 a.2.1) ∧ wr.cell? ⟨q0, 2, none⟩ = some (.int .i64 a.2.2) ∧ wr.cell? ⟨q0, 3, none⟩ = some (.int .i64 b.1) ∧ wr.cell? ⟨q0, 4, none⟩ = some (.int .i64 b.2.1) ∧ wr.cell? ⟨q0, 5, none⟩ = some (.int .i64 b.2.2) ∧ wr.cell? ⟨q0, 6, none⟩ = some (.int .i64 c.1) ∧ wr.cell? ⟨q0, 7, none⟩ = some (.int .i64 c.2.1) ∧ wr.cell? ⟨q0, 8, none⟩ = some (.int .i64 c.2.2)) ∧ wr.cell? ⟨b0, o0, none⟩ = some (.int .i64 z) := ⟨pan_cells h.1, h.2.1⟩
theorem sls_push {w wr : World} {g q0 b0 o0 : Nat} {p : P3} {R : Mo} {Q : Nat → Ch} {k : Int} {j : Nat} {v : Value} {a b c : P3} {z : Int} (h : SLS w wr g q0 b0 o0 p R Q k j v a b c z) (hj : j ≤ 1000) (e : timQ k (Q j) = ((tim k a, tim k b, tim k c), z)) :
    ∃ v' w', (Builtin.append_ #[22, 22] 22 #[v, .slice (some ⟨wr.heap.size, 0, none⟩) 1 1]).run Tryd.prog (wr.alloc (.cells #[.int .i64 (tim k a).1, .int .i64 (tim k a).2.1, .int .i64 (tim k a).2.2, .int .i64 (tim k b).1, .int .i64 (tim k b).2.1, .int .i64 (tim k b).2.2, .int .i64 (tim k c).1, .int .i64 (tim k c).2.1, .int .i64 (tim k c).2.2, .int .i64 z] 41)) = .ok v' w' ∧ ((w'.cell? ⟨q0, 0, none⟩ = some (.int .i64 a.1) ∧ w'.cell? ⟨q0, 1, none⟩ = some (.int .i64 a.2.1) ∧ w'.cell? ⟨q0, 2, none⟩ = some (.int .i64 a.2.2) ∧ w'.cell? ⟨q0, 3, none⟩ = some (.int .i64 b.1) ∧ w'.cell? ⟨q0, 4, none⟩ = some (.int .i64 b.2.1) ∧ w'.cell? ⟨q0, 5, none⟩ = some (.int .i64 b.2.2) ∧ w'.cell? ⟨q0, 6, none⟩ = some (.int .i64 c.1) ∧ w'.cell? ⟨q0, 7, none⟩ = some (.int .i64 c.2.1) ∧ w'.cell? ⟨q0, 8, none⟩ = some (.int .i64 c.2.2)) ∧ w'.cell? ⟨b0, o0, none⟩ = some (.int .i64 z)) ∧ SLR w w' g p R Q k (j + 1) v' := by
  obtain ⟨h1, h2, h3, h4, h5, h6, h7, h8, h9, h10, h11⟩ := h
  obtain ⟨i, hi, hz⟩ : ∃ i, Tryd.prog.info? 41 = some i ∧ (i.zero, i.size, i.bytes) = (some (.agg #[.int .i64 0, .int .i64 0, .int .i64 0, .int .i64 0, .int .i64 0, .int .i64 0, .int .i64 0, .int .i64 0, .int .i64 0, .int .i64 0]), 10, 80) := by
    have h := infoC
    cases e : Tryd.prog.info? 41 with
    | none => rw [e] at h; cases h
    | some i => rw [e] at h; exact ⟨i, rfl, by simpa using h⟩
  have z1 : i.zero = some (.agg #[.int .i64 0, .int .i64 0, .int .i64 0, .int .i64 0, .int .i64 0, .int .i64 0, .int .i64 0, .int .i64 0, .int .i64 0, .int .i64 0]) := (Prod.mk.inj hz).1
  have z2 : i.size = 10 := (Prod.mk.inj (Prod.mk.inj hz).2).1
  have z3 : i.bytes = 80 := (Prod.mk.inj (Prod.mk.inj hz).2).2
  have hu : Tryd.prog.underlying 22 = some (.slice 41) := Tryd.underlying22
  have ea := (Below.refl wr.heap.size wr).alloc (Nat.le_refl _) (.cells #[.int .i64 (tim k a).1, .int .i64 (tim k a).2.1, .int .i64 (tim k a).2.2, .int .i64 (tim k b).1, .int .i64 (tim k b).2.1, .int .i64 (tim k b).2.2, .int .i64 (tim k c).1, .int .i64 (tim k c).2.1, .int .i64 (tim k c).2.2, .int .i64 z] 41)
  have ho := h6.alloc (.cells #[.int .i64 (tim k a).1, .int .i64 (tim k a).2.1, .int .i64 (tim k a).2.2, .int .i64 (tim k b).1, .int .i64 (tim k b).2.1, .int .i64 (tim k b).2.2, .int .i64 (tim k c).1, .int .i64 (tim k c).2.1, .int .i64 (tim k c).2.2, .int .i64 z] 41)
  obtain ⟨v', w', r1, r2, r3, _⟩ := run_append_own (P := Tryd.prog) _ (g + 1) 22 22 41 i _ 10 80 hu hi z1 z2 z3 rfl (by decide) v j _ ho ⟨wr.heap.size, 0, none⟩ 1 1 _ rfl (cells10 wr _ _ _ _ _ _ _ _ _ _ 41) (one10 _ _ _ _ _ _ _ _ _ _) (by unfold maxLen; omega) (by omega) (by have := ea.size; omega)
  have hq : q0 < (wr.alloc (.cells #[.int .i64 (tim k a).1, .int .i64 (tim k a).2.1, .int .i64 (tim k a).2.2, .int .i64 (tim k b).1, .int .i64 (tim k b).2.1, .int .i64 (tim k b).2.2, .int .i64 (tim k c).1, .int .i64 (tim k c).2.1, .int .i64 (tim k c).2.2, .int .i64 z] 41)).heap.size := Nat.lt_of_lt_of_le h4 ea.size
  have P1 := pan_below h1 ea
  have M1 := ownMo_below h7 ea
  have O1 := own_below h8 ea
  have B1 := h9.trans (ea.mono h9.size)
  have C1 := (ea.cell (p := ⟨b0, o0, none⟩) (Nat.lt_of_lt_of_le h3 h9.size)).trans h2
  have hne : ∀ q, v.ownBlock = some q → g + 1 ≤ q := fun q e => (h6.lt q e).1
  have G := (Below.refl (g + 1) _).grown r3 (by have := ea.size; omega) hne
  have hp : some q0 ≠ v.ownBlock := fun e => h5 e.symm
  obtain ⟨p1, p2, p3, p4, p5, p6, p7, p8, p9⟩ := pan_cells P1
  refine ⟨v', w', r1, ⟨⟨r3.cell p1 hp, r3.cell p2 hp, r3.cell p3 hp, r3.cell p4 hp, r3.cell p5 hp, r3.cell p6 hp, r3.cell p7 hp, r3.cell p8 hp, r3.cell p9 hp⟩, (G.cell (p := ⟨b0, o0, none⟩) (by show b0 < g + 1; omega)).trans C1⟩, ?_, ownMo_in M1 G (by omega), own_in2 O1 G (by omega), B1.trans (G.mono (by omega)), Nat.le_trans h10 (Nat.le_trans ea.size r3.size), h11⟩
  rw [ccs_succ]
  rw [e]
  exact r2

end Go.Proofs.YtjflgiegnibgmaaDoor
