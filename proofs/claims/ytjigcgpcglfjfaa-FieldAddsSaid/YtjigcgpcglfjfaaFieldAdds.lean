/-
  For every input the law FieldAdds answers true: the statement FieldAddsSaid, with no condition.
-/
import Derived.Test.YtjigcgpcglfjfaaFg34
import Derived.Test.YtjigcgpcglfjfaaRows
import Derived.ProofKit
import Derived.OpenShut
import Derived.Carry
import Derived.Deep.Slices
import Derived.Deep.Fields
import Derived.Deep.Strs
import Derived.ChangeSame
import Derived.Lib.SmallJoins
namespace Go.Proofs.Ytjigcgpcglfjfaa
namespace fieldAdds
open Go.ChangeShapes Go.WideShapes Go.ChangeAt Go.RowKit Go.Joins Go.Deep Sh

theorem own : ownKnob Try.prog.godebug = none := by kernel_rfl
theorem laid : laidOutB Try.prog = true := by kernel_rfl
theorem cellsInt : Try.prog.cellsOf 3 = 1 := by kernel_rfl
theorem cellsPoint : Try.prog.cellsOf 23 = 3 := by kernel_rfl
theorem cellsPanel9 : Try.prog.cellsOf 25 = 9 := by kernel_rfl
theorem cell_flat {w : World} {a : Addr} {v : Value} (h : w.cell? a = some v) : a = ⟨a.block, a.off, none⟩ ∧ a.block < w.heap.size := by
  obtain ⟨b, o, sp⟩ := a
  unfold World.cell? at h
  split at h
  · rename_i e
    cases sp with
    | none => exact ⟨rfl, (Array.getElem?_eq_some_iff.1 e).1⟩
    | some x => simp at h
  · cases h
theorem add_flat (b o n : Nat) : (⟨b, o, none⟩ : Addr).add n = ⟨b, o + n, none⟩ := by
  unfold Addr.add
  split
  · rename_i e; subst e; rfl
  · rfl
section
variable {H : Type} {enc : TypeId × Value → H} {w : World} {base : Nat} {spare : Nat → Bool} {held : Bool}
theorem read_point {n : Nat} {c0 c1 c2 : Value} {x : DataW H × List MemPlace} (h : DataW.trod enc Try.prog w base spare held n 23 [c0, c1, c2] = some x) :
    ∃ a : P3, c0 = .int .i64 a.1 ∧ c1 = .int .i64 a.2.1 ∧ c2 = .int .i64 a.2.2 := by
  obtain ⟨y0, y1, y2, m, _, _, g0, g1, g2⟩ := trod_struct3 Try.underlying23 h
  simp only [cellsInt] at g0 g1 g2
  obtain ⟨l, e0, _, _⟩ := DataW.trod_int Try.underlying3 g0
  obtain ⟨u, e1, _, _⟩ := DataW.trod_int Try.underlying3 g1
  obtain ⟨v, e2, _, _⟩ := DataW.trod_int Try.underlying3 g2
  simp at e0 e1 e2
  exact ⟨(l, u, v), e0, e1, e2⟩
theorem read_panel9 {n : Nat} {c0 c1 c2 c3 c4 c5 c6 c7 c8 : Value} {x : DataW H × List MemPlace} (h : DataW.trod enc Try.prog w base spare held n 25 [c0, c1, c2, c3, c4, c5, c6, c7, c8] = some x) :
    ∃ t : P9, c0 = .int .i64 t.1.1 ∧ c1 = .int .i64 t.1.2.1 ∧ c2 = .int .i64 t.1.2.2 ∧ c3 = .int .i64 t.2.1.1 ∧ c4 = .int .i64 t.2.1.2.1 ∧ c5 = .int .i64 t.2.1.2.2 ∧ c6 = .int .i64 t.2.2.1 ∧ c7 = .int .i64 t.2.2.2.1 ∧ c8 = .int .i64 t.2.2.2.2 := by
  obtain ⟨y0, y1, y2, m, _, _, g0, g1, g2⟩ := trod_struct3 Try.underlying25 h
  simp only [cellsPoint] at g0 g1 g2
  obtain ⟨a, rfl, rfl, rfl⟩ := read_point g0
  obtain ⟨b, rfl, rfl, rfl⟩ := read_point g1
  obtain ⟨c, rfl, rfl, rfl⟩ := read_point g2
  exact ⟨(a, b, c), rfl, rfl, rfl, rfl, rfl, rfl, rfl, rfl, rfl⟩
theorem cellsCharged : Try.prog.cellsOf 90 = 10 := by kernel_rfl
theorem read_charged {n : Nat} {c0 c1 c2 c3 c4 c5 c6 c7 c8 c9 : Value} {x : DataW H × List MemPlace} (h : DataW.trod enc Try.prog w base spare held n 90 [c0, c1, c2, c3, c4, c5, c6, c7, c8, c9] = some x) :
    ∃ q : Ch, [c0, c1, c2, c3, c4, c5, c6, c7, c8, c9] = [.int .i64 q.1.1.1, .int .i64 q.1.1.2.1, .int .i64 q.1.1.2.2, .int .i64 q.1.2.1.1, .int .i64 q.1.2.1.2.1, .int .i64 q.1.2.1.2.2, .int .i64 q.1.2.2.1, .int .i64 q.1.2.2.2.1, .int .i64 q.1.2.2.2.2, .int .i64 q.2] := by
  obtain ⟨y0, y1, m, _, _, g0, g1⟩ := trod_struct2 Try.underlying90 h
  simp only [cellsPanel9, cellsInt] at g0 g1
  obtain ⟨t, rfl, rfl, rfl, rfl, rfl, rfl, rfl, rfl, rfl⟩ := read_panel9 g0
  obtain ⟨u, e1, _, _⟩ := DataW.trod_int Try.underlying3 g1
  simp at e1
  subst e1
  exact ⟨(t, u), rfl⟩
theorem open_chs {fuel : Nat} {cs : List Value} {x : DataW H × List MemPlace} (h : DataW.trod enc Try.prog w base spare held fuel 39 cs = some x) :
    ∃ (a : Option Addr) (n cap : Nat) (f : Nat → Ch), cs = [.slice a n cap] ∧ n ≤ maxLen ∧ LstC w a n f := by
  rcases open_slice Try.underlying39 h with ⟨h0, _⟩ | ⟨a, len, cap, m, n, D, Pl, hcs, hb, hl, hm, hmm, hx, hi⟩
  · exact ⟨none, 0, 0, fun _ => (((0, 0, 0), (0, 0, 0), (0, 0, 0)), 0), h0, Nat.zero_le _, fun h => absurd h (Nat.not_lt_zero 0)⟩
  · have hlm : len ≤ m := by rw [hmm]; split <;> omega
    have key : ∀ k, ∃ p : Ch, k < len → ∀ j, j < 10 → w.cell? ((a.add (k * 10)).add j) = ([.int .i64 p.1.1.1, .int .i64 p.1.1.2.1, .int .i64 p.1.1.2.2, .int .i64 p.1.2.1.1, .int .i64 p.1.2.1.2.1, .int .i64 p.1.2.1.2.2, .int .i64 p.1.2.2.1, .int .i64 p.1.2.2.2.1, .int .i64 p.1.2.2.2.2, .int .i64 p.2] : List Value)[j]? := by
      intro k
      by_cases hk : k < len
      · obtain ⟨cs', hc, ht⟩ := hi k (by omega)
        rw [cellsCharged] at hc
        obtain ⟨_, hcl, hat⟩ := World.cells?_some hc
        match cs', hcl with
        | [c0, c1, c2, c3, c4, c5, c6, c7, c8, c9], _ =>
          obtain ⟨p, q⟩ := read_charged ht
          refine ⟨p, fun _ j hj => ?_⟩
          have e := hat j (by simpa using hj)
          rw [e, List.getElem?_eq_getElem (by simpa using hj)] at *
          rw [← q, List.getElem?_eq_getElem (by simpa using hj)]
      · exact ⟨(((0, 0, 0), (0, 0, 0), (0, 0, 0)), 0), fun h => absurd h hk⟩
    obtain ⟨g, hg⟩ := Classical.axiomOfChoice key
    refine ⟨some a, len, cap, g, hcs, Nat.le_trans hl hm, fun hpos => ?_⟩
    have z := hg 0 hpos 0 (by decide)
    rw [show 0 * 10 = 0 from rfl, show (a.add 0).add 0 = a from rfl] at z
    obtain ⟨fl, hlt⟩ := cell_flat (z.trans rfl)
    refine ⟨a.block, a.off, congrArg some fl, hlt, fun k hk => ?_⟩
    have cc : ∀ j, j < 10 → w.cell? ⟨a.block, a.off + k * 10 + j, none⟩ = ([.int .i64 (g k).1.1.1, .int .i64 (g k).1.1.2.1, .int .i64 (g k).1.1.2.2, .int .i64 (g k).1.2.1.1, .int .i64 (g k).1.2.1.2.1, .int .i64 (g k).1.2.1.2.2, .int .i64 (g k).1.2.2.1, .int .i64 (g k).1.2.2.2.1, .int .i64 (g k).1.2.2.2.2, .int .i64 (g k).2] : List Value)[j]? := fun j hj => by
      have y := hg k hk j hj
      rw [fl, add_flat, add_flat] at y
      exact y
    exact ⟨cc 0 (by decide), cc 1 (by decide), cc 2 (by decide), cc 3 (by decide), cc 4 (by decide), cc 5 (by decide), cc 6 (by decide), cc 7 (by decide), cc 8 (by decide), cc 9 (by decide)⟩
theorem cellsSeen : Try.prog.cellsOf 33 = 13 := by kernel_rfl
set_option maxRecDepth 100000 in
theorem open_seen {r : Reach} {b0 : Nat} {v : Value} {d : DataW H} {p : List MemPlace} (hv : Value.okWide Try.prog w r b0 33 v) (h : DataW.Trod enc Try.prog w base spare held 33 v d p) : ∃ (t : P9) (x : P3) (k : Int), v = senv t x k := by
  obtain ⟨cs, rfl, hsz⟩ := okWide_struct Try.underlying33 hv
  obtain ⟨l⟩ := cs
  match l, hsz.trans cellsSeen with
  | [c0, c1, c2, c3, c4, c5, c6, c7, c8, c9, c10, c11, c12], _ =>
    obtain ⟨fuel, hf⟩ := h
    obtain ⟨y0, y1, y2, m, _, _, g0, g1, g2⟩ := trod_struct3 Try.underlying33 hf
    simp only [cellsPanel9, cellsPoint, cellsInt] at g0 g1 g2
    obtain ⟨t, rfl, rfl, rfl, rfl, rfl, rfl, rfl, rfl, rfl⟩ := read_panel9 g0
    obtain ⟨x, rfl, rfl, rfl⟩ := read_point g1
    obtain ⟨k, e, _, _⟩ := DataW.trod_int Try.underlying3 g2
    simp [Value.cells] at e
    subst e
    exact ⟨t, x, k, rfl⟩
end
set_option maxRecDepth 100000 in
theorem lifted (os : Os) (started : os.Started) (H : Type) (enc : TypeId × Value → H) :
    ReturnsInHanded {} Try.checked os 6 .any (Rows.fieldAddsSpec.pre6 enc Try.prog Try.f6 Rows.fieldAddsRow.domain false) (Rows.fieldAddsSpec.post enc Try.prog Try.f6 false true false false) := by
  refine returnsInHanded_of_change (C := Try.checked) own started (by kernel_rfl) Try.func6
    (ChangeSpec.witness6 (enc := enc) (C := Try.checked) false ⟨#[], #[.slice none 0 0, .slice none 0 0, .agg #[.int .i64 0, .int .i64 0, .int .i64 0, .int .i64 0, .int .i64 0, .int .i64 0, .int .i64 0, .int .i64 0, .int .i64 0, .int .i64 0, .int .i64 0, .int .i64 0, .int .i64 0]], []⟩ 8 (by kernel_rfl) (by kernel_rfl) (by kernel_rfl) (by kernel_rfl)) ?_
  intro W base args ds gs before hval0 hW hcnd _
  have hval : ∀ (j : Nat) t v, Try.f6.params[j]? = some t → args[j]? = some v → Value.okWide Try.prog W .any base t v := hval0
  have hW' := hW
  obtain ⟨p, q, hA0, hV, rfl, hfz, hnd⟩ := hW
  have hA : DataW.TrodAll enc Try.prog W 0 (fun _ => true) true Try.f6.params.toList args.toList ds p := hA0
  rw [Try.params6] at hA hval
  obtain ⟨v0, vs0, d0, ds0, p0, q0, _hargs, rfl, rfl, h0, r0⟩ := trodAll_cons hA
  obtain ⟨v1, vs1, d1, ds1, p1, q1, rfl, rfl, rfl, h1, r1⟩ := trodAll_cons r0
  obtain ⟨v2, vs2, d2, ds2, p2, q2, rfl, rfl, rfl, h2, r2⟩ := trodAll_cons r1
  obtain ⟨rfl, rfl, rfl⟩ := trodAll_nil r2
  obtain rfl : args = #[v0, v1, v2] := by cases args; simp_all
  obtain ⟨rfl, rfl⟩ := trodVars_none hV
  obtain ⟨b0, m0, e0, rfl⟩ := okWide_slice Try.underlying39 (hval 0 39 v0 rfl rfl)
  have h0k := h0
  obtain ⟨fl0, hf0⟩ := h0
  obtain ⟨a0, n0, c0, Q0, eq0, l0, r0'⟩ := open_chs hf0
  simp [Value.cells] at eq0
  obtain ⟨rfl, rfl, rfl⟩ := eq0
  obtain ⟨b1, m1, e1, rfl⟩ := okWide_slice Try.underlying39 (hval 1 39 v1 rfl rfl)
  have h1k := h1
  obtain ⟨fl1, hf1⟩ := h1
  obtain ⟨a1, n1, c1, Q1, eq1, l1, r1'⟩ := open_chs hf1
  simp [Value.cells] at eq1
  obtain ⟨rfl, rfl, rfl⟩ := eq1
  have h2k := h2
  obtain ⟨a2, x2, k2, rfl⟩ := open_seen (hval 2 33 v2 rfl rfl) h2
  clear hA0 hval0
  simp only [List.append_nil] at hW'
  have hlt := fun x hx => hW'.lt x hx
  refine (fadds_walk b0 m0 e0 Q0 b1 m1 e1 Q1 a2 x2 k2 W l0 r0' l1 r1').mono fun e W' ⟨he, bel⟩ => ?_
  subst he
  exact ⟨_, rfl, _, _, _, [], _, [], hW', trodAll_mk1 (shut_bool Try.underlying4 _), (trodAll_cons_mk (Below.trod laid (by kernel_rfl) (of_decide_eq_true (by kernel_rfl)) h0k bel (fun x hx => hlt x (by simp [hx]))) (trodAll_cons_mk (Below.trod laid (by kernel_rfl) (of_decide_eq_true (by kernel_rfl)) h1k bel (fun x hx => hlt x (by simp [hx]))) (trodAll_cons_mk (Below.trod laid (by kernel_rfl) (of_decide_eq_true (by kernel_rfl)) h2k bel (fun x hx => hlt x (by simp [hx]))) trodAll_mk0))), rfl, bel.frame _, fun h => by cases h⟩

set_option maxRecDepth 100000 in
theorem proved : Rows.FieldAddsSaid :=
  OpenClaim.holds_of_wide 6 Try.f6 rfl rfl rfl rfl rfl rfl rfl ⟨rfl, rfl, rfl, rfl, rfl⟩ rfl rfl rfl rfl rfl (by kernel_rfl) Try.func6 (by kernel_rfl)
    (of_decide_eq_true (by kernel_rfl)) (by unfold Func.isWrapper; first | (rw [if_pos (by decide +kernel)]; kernel_rfl) | (rw [if_neg (by decide +kernel)]; exact ⟨rfl, rfl⟩))
    (fun os started H enc _ => lifted os started H enc)
#print axioms proved
end fieldAdds
end Go.Proofs.Ytjigcgpcglfjfaa
