/-
  For every input the law SpanWider answers true: the statement SpanWiderSaid, with no condition.
-/
import Derived.Test.YthmlhpjhoolflaaWiderF
import Derived.Test.YthmlhpjhoolflaaRows
import Derived.ProofKit
import Derived.OpenShut
import Derived.Lib.SmallJoins
namespace Go.Proofs.Ythmlhpjhoolflaa
namespace spanWider
open Go.ChangeShapes Go.WideShapes Go.ChangeAt Go.RowKit Go.Joins

theorem own : ownKnob Try.prog.godebug = none := by kernel_rfl
theorem cellsSp : Try.prog.cellsOf 23 = 2 := by kernel_rfl

theorem cellsTwo : Try.prog.cellsOf 49 = 4 := by kernel_rfl
theorem cellsInt : Try.prog.cellsOf 3 = 1 := by kernel_rfl
section
variable {H : Type} {enc : TypeId × Value → H} {w : World} {base : Nat} {spare : Nat → Bool} {held : Bool}
theorem read_sp {n : Nat} {c0 c1 : Value} {x : DataW H × List MemPlace} (h : DataW.trod enc Try.prog w base spare held n 23 [c0, c1] = some x) :
    ∃ l u : Int, c0 = .int .i64 l ∧ c1 = .int .i64 u ∧ x = (.agg [.lit (.int .i64 l), .lit (.int .i64 u)], []) ∧ (Lit.int .i64 l).wf = true ∧ (Lit.int .i64 u).wf = true := by
  obtain ⟨y0, y1, m, hx, _, g0, g1⟩ := trod_struct2 Try.underlying23 h
  simp only [cellsInt] at g0 g1
  obtain ⟨l, e0, r0, w0⟩ := DataW.trod_int Try.underlying3 g0
  obtain ⟨u, e1, r1, w1⟩ := DataW.trod_int Try.underlying3 g1
  simp at e0 e1
  exact ⟨l, u, e0, e1, by rw [hx, r0, r1]; rfl, w0, w1⟩
theorem open_two {r : Reach} {b0 : Nat} {v : Value} {d : DataW H} {p : List MemPlace} (hv : Value.okWide Try.prog w r b0 49 v) (h : DataW.Trod enc Try.prog w base spare held 49 v d p) :
    ∃ l u g s : Int, v = .agg #[.int .i64 l, .int .i64 u, .int .i64 g, .int .i64 s] ∧ d = .agg [.agg [.lit (.int .i64 l), .lit (.int .i64 u)], .agg [.lit (.int .i64 g), .lit (.int .i64 s)]] ∧ p = [] ∧
      (Lit.int .i64 l).wf = true ∧ (Lit.int .i64 u).wf = true ∧ (Lit.int .i64 g).wf = true ∧ (Lit.int .i64 s).wf = true := by
  obtain ⟨cs, rfl, hsz⟩ := okWide_struct Try.underlying49 hv
  obtain ⟨l⟩ := cs
  match l, hsz.trans cellsTwo with
  | [c0, c1, c2, c3], _ =>
    obtain ⟨fuel, hf⟩ := h
    obtain ⟨y0, y1, n, hx, _, g0, g1⟩ := trod_struct2 Try.underlying49 hf
    simp only [cellsSp] at g0 g1
    obtain ⟨l, u, rfl, rfl, e0, w0, w1⟩ := read_sp g0
    obtain ⟨g, s, rfl, rfl, e1, w2, w3⟩ := read_sp g1
    simp only [Prod.mk.injEq] at hx
    exact ⟨l, u, g, s, rfl, by rw [hx.1, e0, e1], by rw [hx.2, e0, e1]; rfl, w0, w1, w2, w3⟩
theorem shut_sp {l u : Int} (w0 : (Lit.int .i64 l).wf = true) (w1 : (Lit.int .i64 u).wf = true) : DataW.trod enc Try.prog w base spare held 2 23 [.int .i64 l, .int .i64 u] = some (.agg [.lit (.int .i64 l), .lit (.int .i64 u)], []) :=
  trod_struct2_mk (y0 := (.lit (.int .i64 l), [])) (y1 := (.lit (.int .i64 u), [])) Try.underlying23 (by rw [cellsSp]; rfl) (by simp only [cellsInt]; exact trod_int_mk 0 Try.underlying3 w0) (by simp only [cellsInt]; exact trod_int_mk 0 Try.underlying3 w1)
theorem shut_two {l u g s : Int} (w0 : (Lit.int .i64 l).wf = true) (w1 : (Lit.int .i64 u).wf = true) (w2 : (Lit.int .i64 g).wf = true) (w3 : (Lit.int .i64 s).wf = true) :
    DataW.Trod enc Try.prog w base spare held 49 (.agg #[.int .i64 l, .int .i64 u, .int .i64 g, .int .i64 s]) (.agg [.agg [.lit (.int .i64 l), .lit (.int .i64 u)], .agg [.lit (.int .i64 g), .lit (.int .i64 s)]]) [] :=
  ⟨3, trod_struct2_mk (y0 := (.agg [.lit (.int .i64 l), .lit (.int .i64 u)], [])) (y1 := (.agg [.lit (.int .i64 g), .lit (.int .i64 s)], [])) Try.underlying49 (by rw [cellsTwo]; rfl) (by simp only [cellsSp]; exact shut_sp w0 w1) (by simp only [cellsSp]; exact shut_sp w2 w3)⟩
end

set_option maxRecDepth 100000 in
theorem lifted (os : Os) (started : os.Started) (H : Type) (enc : TypeId × Value → H) :
    ReturnsInHanded {} Try.checked os 13 .any (Rows.spanWiderSpec.pre6 enc Try.prog Try.f13 Rows.spanWiderRow.domain false) (Rows.spanWiderSpec.post enc Try.prog Try.f13 false true false false) := by
  refine returnsInHanded_of_change (C := Try.checked) own started (by kernel_rfl) Try.func13
    (ChangeSpec.witness6 (enc := enc) (C := Try.checked) false ⟨#[], #[.agg #[.int .i64 0, .int .i64 0], .agg #[.int .i64 0, .int .i64 0], .agg #[.int .i64 0, .int .i64 0, .int .i64 0, .int .i64 0]], []⟩ 8 (by kernel_rfl) (by kernel_rfl) (by kernel_rfl) (by kernel_rfl)) ?_
  intro W base args ds gs before hval0 hW hcnd _
  have hval : ∀ (j : Nat) t v, Try.f13.params[j]? = some t → args[j]? = some v → Value.okWide Try.prog W .any base t v := hval0
  have hW' := hW
  obtain ⟨p, q, hA0, hV, rfl, hfz, hnd⟩ := hW
  have hA : DataW.TrodAll enc Try.prog W 0 (fun _ => true) true Try.f13.params.toList args.toList ds p := hA0
  rw [Try.params13] at hA hval
  obtain ⟨v0, vs0, d0, ds0, p0, q0, _hargs, rfl, rfl, h0, r0⟩ := trodAll_cons hA
  obtain ⟨v1, vs1, d1, ds1, p1, q1, rfl, rfl, rfl, h1, r1⟩ := trodAll_cons r0
  obtain ⟨v2, vs2, d2, ds2, p2, q2, rfl, rfl, rfl, h2, r2⟩ := trodAll_cons r1
  obtain ⟨rfl, rfl, rfl⟩ := trodAll_nil r2
  obtain rfl : args = #[v0, v1, v2] := by cases args; simp_all
  obtain ⟨rfl, rfl⟩ := trodVars_none hV
  obtain ⟨c0, k0, y0, z0, m0, rfl, rfl, rfl, hy0, hz0⟩ := open_agg2 Try.underlying23 (by kernel_rfl) cellsSp (hval 0 23 v0 rfl rfl) h0
  obtain ⟨l0, e0, rfl, wl0⟩ := DataW.trod_int Try.underlying3 hy0
  obtain ⟨u0, f0, rfl, wu0⟩ := DataW.trod_int Try.underlying3 hz0
  simp at e0 f0
  subst e0 f0
  have reads0 : ∀ (W' : World) (sp : Nat → Bool), DataW.Trod enc Try.prog W' 0 sp true 23 (.agg #[.int .i64 l0, .int .i64 u0]) (.agg [.lit (.int .i64 l0), .lit (.int .i64 u0)]) [] := fun W' sp =>
    shut_agg2 (y0 := (.lit (.int .i64 l0), [])) (y1 := (.lit (.int .i64 u0), [])) Try.underlying23 (by kernel_rfl) cellsSp ⟨1, by simp [DataW.trod, Try.underlying3, wl0]⟩ ⟨1, by simp [DataW.trod, Try.underlying3, wu0]⟩
  obtain ⟨c1, k1, y1, z1, m1, rfl, rfl, rfl, hy1, hz1⟩ := open_agg2 Try.underlying23 (by kernel_rfl) cellsSp (hval 1 23 v1 rfl rfl) h1
  obtain ⟨l1, e1, rfl, wl1⟩ := DataW.trod_int Try.underlying3 hy1
  obtain ⟨u1, f1, rfl, wu1⟩ := DataW.trod_int Try.underlying3 hz1
  simp at e1 f1
  subst e1 f1
  have reads1 : ∀ (W' : World) (sp : Nat → Bool), DataW.Trod enc Try.prog W' 0 sp true 23 (.agg #[.int .i64 l1, .int .i64 u1]) (.agg [.lit (.int .i64 l1), .lit (.int .i64 u1)]) [] := fun W' sp =>
    shut_agg2 (y0 := (.lit (.int .i64 l1), [])) (y1 := (.lit (.int .i64 u1), [])) Try.underlying23 (by kernel_rfl) cellsSp ⟨1, by simp [DataW.trod, Try.underlying3, wl1]⟩ ⟨1, by simp [DataW.trod, Try.underlying3, wu1]⟩
  obtain ⟨l2, u2, g2, s2, rfl, rfl, rfl, wl2, wu2, wg2, ws2⟩ := open_two (hval 2 49 v2 rfl rfl) h2
  have reads2 : ∀ (W' : World) (sp : Nat → Bool), DataW.Trod enc Try.prog W' 0 sp true 49 (.agg #[.int .i64 l2, .int .i64 u2, .int .i64 g2, .int .i64 s2]) (.agg [.agg [.lit (.int .i64 l2), .lit (.int .i64 u2)], .agg [.lit (.int .i64 g2), .lit (.int .i64 s2)]]) [] := fun W' sp => shut_two wl2 wu2 wg2 ws2
  clear hA0 hval0
  simp only [List.append_nil] at hW'
  refine (wider_walk l0 u0 l1 u1 l2 u2 g2 s2 W).mono fun e W' ⟨he, bel⟩ => ?_
  subst he
  exact ⟨_, rfl, _, _, _, [], _, [], hW', trodAll_mk1 (shut_bool Try.underlying4 _), (trodAll_cons_mk (reads0 _ _) (trodAll_cons_mk (reads1 _ _) (trodAll_cons_mk (reads2 _ _) trodAll_mk0))), rfl, bel.frame _, fun h => by cases h⟩

theorem proved : Rows.SpanWiderSaid :=
  OpenClaim.holds_of_wide 13 Try.f13 rfl rfl rfl rfl rfl rfl rfl ⟨rfl, rfl, rfl, rfl, rfl⟩ rfl rfl rfl rfl rfl (by kernel_rfl) Try.func13 (by kernel_rfl)
    (of_decide_eq_true (by kernel_rfl)) (by unfold Func.isWrapper; first | (rw [if_pos (by decide +kernel)]; kernel_rfl) | (rw [if_neg (by decide +kernel)]; exact ⟨rfl, rfl⟩))
    (fun os started H enc _ => lifted os started H enc)
#print axioms proved
end spanWider
end Go.Proofs.Ythmlhpjhoolflaa
