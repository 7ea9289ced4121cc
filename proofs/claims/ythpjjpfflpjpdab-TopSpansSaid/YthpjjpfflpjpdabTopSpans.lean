/-
  For every input the law TopSpans answers true: the statement TopSpansSaid, with no condition.
-/
import Derived.Test.YthpjjpfflpjpdabTopFin
import Derived.Test.YthpjjpfflpjpdabRows
import Derived.ProofKit
import Derived.OpenShut
import Derived.Lib.SmallJoins
namespace Go.Proofs.Ythpjjpfflpjpdab
namespace topSpans
open Go.ChangeShapes Go.WideShapes Go.ChangeAt Go.RowKit Go.Joins

theorem own : ownKnob Try.prog.godebug = none := by kernel_rfl
theorem cellsSp : Try.prog.cellsOf 40 = 2 := by kernel_rfl

set_option maxRecDepth 100000 in
theorem lifted (os : Os) (started : os.Started) (H : Type) (enc : TypeId × Value → H) :
    ReturnsInHanded {} Try.checked os 4 .any (Rows.topSpansSpec.pre6 enc Try.prog Try.f4 Rows.topSpansRow.domain false) (Rows.topSpansSpec.post enc Try.prog Try.f4 false true false false) := by
  refine returnsInHanded_of_change (C := Try.checked) own started (by kernel_rfl) Try.func4
    (ChangeSpec.witness6 (enc := enc) (C := Try.checked) false ⟨#[], #[.agg #[.int .i64 0, .int .i64 0], .agg #[.int .i64 0, .int .i64 0], .agg #[.int .i64 0, .int .i64 0]], []⟩ 8 (by kernel_rfl) (by kernel_rfl) (by kernel_rfl) (by kernel_rfl)) ?_
  intro W base args ds gs before hval0 hW hcnd _
  have hval : ∀ (j : Nat) t v, Try.f4.params[j]? = some t → args[j]? = some v → Value.okWide Try.prog W .any base t v := hval0
  have hW' := hW
  obtain ⟨p, q, hA0, hV, rfl, hfz, hnd⟩ := hW
  have hA : DataW.TrodAll enc Try.prog W 0 (fun _ => true) true Try.f4.params.toList args.toList ds p := hA0
  rw [Try.params4] at hA hval
  obtain ⟨v0, vs0, d0, ds0, p0, q0, _hargs, rfl, rfl, h0, r0⟩ := trodAll_cons hA
  obtain ⟨v1, vs1, d1, ds1, p1, q1, rfl, rfl, rfl, h1, r1⟩ := trodAll_cons r0
  obtain ⟨v2, vs2, d2, ds2, p2, q2, rfl, rfl, rfl, h2, r2⟩ := trodAll_cons r1
  obtain ⟨rfl, rfl, rfl⟩ := trodAll_nil r2
  obtain rfl : args = #[v0, v1, v2] := by cases args; simp_all
  obtain ⟨rfl, rfl⟩ := trodVars_none hV
  obtain ⟨c0, k0, y0, z0, m0, rfl, rfl, rfl, hy0, hz0⟩ := open_agg2 Try.underlying40 (by kernel_rfl) cellsSp (hval 0 40 v0 rfl rfl) h0
  obtain ⟨l0, e0, rfl, wl0⟩ := DataW.trod_int Try.underlying3 hy0
  obtain ⟨u0, f0, rfl, wu0⟩ := DataW.trod_int Try.underlying3 hz0
  simp at e0 f0
  subst e0 f0
  have reads0 : ∀ (W' : World) (sp : Nat → Bool), DataW.Trod enc Try.prog W' 0 sp true 40 (.agg #[.int .i64 l0, .int .i64 u0]) (.agg [.lit (.int .i64 l0), .lit (.int .i64 u0)]) [] := fun W' sp =>
    shut_agg2 (y0 := (.lit (.int .i64 l0), [])) (y1 := (.lit (.int .i64 u0), [])) Try.underlying40 (by kernel_rfl) cellsSp ⟨1, by simp [DataW.trod, Try.underlying3, wl0]⟩ ⟨1, by simp [DataW.trod, Try.underlying3, wu0]⟩
  obtain ⟨c1, k1, y1, z1, m1, rfl, rfl, rfl, hy1, hz1⟩ := open_agg2 Try.underlying40 (by kernel_rfl) cellsSp (hval 1 40 v1 rfl rfl) h1
  obtain ⟨l1, e1, rfl, wl1⟩ := DataW.trod_int Try.underlying3 hy1
  obtain ⟨u1, f1, rfl, wu1⟩ := DataW.trod_int Try.underlying3 hz1
  simp at e1 f1
  subst e1 f1
  have reads1 : ∀ (W' : World) (sp : Nat → Bool), DataW.Trod enc Try.prog W' 0 sp true 40 (.agg #[.int .i64 l1, .int .i64 u1]) (.agg [.lit (.int .i64 l1), .lit (.int .i64 u1)]) [] := fun W' sp =>
    shut_agg2 (y0 := (.lit (.int .i64 l1), [])) (y1 := (.lit (.int .i64 u1), [])) Try.underlying40 (by kernel_rfl) cellsSp ⟨1, by simp [DataW.trod, Try.underlying3, wl1]⟩ ⟨1, by simp [DataW.trod, Try.underlying3, wu1]⟩
  obtain ⟨c2, k2, y2, z2, m2, rfl, rfl, rfl, hy2, hz2⟩ := open_agg2 Try.underlying40 (by kernel_rfl) cellsSp (hval 2 40 v2 rfl rfl) h2
  obtain ⟨l2, e2, rfl, wl2⟩ := DataW.trod_int Try.underlying3 hy2
  obtain ⟨u2, f2, rfl, wu2⟩ := DataW.trod_int Try.underlying3 hz2
  simp at e2 f2
  subst e2 f2
  have reads2 : ∀ (W' : World) (sp : Nat → Bool), DataW.Trod enc Try.prog W' 0 sp true 40 (.agg #[.int .i64 l2, .int .i64 u2]) (.agg [.lit (.int .i64 l2), .lit (.int .i64 u2)]) [] := fun W' sp =>
    shut_agg2 (y0 := (.lit (.int .i64 l2), [])) (y1 := (.lit (.int .i64 u2), [])) Try.underlying40 (by kernel_rfl) cellsSp ⟨1, by simp [DataW.trod, Try.underlying3, wl2]⟩ ⟨1, by simp [DataW.trod, Try.underlying3, wu2]⟩
  clear hA0 hval0
  simp only [List.append_nil] at hW'
  refine (top_any l0 u0 l1 u1 l2 u2 W).mono fun e W' ⟨he, bel⟩ => ?_
  subst he
  exact ⟨_, rfl, _, _, _, [], _, [], hW', trodAll_mk1 (shut_bool Try.underlying4 _), (trodAll_cons_mk (reads0 _ _) (trodAll_cons_mk (reads1 _ _) (trodAll_cons_mk (reads2 _ _) trodAll_mk0))), rfl, bel.frame _, fun h => by cases h⟩

theorem proved : Rows.TopSpansSaid :=
  OpenClaim.holds_of_wide 4 Try.f4 rfl rfl rfl rfl rfl rfl rfl ⟨rfl, rfl, rfl, rfl, rfl⟩ rfl rfl rfl rfl rfl (by kernel_rfl) Try.func4 (by kernel_rfl)
    (of_decide_eq_true (by kernel_rfl)) (by unfold Func.isWrapper; first | (rw [if_pos (by decide +kernel)]; kernel_rfl) | (rw [if_neg (by decide +kernel)]; exact ⟨rfl, rfl⟩))
    (fun os started H enc _ => lifted os started H enc)
#print axioms proved
end topSpans
end Go.Proofs.Ythpjjpfflpjpdab
