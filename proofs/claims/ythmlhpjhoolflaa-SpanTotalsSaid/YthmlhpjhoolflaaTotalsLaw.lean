/-
  For every input the law SpanTotals answers true: the statement SpanTotalsSaid, with no condition.
-/
import Derived.Test.YthmlhpjhoolflaaTotalsJ
import Derived.Test.YthmlhpjhoolflaaRows
import Derived.ProofKit
import Derived.OpenShut
import Derived.Carry
import Derived.Deep.Slices
import Derived.Deep.Fields
import Derived.ChangeSame
import Derived.Lib.SmallJoins
namespace Go.Proofs.Ythmlhpjhoolflaa
namespace spanTotals
open Go.ChangeShapes Go.WideShapes Go.ChangeAt Go.RowKit Go.Joins Go.Deep

theorem own : ownKnob Try.prog.godebug = none := by kernel_rfl
theorem laid : laidOutB Try.prog = true := by kernel_rfl
theorem cellsSp : Try.prog.cellsOf 23 = 2 := by kernel_rfl
theorem cellsInt : Try.prog.cellsOf 3 = 1 := by kernel_rfl
theorem cell_flat {w : World} {a : Addr} {v : Value} (h : w.cell? a = some v) : a = ⟨a.block, a.off, none⟩ ∧ a.block < w.heap.size := by
  obtain ⟨b, o, sp⟩ := a
  unfold World.cell? at h
  split at h
  · rename_i e
    cases sp with
    | none => exact ⟨rfl, (Array.getElem?_eq_some_iff.1 e).1⟩
    | some x => simp at h
  · cases h
theorem add_flat (b o n : Nat) : (⟨b, o, none⟩ : Addr).add n = ⟨b, o + n, none⟩ := by
  unfold Addr.add
  split
  · rename_i e; subst e; rfl
  · rfl
section
variable {H : Type} {enc : TypeId × Value → H} {w : World} {base : Nat} {spare : Nat → Bool} {held : Bool}
/-- a list of spans, as its cells hold it -/
theorem open_row {fuel : Nat} {cs : List Value} {x : DataW H × List MemPlace} (h : DataW.trod enc Try.prog w base spare held fuel 37 cs = some x) :
    ∃ (a : Option Addr) (n cap : Nat), cs = [.slice a n cap] ∧ n ≤ maxLen ∧ (0 < n → ∃ (b off : Nat) (l h : Nat → Int), a = some ⟨b, off, none⟩ ∧ Row w b off n l h) := by
  rcases open_slice Try.underlying37 h with ⟨h0, _⟩ | ⟨a, len, cap, m, n, D, Pl, hcs, hb, hl, hm, hmm, hx, hi⟩
  · exact ⟨none, 0, 0, h0, Nat.zero_le _, fun h => absurd h (Nat.not_lt_zero 0)⟩
  · refine ⟨some a, len, cap, hcs, Nat.le_trans hl hm, fun hpos => ?_⟩
    have hlm : len ≤ m := by rw [hmm]; split <;> omega
    have key : ∀ k, ∃ p : Int × Int, k < len → w.cell? (a.add (k * 2)) = some (.int .i64 p.1) ∧ w.cell? ((a.add (k * 2)).add 1) = some (.int .i64 p.2) := by
      intro k
      by_cases hk : k < len
      · obtain ⟨cs', hc, ht⟩ := hi k (by omega)
        rw [cellsSp] at hc
        obtain ⟨_, hcl, hat⟩ := World.cells?_some hc
        match cs', hcl with
        | [c0, c1], _ =>
          have e0 := hat 0 (by decide)
          have e1 := hat 1 (by decide)
          have hn : ∃ j, n = j + 1 := by
            cases n with
            | zero => simp [DataW.trod] at ht
            | succ j => exact ⟨j, rfl⟩
          obtain ⟨y0, y1, n', _, _, g0, g1⟩ := trod_struct2 Try.underlying23 ht
          simp only [cellsInt] at g0 g1
          obtain ⟨l, q0, _, _⟩ := DataW.trod_int Try.underlying3 g0
          obtain ⟨u, q1, _, _⟩ := DataW.trod_int Try.underlying3 g1
          simp at q0 q1
          subst q0 q1
          exact ⟨(l, u), fun _ => ⟨by simpa [Addr.add] using e0, by simpa using e1⟩⟩
      · exact ⟨(0, 0), fun h => absurd h hk⟩
    obtain ⟨g, hg⟩ := Classical.axiomOfChoice key
    have z := (hg 0 hpos).1
    rw [show 0 * 2 = 0 from rfl, show a.add 0 = a from rfl] at z
    obtain ⟨fl, hlt⟩ := cell_flat z
    refine ⟨a.block, a.off, fun k => (g k).1, fun k => (g k).2, congrArg some fl, hlt, fun k hk => ?_⟩
    obtain ⟨c1, c2⟩ := hg k hk
    rw [fl, add_flat] at c1 c2
    rw [add_flat] at c2
    exact ⟨c1, c2⟩
end
set_option maxRecDepth 100000 in
theorem lifted (os : Os) (started : os.Started) (H : Type) (enc : TypeId × Value → H) :
    ReturnsInHanded {} Try.checked os 9 .any (Rows.spanTotalsSpec.pre6 enc Try.prog Try.f9 Rows.spanTotalsRow.domain false) (Rows.spanTotalsSpec.post enc Try.prog Try.f9 false true false false) := by
  refine returnsInHanded_of_change (C := Try.checked) own started (by kernel_rfl) Try.func9
    (ChangeSpec.witness6 (enc := enc) (C := Try.checked) false ⟨#[], #[.slice none 0 0], []⟩ 8 (by kernel_rfl) (by kernel_rfl) (by kernel_rfl) (by kernel_rfl)) ?_
  intro W base args ds gs before hval0 hW hcnd _
  have hval : ∀ (j : Nat) t v, Try.f9.params[j]? = some t → args[j]? = some v → Value.okWide Try.prog W .any base t v := hval0
  have hW' := hW
  obtain ⟨p, q, hA0, hV, rfl, hfz, hnd⟩ := hW
  have hA : DataW.TrodAll enc Try.prog W 0 (fun _ => true) true Try.f9.params.toList args.toList ds p := hA0
  rw [Try.params9] at hA hval
  obtain ⟨v0, d0, rfl, rfl, h0⟩ := trodAll_one hA
  obtain ⟨rfl, rfl⟩ := trodVars_none hV
  obtain ⟨a0, len, cap, rfl⟩ := okWide_slice Try.underlying37 (hval 0 37 v0 rfl rfl)
  have h0k := h0
  obtain ⟨fuel, hf⟩ := h0
  clear hA0 hval0
  simp only [List.append_nil] at hW'
  have hlt : ∀ x ∈ p, x.block < W.heap.size := fun x hx => by simpa using hW'.lt x hx
  have hargs : ∀ (W' : World), Below W.heap.size W W' → DataW.Trod enc Try.prog W' 0 (fun b => decide (b < W.heap.size)) true 37 (.slice a0 len cap) d0 p :=
    fun W' hn => Below.trod laid (by kernel_rfl) (of_decide_eq_true (by kernel_rfl)) h0k hn hlt
  obtain ⟨a1, n1, cap1, e1, hm, hr⟩ := open_row hf
  simp [Value.cells] at e1
  obtain ⟨rfl, rfl, rfl⟩ := e1
  unfold maxLen at hm
  refine (totals_walk a0 len cap W (by omega) hr).mono fun e W' ⟨he, bel⟩ => ?_
  subst he
  exact ⟨_, rfl, _, _, _, [], _, [], hW', trodAll_mk1 (shut_bool Try.underlying4 _), trodAll_mk1 (hargs _ bel), rfl, bel.frame _, fun h => by cases h⟩

theorem proved : Rows.SpanTotalsSaid :=
  OpenClaim.holds_of_wide 9 Try.f9 rfl rfl rfl rfl rfl rfl rfl ⟨rfl, rfl, rfl, rfl, rfl⟩ rfl rfl rfl rfl rfl (by kernel_rfl) Try.func9 (by kernel_rfl)
    (of_decide_eq_true (by kernel_rfl)) (by unfold Func.isWrapper; first | (rw [if_pos (by decide +kernel)]; kernel_rfl) | (rw [if_neg (by decide +kernel)]; exact ⟨rfl, rfl⟩))
    (fun os started H enc _ => lifted os started H enc)
#print axioms proved
end spanTotals
end Go.Proofs.Ythmlhpjhoolflaa
