/-
  For every input the law HoldImproves answers true: the statement HoldImprovesSaid, with no condition.
-/
import Derived.Test.YtbcjiigmbcfkeaaGreatHo46
import Derived.Test.YtbcjiigmbcfkeaaGreatRows
import Derived.ProofKit
import Derived.OpenShut
import Derived.Carry
import Derived.Deep.Slices
import Derived.Deep.Fields
import Derived.Deep.Strs
import Derived.ChangeSame
import Derived.Lib.SmallJoins
namespace Go.Proofs.YtbcjiigmbcfkeaaGreat
namespace holdImproves
open Go.ChangeShapes Go.WideShapes Go.ChangeAt Go.RowKit Go.Joins Go.Deep Sh

theorem own : ownKnob Tryz.prog.godebug = none := by kernel_rfl
theorem laid : laidOutB Tryz.prog = true := by kernel_rfl
theorem cellsInt : Tryz.prog.cellsOf 3 = 1 := by kernel_rfl
theorem cellsPoint : Tryz.prog.cellsOf 44 = 3 := by kernel_rfl
theorem cellsFace : Tryz.prog.cellsOf 116 = 3 := by kernel_rfl
theorem cellsMesh : Tryz.prog.cellsOf 25 = 2 := by kernel_rfl
theorem cellsPts : Tryz.prog.cellsOf 22 = 1 := by kernel_rfl
theorem cellsFcs : Tryz.prog.cellsOf 23 = 1 := by kernel_rfl
theorem cell_flat {w : World} {a : Addr} {v : Value} (h : w.cell? a = some v) : a = ⟨a.block, a.off, none⟩ ∧ a.block < w.heap.size := by
  obtain ⟨b, o, sp⟩ := a
  unfold World.cell? at h
  split at h
  · rename_i e
    cases sp with
    | none => exact ⟨rfl, (Array.getElem?_eq_some_iff.1 e).1⟩
    | some x => simp at h
  · cases h
theorem add_flat (b o n : Nat) : (⟨b, o, none⟩ : Addr).add n = ⟨b, o + n, none⟩ := by
  unfold Addr.add
  split
  · rename_i e; subst e; rfl
  · rfl
section
variable {H : Type} {enc : TypeId × Value → H} {w : World} {base : Nat} {spare : Nat → Bool} {held : Bool}
theorem read_point {n : Nat} {c0 c1 c2 : Value} {x : DataW H × List MemPlace} (h : DataW.trod enc Tryz.prog w base spare held n 44 [c0, c1, c2] = some x) :
    ∃ a : P3, c0 = .int .i64 a.1 ∧ c1 = .int .i64 a.2.1 ∧ c2 = .int .i64 a.2.2 := by
  obtain ⟨y0, y1, y2, m, _, _, g0, g1, g2⟩ := trod_struct3 Tryz.underlying44 h
  simp only [cellsInt] at g0 g1 g2
  obtain ⟨l, e0, _, _⟩ := DataW.trod_int Tryz.underlying3 g0
  obtain ⟨u, e1, _, _⟩ := DataW.trod_int Tryz.underlying3 g1
  obtain ⟨v, e2, _, _⟩ := DataW.trod_int Tryz.underlying3 g2
  simp at e0 e1 e2
  exact ⟨(l, u, v), e0, e1, e2⟩
theorem read_face {n : Nat} {c0 c1 c2 : Value} {x : DataW H × List MemPlace} (h : DataW.trod enc Tryz.prog w base spare held n 116 [c0, c1, c2] = some x) :
    ∃ a : P3, c0 = .int .i64 a.1 ∧ c1 = .int .i64 a.2.1 ∧ c2 = .int .i64 a.2.2 := by
  obtain ⟨xs, m, _, _, _, hl, hel⟩ := DataW.trod_array Tryz.underlying116 h
  match xs, hl with
  | [y0, y1, y2], _ =>
    have g0 := hel 0 (by decide)
    have g1 := hel 1 (by decide)
    have g2 := hel 2 (by decide)
    simp only [cellsInt] at g0 g1 g2
    obtain ⟨l, e0, _, _⟩ := DataW.trod_int Tryz.underlying3 g0
    obtain ⟨u, e1, _, _⟩ := DataW.trod_int Tryz.underlying3 g1
    obtain ⟨v, e2, _, _⟩ := DataW.trod_int Tryz.underlying3 g2
    simp at e0 e1 e2
    exact ⟨(l, u, v), e0, e1, e2⟩
theorem open_pts {fuel : Nat} {cs : List Value} {x : DataW H × List MemPlace} (h : DataW.trod enc Tryz.prog w base spare held fuel 22 cs = some x) :
    ∃ (a : Option Addr) (n cap : Nat) (f : Nat → P3), cs = [.slice a n cap] ∧ n ≤ maxLen ∧ Lst w a n f := by
  rcases open_slice Tryz.underlying22 h with ⟨h0, _⟩ | ⟨a, len, cap, m, n, D, Pl, hcs, hb, hl, hm, hmm, hx, hi⟩
  · exact ⟨none, 0, 0, fun _ => (0, 0, 0), h0, Nat.zero_le _, fun h => absurd h (Nat.not_lt_zero 0)⟩
  · have hlm : len ≤ m := by rw [hmm]; split <;> omega
    have key : ∀ k, ∃ p : P3, k < len → w.cell? (a.add (k * 3)) = some (.int .i64 p.1) ∧ w.cell? ((a.add (k * 3)).add 1) = some (.int .i64 p.2.1) ∧ w.cell? ((a.add (k * 3)).add 2) = some (.int .i64 p.2.2) := by
      intro k
      by_cases hk : k < len
      · obtain ⟨cs', hc, ht⟩ := hi k (by omega)
        rw [cellsPoint] at hc
        obtain ⟨_, hcl, hat⟩ := World.cells?_some hc
        match cs', hcl with
        | [c0, c1, c2], _ =>
          have e0 := hat 0 (by decide)
          have e1 := hat 1 (by decide)
          have e2 := hat 2 (by decide)
          obtain ⟨p, q0, q1, q2⟩ := read_point ht
          subst q0 q1 q2
          exact ⟨p, fun _ => ⟨by simpa [Addr.add] using e0, by simpa using e1, by simpa using e2⟩⟩
      · exact ⟨(0, 0, 0), fun h => absurd h hk⟩
    obtain ⟨g, hg⟩ := Classical.axiomOfChoice key
    refine ⟨some a, len, cap, g, hcs, Nat.le_trans hl hm, fun hpos => ?_⟩
    have z := (hg 0 hpos).1
    rw [show 0 * 3 = 0 from rfl, show a.add 0 = a from rfl] at z
    obtain ⟨fl, hlt⟩ := cell_flat z
    refine ⟨a.block, a.off, congrArg some fl, hlt, fun k hk => ?_⟩
    obtain ⟨c1, c2, c3⟩ := hg k hk
    rw [fl, add_flat] at c1 c2 c3
    rw [add_flat] at c2 c3
    exact ⟨c1, c2, c3⟩
theorem open_fcs {fuel : Nat} {cs : List Value} {x : DataW H × List MemPlace} (h : DataW.trod enc Tryz.prog w base spare held fuel 23 cs = some x) :
    ∃ (a : Option Addr) (n cap : Nat) (f : Nat → P3), cs = [.slice a n cap] ∧ n ≤ maxLen ∧ Lst w a n f := by
  rcases open_slice Tryz.underlying23 h with ⟨h0, _⟩ | ⟨a, len, cap, m, n, D, Pl, hcs, hb, hl, hm, hmm, hx, hi⟩
  · exact ⟨none, 0, 0, fun _ => (0, 0, 0), h0, Nat.zero_le _, fun h => absurd h (Nat.not_lt_zero 0)⟩
  · have hlm : len ≤ m := by rw [hmm]; split <;> omega
    have key : ∀ k, ∃ p : P3, k < len → w.cell? (a.add (k * 3)) = some (.int .i64 p.1) ∧ w.cell? ((a.add (k * 3)).add 1) = some (.int .i64 p.2.1) ∧ w.cell? ((a.add (k * 3)).add 2) = some (.int .i64 p.2.2) := by
      intro k
      by_cases hk : k < len
      · obtain ⟨cs', hc, ht⟩ := hi k (by omega)
        rw [cellsFace] at hc
        obtain ⟨_, hcl, hat⟩ := World.cells?_some hc
        match cs', hcl with
        | [c0, c1, c2], _ =>
          have e0 := hat 0 (by decide)
          have e1 := hat 1 (by decide)
          have e2 := hat 2 (by decide)
          obtain ⟨p, q0, q1, q2⟩ := read_face ht
          subst q0 q1 q2
          exact ⟨p, fun _ => ⟨by simpa [Addr.add] using e0, by simpa using e1, by simpa using e2⟩⟩
      · exact ⟨(0, 0, 0), fun h => absurd h hk⟩
    obtain ⟨g, hg⟩ := Classical.axiomOfChoice key
    refine ⟨some a, len, cap, g, hcs, Nat.le_trans hl hm, fun hpos => ?_⟩
    have z := (hg 0 hpos).1
    rw [show 0 * 3 = 0 from rfl, show a.add 0 = a from rfl] at z
    obtain ⟨fl, hlt⟩ := cell_flat z
    refine ⟨a.block, a.off, congrArg some fl, hlt, fun k hk => ?_⟩
    obtain ⟨c1, c2, c3⟩ := hg k hk
    rw [fl, add_flat] at c1 c2 c3
    rw [add_flat] at c2 c3
    exact ⟨c1, c2, c3⟩
set_option maxRecDepth 100000 in
theorem open_mesh {r : Reach} {b0 : Nat} {v : Value} {d : DataW H} {p : List MemPlace} (hv : Value.okWide Tryz.prog w r b0 25 v) (h : DataW.Trod enc Tryz.prog w base spare held 25 v d p) :
    ∃ a np c P a' nf c' F, v = msv a np c a' nf c' ∧ np ≤ maxLen ∧ nf ≤ maxLen ∧ Lst w a np P ∧ Lst w a' nf F := by
  obtain ⟨cs, rfl, hsz⟩ := okWide_struct Tryz.underlying25 hv
  obtain ⟨l⟩ := cs
  match l, hsz.trans cellsMesh with
  | [c0, c1], _ =>
    obtain ⟨fuel, hf⟩ := h
    obtain ⟨y0, y1, n, _, _, g0, g1⟩ := trod_struct2 Tryz.underlying25 hf
    simp only [cellsPts, cellsFcs] at g0 g1
    obtain ⟨a, np, c, P, e0, l0, r0⟩ := open_pts g0
    obtain ⟨a', nf, c', F, e1, l1, r1⟩ := open_fcs g1
    simp [Value.cells] at e0 e1
    subst e0 e1
    exact ⟨a, np, c, P, a', nf, c', F, rfl, l0, l1, r0, r1⟩
end
set_option maxRecDepth 100000 in
theorem lifted (os : Os) (started : os.Started) (H : Type) (enc : TypeId × Value → H) :
    ReturnsInHanded {} Tryz.checked os 9 .any (Rows.holdImprovesSpec.pre6 enc Tryz.prog Tryz.f9 Rows.holdImprovesRow.domain false) (Rows.holdImprovesSpec.post enc Tryz.prog Tryz.f9 false true false false) := by
  refine returnsInHanded_of_change (C := Tryz.checked) own started (by kernel_rfl) Tryz.func9
    (ChangeSpec.witness6 (enc := enc) (C := Tryz.checked) false ⟨#[], #[.agg #[.slice none 0 0, .slice none 0 0], .int .i64 0], []⟩ 8 (by kernel_rfl) (by kernel_rfl) (by kernel_rfl) (by kernel_rfl)) ?_
  intro W base args ds gs before hval0 hW hcnd _
  have hval : ∀ (j : Nat) t v, Tryz.f9.params[j]? = some t → args[j]? = some v → Value.okWide Tryz.prog W .any base t v := hval0
  have hW' := hW
  obtain ⟨p, q, hA0, hV, rfl, hfz, hnd⟩ := hW
  have hA : DataW.TrodAll enc Tryz.prog W 0 (fun _ => true) true Tryz.f9.params.toList args.toList ds p := hA0
  rw [Tryz.params9] at hA hval
  obtain ⟨v0, vs0, d0, ds0, p0, q0, _hargs, rfl, rfl, h0, r0⟩ := trodAll_cons hA
  obtain ⟨v1, vs1, d1, ds1, p1, q1, rfl, rfl, rfl, h1, r1⟩ := trodAll_cons r0
  obtain ⟨rfl, rfl, rfl⟩ := trodAll_nil r1
  obtain rfl : args = #[v0, v1] := by cases args; simp_all
  obtain ⟨rfl, rfl⟩ := trodVars_none hV
  have h0k := h0
  obtain ⟨a0, np0, c0, P0, b0, nf0, d0', F0, rfl, l0, k0, r0', s0⟩ := open_mesh (hval 0 25 v0 rfl rfl) h0
  obtain ⟨a1, rfl, rfl, rfl, w1⟩ := open_int Tryz.underlying3 (hval 1 3 v1 rfl rfl) h1
  clear hA0 hval0
  simp only [List.append_nil] at hW'
  have hlt := fun x hx => hW'.lt x hx
  refine (himproves_walk a0 np0 c0 P0 b0 nf0 d0' F0 a1 W l0 k0 r0' s0).mono fun e W' ⟨he, bel⟩ => ?_
  subst he
  exact ⟨_, rfl, _, _, _, [], _, [], hW', trodAll_mk1 (shut_bool Tryz.underlying4 _), (trodAll_cons_mk (Below.trod laid (by kernel_rfl) (of_decide_eq_true (by kernel_rfl)) h0k bel (fun x hx => hlt x (by simp [hx]))) (trodAll_cons_mk (shut_int Tryz.underlying3 w1) trodAll_mk0)), rfl, bel.frame _, fun h => by cases h⟩

set_option maxRecDepth 100000 in
theorem proved : Rows.HoldImprovesSaid :=
  OpenClaim.holds_of_wide 9 Tryz.f9 rfl rfl rfl rfl rfl rfl rfl ⟨rfl, rfl, rfl, rfl, rfl⟩ rfl rfl rfl rfl rfl (by kernel_rfl) Tryz.func9 (by kernel_rfl)
    (of_decide_eq_true (by kernel_rfl)) (by unfold Func.isWrapper; first | (rw [if_pos (by decide +kernel)]; kernel_rfl) | (rw [if_neg (by decide +kernel)]; exact ⟨rfl, rfl⟩))
    (fun os started H enc _ => lifted os started H enc)
#print axioms proved
end holdImproves
end Go.Proofs.YtbcjiigmbcfkeaaGreat
