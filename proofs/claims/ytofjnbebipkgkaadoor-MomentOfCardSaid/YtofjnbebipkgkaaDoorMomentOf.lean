/-
  For every input the law MomentOf answers true: the card MomentOfCardSaid: the program's table of the axes stands as its text lays it.
-/
import Derived.Test.YtofjnbebipkgkaaDoorMoLO
import Derived.Test.YtofjnbebipkgkaaDoorRows
import Derived.Test.YtofjnbebipkgkaaDoorCards
import Derived.Test.YtofjnbebipkgkaaDoorTie
import Derived.ProofKit
import Derived.LaidMore
import Derived.OpenShut
import Derived.Stop.Joined
import Derived.SevenTiedAt
import Derived.Carry
import Derived.Deep.Slices
import Derived.Deep.Fields
import Derived.Deep.Strs
import Derived.ChangeSame
import Derived.Lib.SmallJoins
namespace Go.Proofs.YtofjnbebipkgkaaDoor
namespace momentOf
open Go.ChangeShapes Go.WideShapes Go.ChangeAt Go.RowKit Go.Joins Go.Deep Sh

theorem own : ownKnob Tryd.prog.godebug = none := by kernel_rfl
theorem laid : laidOutB Tryd.prog = true := by kernel_rfl
theorem cellsInt : Tryd.prog.cellsOf 3 = 1 := by kernel_rfl
theorem cellsPoint : Tryd.prog.cellsOf 24 = 3 := by kernel_rfl
theorem cell_flat {w : World} {a : Addr} {v : Value} (h : w.cell? a = some v) : a = ⟨a.block, a.off, none⟩ ∧ a.block < w.heap.size := by
  obtain ⟨b, o, sp⟩ := a
  unfold World.cell? at h
  split at h
  · rename_i e
    cases sp with
    | none => exact ⟨rfl, (Array.getElem?_eq_some_iff.1 e).1⟩
    | some x => simp at h
  · cases h
theorem add_flat (b o n : Nat) : (⟨b, o, none⟩ : Addr).add n = ⟨b, o + n, none⟩ := by
  unfold Addr.add
  split
  · rename_i e; subst e; rfl
  · rfl
theorem gPlaces : Tryd.prog.globalNamed "facet/moment.places" = some 0 := by kernel_rfl
theorem tPlaces : (Tryd.prog.globals[0]?).map (·.type) = some 61 := by kernel_rfl
theorem cells2 : Tryd.prog.cellsOf 60 = 2 := by kernel_rfl
theorem cells12 : Tryd.prog.cellsOf 61 = 12 := by kernel_rfl
/-- The door's own heap meets the condition: three closed facts. -/
theorem door_met (os : Os) (args : Array Value) : laidMetH Tryd.prog [("facet/moment.places", Rows.laid_facet_moment_places)] ((World.doorLaid Tryd.prog 400 os).forCall (fun _ _ => 0) ⟨#[], args, []⟩).memory :=
  laidMetH_of_parts3 (fuel := 8) (laidMet_of_run' 8 (by kernel_rfl) (by kernel_rfl)) (by kernel_rfl) (by kernel_rfl)
theorem read_two {H : Type} {enc : TypeId × Value → H} {w : World} {base : Nat} {spare : Nat → Bool} {held : Bool} {n : Nat} {c0 c1 : Value} {x : DataW H × List MemPlace} {a b : Int} (h : DataW.trod enc Tryd.prog w base spare held n 60 [c0, c1] = some x) (e : x.1 = .agg [.lit (.int .i64 a), .lit (.int .i64 b)]) :
    c0 = .int .i64 a ∧ c1 = .int .i64 b := by
  obtain ⟨xs, m, _, rfl, _, hl, hel⟩ := DataW.trod_array Tryd.underlying60 h
  match xs, hl with
  | [y0, y1], _ =>
    have g0 := hel 0 (by decide)
    have g1 := hel 1 (by decide)
    simp only [cellsInt] at g0 g1
    obtain ⟨k, e0, f0, _⟩ := DataW.trod_int Tryd.underlying3 (show DataW.trod _ _ _ _ _ _ m _ _ = some y0 from g0)
    obtain ⟨l, e1, f1, _⟩ := DataW.trod_int Tryd.underlying3 (show DataW.trod _ _ _ _ _ _ m _ _ = some y1 from g1)
    rw [f0, f1] at e
    simp at e0 e1 e
    obtain ⟨rfl, rfl⟩ := e
    exact ⟨e0, e1⟩
set_option maxRecDepth 100000 in
/-- WHAT THE CONDITION GIVES THE WALK: the table's twelve cells. -/
theorem of_laid {W : World} (h : laidMetH Tryd.prog [("facet/moment.places", Rows.laid_facet_moment_places)] W) : Plc W := by
  rw [MakeChecks.laidMetH_plain _ _ _ (by kernel_rfl)] at h
  obtain ⟨ps, ⟨g0, t0, cs0, f0, p0, q0, hg0, ht0, hv0, hd0, _, _⟩, _, _⟩ := h
  obtain rfl := Option.some.inj (gPlaces.symm.trans hg0)
  obtain rfl := Option.some.inj (tPlaces.symm.trans ht0)
  obtain ⟨xs, m1, rfl, hx1, hlen, hn, hel⟩ := DataW.trod_array Tryd.underlying61 hd0
  unfold Rows.laid_facet_moment_places at hx1
  simp only [Prod.mk.injEq, DataW.agg.injEq] at hx1
  obtain ⟨hx, _⟩ := hx1
  obtain ⟨l⟩ := cs0
  match l, hlen.trans cells12, xs, hn, hx, hel with
  | [c0, c1, c2, c3, c4, c5, c6, c7, c8, c9, c10, c11], _, [y0, y1, y2, y3, y4, y5], _, hx, hel =>
    simp only [List.map_cons, List.map_nil, List.cons.injEq] at hx
    obtain ⟨z0, z1, z2, z3, z4, z5, _⟩ := hx
    have h0 := hel 0 (by decide)
    have h1 := hel 1 (by decide)
    have h2 := hel 2 (by decide)
    have h3 := hel 3 (by decide)
    have h4 := hel 4 (by decide)
    have h5 := hel 5 (by decide)
    simp only [cells2] at h0 h1 h2 h3 h4 h5
    obtain ⟨rfl, rfl⟩ := read_two (show DataW.trod _ _ _ _ _ _ m1 _ [c0, c1] = some y0 from h0) z0.symm
    obtain ⟨rfl, rfl⟩ := read_two (show DataW.trod _ _ _ _ _ _ m1 _ [c2, c3] = some y1 from h1) z1.symm
    obtain ⟨rfl, rfl⟩ := read_two (show DataW.trod _ _ _ _ _ _ m1 _ [c4, c5] = some y2 from h2) z2.symm
    obtain ⟨rfl, rfl⟩ := read_two (show DataW.trod _ _ _ _ _ _ m1 _ [c6, c7] = some y3 from h3) z3.symm
    obtain ⟨rfl, rfl⟩ := read_two (show DataW.trod _ _ _ _ _ _ m1 _ [c8, c9] = some y4 from h4) z4.symm
    obtain ⟨rfl, rfl⟩ := read_two (show DataW.trod _ _ _ _ _ _ m1 _ [c10, c11] = some y5 from h5) z5.symm
    have k := fun i => World.var?_cell hg0 hv0 i
    have k0 := k 0
    simp at k0
    exact ⟨⟨by simpa using k 0, by simpa using k 1, by simpa using k 2, by simpa using k 3, by simpa using k 4, by simpa using k 5, by simpa using k 6, by simpa using k 7, by simpa using k 8, by simpa using k 9, by simpa using k 10, by simpa using k 11⟩, (cell_flat k0).2⟩
section
variable {H : Type} {enc : TypeId × Value → H} {w : World} {base : Nat} {spare : Nat → Bool} {held : Bool}
theorem read_point {n : Nat} {c0 c1 c2 : Value} {x : DataW H × List MemPlace} (h : DataW.trod enc Tryd.prog w base spare held n 24 [c0, c1, c2] = some x) :
    ∃ a : P3, c0 = .int .i64 a.1 ∧ c1 = .int .i64 a.2.1 ∧ c2 = .int .i64 a.2.2 := by
  obtain ⟨y0, y1, y2, m, _, _, g0, g1, g2⟩ := trod_struct3 Tryd.underlying24 h
  simp only [cellsInt] at g0 g1 g2
  obtain ⟨l, e0, _, _⟩ := DataW.trod_int Tryd.underlying3 g0
  obtain ⟨u, e1, _, _⟩ := DataW.trod_int Tryd.underlying3 g1
  obtain ⟨v, e2, _, _⟩ := DataW.trod_int Tryd.underlying3 g2
  simp at e0 e1 e2
  exact ⟨(l, u, v), e0, e1, e2⟩
set_option maxRecDepth 100000 in
theorem open_point {r : Reach} {b0 : Nat} {v : Value} {d : DataW H} {p : List MemPlace} (hv : Value.okWide Tryd.prog w r b0 24 v) (h : DataW.Trod enc Tryd.prog w base spare held 24 v d p) : ∃ a : P3, v = ptv a := by
  obtain ⟨cs, rfl, hsz⟩ := okWide_struct Tryd.underlying24 hv
  obtain ⟨l⟩ := cs
  match l, hsz.trans cellsPoint with
  | [c0, c1, c2], _ =>
    obtain ⟨fuel, hf⟩ := h
    obtain ⟨a, rfl, rfl, rfl⟩ := read_point hf
    exact ⟨a, rfl⟩
theorem cellsCh : Tryd.prog.cellsOf 38 = 10 := by kernel_rfl
theorem cellsPn : Tryd.prog.cellsOf 36 = 9 := by kernel_rfl
set_option maxRecDepth 100000 in
theorem read_charged {n : Nat} {c0 c1 c2 c3 c4 c5 c6 c7 c8 c9 : Value} {x : DataW H × List MemPlace} (h : DataW.trod enc Tryd.prog w base spare held n 38 [c0, c1, c2, c3, c4, c5, c6, c7, c8, c9] = some x) :
    ∃ q : Ch, c0 = .int .i64 q.1.1.1 ∧ c1 = .int .i64 q.1.1.2.1 ∧ c2 = .int .i64 q.1.1.2.2 ∧ c3 = .int .i64 q.1.2.1.1 ∧ c4 = .int .i64 q.1.2.1.2.1 ∧ c5 = .int .i64 q.1.2.1.2.2 ∧ c6 = .int .i64 q.1.2.2.1 ∧ c7 = .int .i64 q.1.2.2.2.1 ∧ c8 = .int .i64 q.1.2.2.2.2 ∧ c9 = .int .i64 q.2 := by
  obtain ⟨y0, y1, m, _, _, g0, g1⟩ := trod_struct2 Tryd.underlying38 h
  simp only [cellsInt, cellsPn] at g0 g1
  obtain ⟨k, e9, _, _⟩ := DataW.trod_int Tryd.underlying3 g1
  obtain ⟨z0, z1, z2, m2, _, _, h0, h1, h2⟩ := trod_struct3 Tryd.underlying36 g0
  simp only [cellsPoint] at h0 h1 h2
  obtain ⟨a, rfl, rfl, rfl⟩ := read_point h0
  obtain ⟨b, rfl, rfl, rfl⟩ := read_point h1
  obtain ⟨c, rfl, rfl, rfl⟩ := read_point h2
  simp at e9
  subst e9
  exact ⟨((a, b, c), k), rfl, rfl, rfl, rfl, rfl, rfl, rfl, rfl, rfl, rfl⟩
theorem open_list {fuel : Nat} {cs : List Value} {x : DataW H × List MemPlace} (h : DataW.trod enc Tryd.prog w base spare held fuel 22 cs = some x) :
    ∃ (a : Option Addr) (n cap : Nat) (Q : Nat → Ch), cs = [.slice a n cap] ∧ n ≤ maxLen ∧ LstC w a n Q := by
  rcases open_slice Tryd.underlying22 h with ⟨h0, _⟩ | ⟨a, len, cap, m, n, D, Pl, hcs, hb, hl, hm, hmm, hx, hi⟩
  · exact ⟨none, 0, 0, fun _ => (((0, 0, 0), (0, 0, 0), (0, 0, 0)), 0), h0, Nat.zero_le _, fun h => absurd h (Nat.not_lt_zero 0)⟩
  · have hlm : len ≤ m := by rw [hmm]; split <;> omega
    have key : ∀ k, ∃ p : Ch, k < len → w.cell? (a.add (k * 10)) = some (.int .i64 p.1.1.1) ∧ w.cell? ((a.add (k * 10)).add 1) = some (.int .i64 p.1.1.2.1) ∧ w.cell? ((a.add (k * 10)).add 2) = some (.int .i64 p.1.1.2.2) ∧ w.cell? ((a.add (k * 10)).add 3) = some (.int .i64 p.1.2.1.1) ∧ w.cell? ((a.add (k * 10)).add 4) = some (.int .i64 p.1.2.1.2.1) ∧ w.cell? ((a.add (k * 10)).add 5) = some (.int .i64 p.1.2.1.2.2) ∧ w.cell? ((a.add (k * 10)).add 6) = some (.int .i64 p.1.2.2.1) ∧ w.cell? ((a.add (k * 10)).add 7) = some (.int .i64 p.1.2.2.2.1) ∧ w.cell? ((a.add (k * 10)).add 8) = some (.int .i64 p.1.2.2.2.2) ∧ w.cell? ((a.add (k * 10)).add 9) = some (.int .i64 p.2) := by
      intro k
      by_cases hk : k < len
      · obtain ⟨cs', hc, ht⟩ := hi k (by omega)
        rw [cellsCh] at hc
        obtain ⟨_, hcl, hat⟩ := World.cells?_some hc
        match cs', hcl with
        | [c0, c1, c2, c3, c4, c5, c6, c7, c8, c9], _ =>
          have e0 := hat 0 (by decide)
          have e1 := hat 1 (by decide)
          have e2 := hat 2 (by decide)
          have e3 := hat 3 (by decide)
          have e4 := hat 4 (by decide)
          have e5 := hat 5 (by decide)
          have e6 := hat 6 (by decide)
          have e7 := hat 7 (by decide)
          have e8 := hat 8 (by decide)
          have e9 := hat 9 (by decide)
          obtain ⟨p, q0, q1, q2, q3, q4, q5, q6, q7, q8, q9⟩ := read_charged ht
          subst q0 q1 q2 q3 q4 q5 q6 q7 q8 q9
          exact ⟨p, fun _ => ⟨by simpa [Addr.add] using e0, by simpa using e1, by simpa using e2, by simpa using e3, by simpa using e4, by simpa using e5, by simpa using e6, by simpa using e7, by simpa using e8, by simpa using e9⟩⟩
      · exact ⟨(((0, 0, 0), (0, 0, 0), (0, 0, 0)), 0), fun h => absurd h hk⟩
    obtain ⟨g, hg⟩ := Classical.axiomOfChoice key
    refine ⟨some a, len, cap, g, hcs, Nat.le_trans hl hm, fun hpos => ?_⟩
    have z := (hg 0 hpos).1
    rw [show 0 * 10 = 0 from rfl, show a.add 0 = a from rfl] at z
    obtain ⟨fl, hlt⟩ := cell_flat z
    refine ⟨a.block, a.off, congrArg some fl, hlt, fun k hk => ?_⟩
    obtain ⟨c0, c1, c2, c3, c4, c5, c6, c7, c8, c9⟩ := hg k hk
    rw [fl, add_flat] at c0 c1 c2 c3 c4 c5 c6 c7 c8 c9
    rw [add_flat] at c1 c2 c3 c4 c5 c6 c7 c8 c9
    exact ⟨c0, c1, c2, c3, c4, c5, c6, c7, c8, c9⟩
end
set_option maxRecDepth 100000 in
theorem lifted (os : Os) (started : os.Started) (H : Type) (enc : TypeId × Value → H) :
    ReturnsInHanded {} Tryd.checked os 3 .any (fun w args => (Rows.momentOfSpec.pre enc Tryd.prog Tryd.f3 [] false w args ∧ laidMetH Tryd.prog [("facet/moment.places", Rows.laid_facet_moment_places)] w) ∧ sizedMet enc Tryd.prog Tryd.f3 (OpenSpec.ofChange Rows.momentOfSpec) false w args)
      (Rows.momentOfSpec.post enc Tryd.prog Tryd.f3 false true false false) := by
  refine returnsInHanded_of_change_and (C := Tryd.checked) (X := fun w _ => laidMetH Tryd.prog [("facet/moment.places", Rows.laid_facet_moment_places)] w) (fun _ _ _ hh h => h.of_heap hh) own started (by kernel_rfl) Tryd.func3
    (ChangeSpec.witness_shaped (enc := enc) (C := Tryd.checked) (os := os) (X := fun w _ => laidMetH Tryd.prog [("facet/moment.places", Rows.laid_facet_moment_places)] w) false (World.doorLaid Tryd.prog 400 os) #[.slice none 0 0, .agg #[.int .i64 0, .int .i64 0, .int .i64 0]] 8 rfl (World.shaped_of_RefB (by kernel_rfl) (by kernel_rfl)) (by kernel_rfl) (by kernel_rfl) (by kernel_rfl) (door_met os _)) ?_
  intro W base args ds gs before hval0 hW _ _ hL _
  have hval : ∀ (j : Nat) t v, Tryd.f3.params[j]? = some t → args[j]? = some v → Value.okWide Tryd.prog W .any base t v := hval0
  have hW' := hW
  obtain ⟨p, q, hA0, hV, rfl, hfz, hnd⟩ := hW
  have hA : DataW.TrodAll enc Tryd.prog W 0 (fun _ => true) true Tryd.f3.params.toList args.toList ds p := hA0
  rw [Tryd.params3] at hA hval
  obtain ⟨v0, vs0, d0, ds0, p0, q0, _hargs, rfl, rfl, h0, r0⟩ := trodAll_cons hA
  obtain ⟨v1, vs1, d1, ds1, p1, q1, rfl, rfl, rfl, h1, r1⟩ := trodAll_cons r0
  obtain ⟨rfl, rfl, rfl⟩ := trodAll_nil r1
  obtain rfl : args = #[v0, v1] := by cases args; simp_all
  obtain ⟨rfl, rfl⟩ := trodVars_none hV
  obtain ⟨a0, n0, c0, rfl⟩ := okWide_slice Tryd.underlying22 (hval 0 22 v0 rfl rfl)
  have h0k := h0
  obtain ⟨fu0, hf0⟩ := h0
  obtain ⟨b0, m0, e0, Q0, eq0, hm0, hr0⟩ := open_list hf0
  simp [Value.cells] at eq0
  obtain ⟨rfl, rfl, rfl⟩ := eq0
  have h1k := h1
  obtain ⟨a1, rfl⟩ := open_point (hval 1 24 v1 rfl rfl) h1
  have pl := of_laid hL
  clear hA0 hval0
  simp only [List.append_nil] at hW'
  have hlt := fun x hx => hW'.lt x hx
  refine (mof_walk a0 n0 c0  a1 Q0 W pl hm0 hr0).mono fun e W' ⟨he, bel⟩ => ?_
  subst he
  exact ⟨_, rfl, _, _, _, [], _, [], hW', trodAll_mk1 (shut_bool Tryd.underlying4 _), (trodAll_cons_mk (Below.trod laid (by kernel_rfl) (of_decide_eq_true (by kernel_rfl)) h0k bel (fun x hx => hlt x (by simp [hx]))) (trodAll_cons_mk (Below.trod laid (by kernel_rfl) (of_decide_eq_true (by kernel_rfl)) h1k bel (fun x hx => hlt x (by simp [hx]))) trodAll_mk0)), rfl, bel.frame _, fun h => by cases h⟩

set_option maxRecDepth 100000 in
theorem over : Rows.MomentOfSaid :=
  OpenClaim.holds_of_wide 3 Tryd.f3 rfl rfl rfl rfl rfl rfl rfl ⟨rfl, rfl, rfl, rfl, rfl⟩ rfl rfl rfl rfl rfl (by kernel_rfl) Tryd.func3 (by kernel_rfl)
    (of_decide_eq_true (by kernel_rfl)) (by unfold Func.isWrapper; first | (rw [if_pos (by decide +kernel)]; kernel_rfl) | (rw [if_neg (by decide +kernel)]; exact ⟨rfl, rfl⟩))
    (fun os started H enc _ => lifted os started H enc)
theorem proved : Rows.MomentOfCardSaid :=
  Claim7.holds_tied_plain_at .later [] [.data] true _ false
    over (fun _ h => by cases h) (by kernel_rfl) (fun _ h => by cases h) momentOf_row_tie rfl ⟨rfl, rfl⟩ (by kernel_rfl) rfl
    (fun f fn hf hfn => by
      obtain rfl : f = 3 := Option.some.inj ((show Tryd.prog.funcNamed "facet/facetlaw04.MomentOf" = some 3 by kernel_rfl).symm.trans hf) |>.symm
      obtain rfl : fn = Tryd.f3 := (Option.some.inj (Tryd.func3.symm.trans hfn)).symm
      exact ⟨by kernel_rfl, fun j t ht => by
        rw [Tryd.params3] at ht
        have hm : t ∈ [22, 24] := by simpa using Array.mem_of_getElem? ht
        have hall : ([22, 24].all fun u => !Tryd.prog.wantsStandIn u) = true := by kernel_rfl
        exact (show Tryd.prog.wantsStandIn t = false by simpa using List.all_eq_true.1 hall t hm)⟩)
    (by kernel_rfl)
#print axioms proved
end momentOf
end Go.Proofs.YtofjnbebipkgkaaDoor
