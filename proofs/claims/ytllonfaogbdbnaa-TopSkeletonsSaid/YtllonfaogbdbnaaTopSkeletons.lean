/-
  For every input the law TopSkeletons answers true: the statement TopSkeletonsSaid, with no condition.
-/
import Derived.Test.YtllonfaogbdbnaaCrTop
import Derived.Test.YtllonfaogbdbnaaRows
import Derived.ProofKit
import Derived.OpenShut
import Derived.Carry
import Derived.Deep.Slices
import Derived.Deep.Matrix
import Derived.Deep.Fields
import Derived.Deep.Strs
import Derived.ChangeSame
import Derived.Lib.SmallJoins
namespace Go.Proofs.Ytllonfaogbdbnaa
namespace topSkeletons
open Go.ChangeShapes Go.WideShapes Go.ChangeAt Go.RowKit Go.Joins Go.Deep Cr

theorem own : ownKnob Try.prog.godebug = none := by kernel_rfl
theorem laid : laidOutB Try.prog = true := by kernel_rfl
theorem cellsInt : Try.prog.cellsOf 3 = 1 := by kernel_rfl
theorem cellsInts : Try.prog.cellsOf 37 = 1 := by kernel_rfl
theorem cell_flat {w : World} {a : Addr} {v : Value} (h : w.cell? a = some v) : a = ⟨a.block, a.off, none⟩ ∧ a.block < w.heap.size := by
  obtain ⟨b, o, sp⟩ := a
  unfold World.cell? at h
  split at h
  · rename_i e
    cases sp with
    | none => exact ⟨rfl, (Array.getElem?_eq_some_iff.1 e).1⟩
    | some x => simp at h
  · cases h
theorem add_flat (b o n : Nat) : (⟨b, o, none⟩ : Addr).add n = ⟨b, o + n, none⟩ := by
  unfold Addr.add
  split
  · rename_i e; subst e; rfl
  · rfl
theorem il_of {w : World} {a : Addr} {l : List Int} (h : ∀ k, k < l.length → w.cell? (a.add k) = some (.int .i64 (at_ l k))) : IL w (some a) l := fun k hk => by
  have z := h 0 (by omega)
  rw [show a.add 0 = a from rfl] at z
  obtain ⟨fl, hlt⟩ := cell_flat z
  refine ⟨a.block, a.off, congrArg some fl, hlt, ?_⟩
  have y := h k hk
  rw [fl, add_flat] at y
  exact y
section
variable {H : Type} {enc : TypeId × Value → H} {w : World} {base : Nat} {spare : Nat → Bool} {held : Bool}
theorem open_il {fuel : Nat} {cs : List Value} {x : DataW H × List MemPlace} (h : DataW.trod enc Try.prog w base spare held fuel 37 cs = some x) :
    ∃ (a : Option Addr) (c : Nat) (l : List Int), cs = [.slice a l.length c] ∧ l.length ≤ c ∧ c ≤ maxLen ∧ IL w a l := by
  rcases open_ints Try.underlying37 Try.underlying3 cellsInt h with ⟨hcs, _⟩ | ⟨a, len, cap, zs, hcs, hb, hl, hm, hz, hx, hcell, _⟩
  · exact ⟨none, 0, [], hcs, Nat.le_refl _, Nat.zero_le _, fun k hk => absurd hk (Nat.not_lt_zero k)⟩
  · have hlz : len ≤ zs.length := by rw [hz]; split <;> omega
    have e : (zs.take len).length = len := by rw [List.length_take]; omega
    refine ⟨some a, cap, zs.take len, by rw [e]; exact hcs, by omega, hm, il_of fun k hk => ?_⟩
    rw [e] at hk
    rw [at_take _ hk]
    exact hcell k (by omega)
theorem open_ml {fuel : Nat} {cs : List Value} {x : DataW H × List MemPlace} (h : DataW.trod enc Try.prog w base (fun _ => true) held fuel 36 cs = some x) :
    ∃ (a : Option Addr) (c : Nat) (M : List (List Int)), cs = [.slice a M.length c] ∧ M.length ≤ c ∧ c ≤ maxLen ∧ ML w a M := by
  rcases open_int_rows Try.underlying36 Try.underlying37 Try.underlying3 cellsInts cellsInt h with ⟨hcs, _⟩ | ⟨a, len, cap, RA, L, C, Z, hcs, hb, hl, hm, hx, hr⟩
  · exact ⟨none, 0, [], hcs, Nat.le_refl _, Nat.zero_le _, fun k hk => absurd hk (Nat.not_lt_zero k)⟩
  · have e : ((List.range len).map fun r => (Z r).take (L r)).length = len := by simp
    refine ⟨some a, cap, (List.range len).map fun r => (Z r).take (L r), by rw [e]; exact hcs, by omega, hm, fun i hi => ?_⟩
    rw [e] at hi
    obtain ⟨h0, h1, h2, h3, _, h5, h6⟩ := hr i (by omega)
    have er : rw_ ((List.range len).map fun r => (Z r).take (L r)) i = (Z i).take (L i) := by unfold rw_; simp [List.getD, hi]
    have el : ((Z i).take (L i)).length = L i := by rw [List.length_take]; omega
    have z := (hr 0 (by omega)).1
    rw [show a.add 0 = a from rfl] at z
    obtain ⟨fl, hlt⟩ := cell_flat z
    rw [er, el]
    refine ⟨a.block, a.off, RA i, C i, congrArg some fl, hlt, ?_, h1, fun k hk => ?_⟩
    · rw [fl, add_flat] at h0; exact h0
    · rw [el] at hk
      cases ha : RA i with
      | none => have := h5 ha; omega
      | some a' =>
        have := il_of (w := w) (a := a') (l := (Z i).take (L i)) (fun k hk => by
          rw [el] at hk
          rw [at_take _ hk]
          exact (h6 a' ha).2 k (by omega))
        exact this k (by rw [el]; exact hk)
set_option maxRecDepth 100000 in
theorem open_rat {r : Reach} {b0 : Nat} {v : Value} {d : DataW H} {p : List MemPlace} (hv : Value.okWide Try.prog w r b0 46 v) (h : DataW.Trod enc Try.prog w base spare held 46 v d p) : ∃ x0 x1 : Int, v = .agg #[.int .i64 x0, .int .i64 x1] := by
  obtain ⟨cs, rfl, hsz⟩ := okWide_struct Try.underlying46 hv
  obtain ⟨l⟩ := cs
  match l, hsz.trans (show Try.prog.cellsOf 46 = 2 by kernel_rfl) with
  | [c0, c1], _ =>
    obtain ⟨fuel, hf⟩ := h
    obtain ⟨y0, y1, n, _, _, g0, g1⟩ := trod_struct2 Try.underlying46 hf
    simp only [cellsInt] at g0 g1
    obtain ⟨x0, e0, _, _⟩ := DataW.trod_int Try.underlying3 g0
    obtain ⟨x1, e1, _, _⟩ := DataW.trod_int Try.underlying3 g1
    simp [Value.cells] at e0 e1
    subst e0 e1
    exact ⟨x0, x1, rfl⟩
set_option maxRecDepth 100000 in
theorem open_work {r : Reach} {b0 : Nat} {v : Value} {d : DataW H} {p : List MemPlace} (hv : Value.okWide Try.prog w r b0 54 v) (h : DataW.Trod enc Try.prog w base spare held 54 v d p) : ∃ (a0 : Option Addr) (k0 : Nat) (l0 : List Int) (a1 : Option Addr) (k1 : Nat) (l1 : List Int) (a2 : Option Addr) (k2 : Nat) (l2 : List Int), v = .agg #[.slice a0 l0.length k0, .slice a1 l1.length k1, .slice a2 l2.length k2] ∧ (l0.length ≤ k0 ∧ k0 ≤ maxLen ∧ IL w a0 l0) ∧ (l1.length ≤ k1 ∧ k1 ≤ maxLen ∧ IL w a1 l1) ∧ (l2.length ≤ k2 ∧ k2 ≤ maxLen ∧ IL w a2 l2) := by
  obtain ⟨cs, rfl, hsz⟩ := okWide_struct Try.underlying54 hv
  obtain ⟨l⟩ := cs
  match l, hsz.trans (show Try.prog.cellsOf 54 = 3 by kernel_rfl) with
  | [c0, c1, c2], _ =>
    obtain ⟨fuel, hf⟩ := h
    obtain ⟨y0, y1, y2, n, _, _, g0, g1, g2⟩ := trod_struct3 Try.underlying54 hf
    simp only [cellsInts] at g0 g1 g2
    obtain ⟨a0, k0, l0, e0, h0, m0, r0⟩ := open_il g0
    obtain ⟨a1, k1, l1, e1, h1, m1, r1⟩ := open_il g1
    obtain ⟨a2, k2, l2, e2, h2, m2, r2⟩ := open_il g2
    simp [Value.cells] at e0 e1 e2
    subst e0 e1 e2
    exact ⟨a0, k0, l0, a1, k1, l1, a2, k2, l2, rfl, ⟨h0, m0, r0⟩, ⟨h1, m1, r1⟩, ⟨h2, m2, r2⟩⟩
end
set_option maxRecDepth 100000 in
theorem lifted (os : Os) (started : os.Started) (H : Type) (enc : TypeId × Value → H) :
    ReturnsInHanded {} Try.checked os 5 .any (Rows.topSkeletonsSpec.pre6 enc Try.prog Try.f5 Rows.topSkeletonsRow.domain false) (Rows.topSkeletonsSpec.post enc Try.prog Try.f5 false true false false) := by
  refine returnsInHanded_of_change (C := Try.checked) own started (by kernel_rfl) Try.func5
    (ChangeSpec.witness6 (enc := enc) (C := Try.checked) false ⟨#[], #[.slice none 0 0, .agg #[.slice none 0 0, .slice none 0 0, .slice none 0 0], .agg #[.int .i64 0, .int .i64 0]], []⟩ 8 (by kernel_rfl) (by kernel_rfl) (by kernel_rfl) (by kernel_rfl)) ?_
  intro W base args ds gs before hval0 hW hcnd _
  have hval : ∀ (j : Nat) t v, Try.f5.params[j]? = some t → args[j]? = some v → Value.okWide Try.prog W .any base t v := hval0
  have hW' := hW
  obtain ⟨p, q, hA0, hV, rfl, hfz, hnd⟩ := hW
  have hA : DataW.TrodAll enc Try.prog W 0 (fun _ => true) true Try.f5.params.toList args.toList ds p := hA0
  rw [Try.params5] at hA hval
  obtain ⟨v0, vs0, d0, ds0, p0, q0, _hargs, rfl, rfl, h0, r0⟩ := trodAll_cons hA
  obtain ⟨v1, vs1, d1, ds1, p1, q1, rfl, rfl, rfl, h1, r1⟩ := trodAll_cons r0
  obtain ⟨v2, vs2, d2, ds2, p2, q2, rfl, rfl, rfl, h2, r2⟩ := trodAll_cons r1
  obtain ⟨rfl, rfl, rfl⟩ := trodAll_nil r2
  obtain rfl : args = #[v0, v1, v2] := by cases args; simp_all
  obtain ⟨rfl, rfl⟩ := trodVars_none hV
  have h0k := h0
  obtain ⟨b0, len0, cap0, rfl⟩ := okWide_slice Try.underlying36 (hval 0 36 v0 rfl rfl)
  obtain ⟨fuel0, hf0⟩ := h0
  obtain ⟨a0, c0, l0, e0, q0, m0, r0'⟩ := open_ml hf0
  simp [Value.cells] at e0
  obtain ⟨rfl, rfl, rfl⟩ := e0
  have h1k := h1
  obtain ⟨a1, c1, l1, b1, d1', m1, f1, g1, k1, rfl, ⟨x1, y1, z1⟩, ⟨s1, t1, u1⟩, ⟨o1, oo1, ooo1⟩⟩ := open_work (hval 1 54 v1 rfl rfl) h1
  have h2k := h2
  obtain ⟨a2, b2, rfl⟩ := open_rat (hval 2 46 v2 rfl rfl) h2
  clear hA0 hval0
  simp only [List.append_nil] at hW'
  have hlt := fun x hx => hW'.lt x hx
  refine (topsk_walk b0 cap0 l0 a1 c1 l1 b1 d1' m1 f1 g1 k1 a2 b2 W q0 m0 r0' x1 y1 z1 s1 t1 u1 o1 oo1 ooo1).mono fun e W' ⟨he, bel⟩ => ?_
  subst he
  exact ⟨_, rfl, _, _, _, [], _, [], hW', trodAll_mk1 (shut_bool Try.underlying4 _), (trodAll_cons_mk (Below.trod laid (by kernel_rfl) (of_decide_eq_true (by kernel_rfl)) h0k bel (fun x hx => hlt x (by simp [hx]))) (trodAll_cons_mk (Below.trod laid (by kernel_rfl) (of_decide_eq_true (by kernel_rfl)) h1k bel (fun x hx => hlt x (by simp [hx]))) (trodAll_cons_mk (Below.trod laid (by kernel_rfl) (of_decide_eq_true (by kernel_rfl)) h2k bel (fun x hx => hlt x (by simp [hx]))) trodAll_mk0))), rfl, bel.frame _, fun h => by cases h⟩

set_option maxRecDepth 100000 in
theorem proved : Rows.TopSkeletonsSaid :=
  OpenClaim.holds_of_wide 5 Try.f5 rfl rfl rfl rfl rfl rfl rfl ⟨rfl, rfl, rfl, rfl, rfl⟩ rfl rfl rfl rfl rfl (by kernel_rfl) Try.func5 (by kernel_rfl)
    (of_decide_eq_true (by kernel_rfl)) (by unfold Func.isWrapper; first | (rw [if_pos (by decide +kernel)]; kernel_rfl) | (rw [if_neg (by decide +kernel)]; exact ⟨rfl, rfl⟩))
    (fun os started H enc _ => lifted os started H enc)
#print axioms proved
end topSkeletons
end Go.Proofs.Ytllonfaogbdbnaa
