/-
  Numbers appended to a list of the call's own: what the append comes to, as one step of a region and in a plain walk.
-/
import Derived.Test.YtllonfaogbdbnaaCr9
import Derived.Maps.AppendAt
import Derived.Laws.OwnMore
import Derived.Deep.RegionLawGrows
import Derived.Deep.AppendSrc
namespace Go.Proofs.Ytllonfaogbdbnaa
open Go.ChangeShapes Go.WideShapes Go.RowKit
open Cr
theorem vals_app (l r : List Int) : vals l ++ vals r = vals (l ++ r) := by unfold vals; rw [List.map_append]
theorem cells_of {w : World} {A : Option Addr} {l : List Int} (h : IL w A l) : ∀ ad, A = some ad → ∀ j v, (vals l)[j]? = some v → w.cell? (ad.add j) = some v := by
  intro ad e j v hv
  have hj : j < l.length := by
    rcases Nat.lt_or_ge j l.length with h | h
    · exact h
    · rw [List.getElem?_eq_none (by rw [len_vals]; exact h)] at hv; cases hv
  obtain ⟨ad', e', hc⟩ := src_of h (by rw [len_vals]; omega)
  rw [e] at e'
  injection e' with e'
  subst e'
  exact hc j v hv
/-- a list of the call's own, in blocks from base on -/
abbrev OI (w : World) (base : Nat) (v : Value) (l : List Int) : Prop := w.ownsRow base 3 1 v l.length (vals l)
theorem oi_nil (w : World) (base : Nat) : OI w base (.slice none 0 0) [] := World.ownsRow_nil w base _ _
theorem oi_form {w : World} {base : Nat} {v : Value} {l : List Int} (h : OI w base v l) : (∃ g c, v = .slice (some ⟨g, 0, none⟩) l.length c ∧ l.length ≤ c ∧ base ≤ g) ∨ (v = .slice none 0 0 ∧ l = []) := by
  rcases h.2 with ⟨e, e0⟩ | ⟨g, cap, cur, e, hb, _, hl, _⟩
  · exact .inr ⟨e, List.eq_nil_of_length_eq_zero e0⟩
  · exact .inl ⟨g, cap, e, hl, hb⟩
theorem oi_slice {w : World} {base : Nat} {v : Value} {l : List Int} (h : OI w base v l) : ∃ A c, v = .slice A l.length c ∧ l.length ≤ c := by
  rcases oi_form h with ⟨g, c, e, hl, _⟩ | ⟨e, e0⟩
  · exact ⟨_, c, e, hl⟩
  · subst e0; exact ⟨none, 0, e, Nat.le_refl _⟩
theorem oi_il {w : World} {base : Nat} {A : Option Addr} {n c : Nat} {l : List Int} (h : OI w base (.slice A n c) l) : IL w A l := fun k hk => by
  rcases h.2 with ⟨e, e0⟩ | ⟨g, cap, cur, e, hb, hg, hl, hm, hs, ht⟩
  · omega
  · injection e with e1 e2 e3
    subst e1
    refine ⟨g, 0, rfl, (Array.getElem?_eq_some_iff.1 hg).1, ?_⟩
    have z := h.cells (g := g) rfl k _ (vals_get l hk)
    have ea : (⟨g, 0, none⟩ : Addr).add k = ⟨g, 0 + k, none⟩ := by
      unfold Addr.add
      split
      · rename_i e; subst e; rfl
      · rfl
    rw [ea] at z
    exact z
theorem oi_below {w w1 : World} {base B : Nat} {v : Value} {l : List Int} (h : OI w base v l) (hb : Below w.heap.size w w1) (hB : B ≤ base) : OI w1 B v l := by
  refine ⟨h.1, ?_⟩
  rcases h.2 with hn | ⟨g, cap, cur, rfl, hg, hgg, rest⟩
  · exact .inl hn
  · exact .inr ⟨g, cap, cur, rfl, by omega, by rw [hb.block g (Array.getElem?_eq_some_iff.1 hgg).1]; exact hgg, rest⟩
theorem oi_set {w : World} {base : Nat} {v : Value} {l : List Int} (h : OI w base v l) {a : Addr} (ha : v.ownBlock ≠ some a.block) (u : Value) : OI (w.setCell a u) base v l := by
  refine ⟨h.1, ?_⟩
  rcases h.2 with hn | ⟨g, cap, cur, rfl, hg, hgg, rest⟩
  · exact .inl hn
  · exact .inr ⟨g, cap, cur, rfl, hg, by rw [Below.heap_setCell _ _ _ _ (by intro e; exact ha (by show some g = _; rw [e]))]; exact hgg, rest⟩
theorem infoI' : ∃ i, Try.prog.info? 3 = some i ∧ i.zero = some (.int .i64 0) ∧ i.size = 1 ∧ i.bytes = 8 := by
  have h := infoI
  cases e : Try.prog.info? 3 with
  | none => rw [e] at h; cases h
  | some i => rw [e] at h; simp at h; exact ⟨i, rfl, h.1, h.2.1, h.2.2⟩
/-- an append of a list of numbers to a list of the call's own -/
theorem appI {w : World} (base : Nat) (ty : TypeId) (v : Value) (xs : List Int) (hown : OI w base v xs) (hbase : base ≤ w.heap.size) (A : Option Addr) (m c : Nat) (l : List Int) (h : IL w A l) (hm : m = l.length) (hn : xs.length + m ≤ 1000000) :
    ∃ A' c' w', (Builtin.append_ #[37, 37] ty #[v, .slice A m c]).run Try.prog w = .ok (.slice A' (xs ++ l).length c') w' ∧ OI w' base (.slice A' (xs ++ l).length c') (xs ++ l) ∧ w.grownBy w' v.ownBlock ∧ (Value.ownBlock (.slice A' (xs ++ l).length c') = v.ownBlock ∨ Value.ownBlock (.slice A' (xs ++ l).length c') = some w.heap.size) := by
  subst hm
  obtain ⟨i, hi, z1, z2, z3⟩ := infoI'
  have hu : Try.prog.underlying 37 = some (.slice 3) := Try.underlying37
  have fin : ∀ v' w', (Builtin.append_ #[37, 37] ty #[v, .slice A l.length c]).run Try.prog w = .ok v' w' → w'.ownsRow base 3 1 v' (xs.length + l.length) (vals xs ++ vals l) → w.grownBy w' v.ownBlock → (v'.ownBlock = v.ownBlock ∨ v'.ownBlock = some w.heap.size) →
      ∃ A' c' w', (Builtin.append_ #[37, 37] ty #[v, .slice A l.length c]).run Try.prog w = .ok (.slice A' (xs ++ l).length c') w' ∧ OI w' base (.slice A' (xs ++ l).length c') (xs ++ l) ∧ w.grownBy w' v.ownBlock ∧ (Value.ownBlock (.slice A' (xs ++ l).length c') = v.ownBlock ∨ Value.ownBlock (.slice A' (xs ++ l).length c') = some w.heap.size) := by
    intro v' w' h1 h2 h3 h4
    have h2 : OI w' base v' (xs ++ l) := by
      show w'.ownsRow base 3 1 v' (xs ++ l).length (vals (xs ++ l))
      rw [List.length_append, ← vals_app]; exact h2
    obtain ⟨A', c', rfl, _⟩ := oi_slice h2
    exact ⟨A', c', w', h1, h2, h3, h4⟩
  cases A with
  | some ad =>
    obtain ⟨v', w', h1, h2, h3, _, h5⟩ := run_append_own_at (P := Try.prog) w base 37 ty 3 i _ 1 8 hu hi z1 z2 z3 rfl (by decide) v xs.length (vals xs) hown ad l.length c (vals l) (by rw [len_vals]; omega) (cells_of h ad rfl) vals_one (by unfold maxLen; omega) (by omega) hbase
    exact fin v' w' h1 h2 h3 h5
  | none =>
    have h0 : l = [] := by
      cases l with
      | nil => rfl
      | cons x xs => obtain ⟨_, _, e, _⟩ := h 0 (by simp); cases e
    subst h0
    refine fin v w ?_ (by rw [show vals ([] : List Int) = [] from rfl, List.append_nil]; exact hown) (World.grownBy.refl _ _) (.inl rfl)
    rcases hown.2 with ⟨rfl, _⟩ | ⟨g, cap, cur, rfl, _, _, hnc, _⟩
    · simp [Builtin.append_, run_underlying hu, sizeOf, typeInfo, hi, Builtin.lenOf, Builtin.firstCells]
    · simp [Builtin.append_, run_underlying hu, sizeOf, typeInfo, hi, Builtin.lenOf, Builtin.firstCells, hnc, storeCells]
/-- an append, as one step of a region, by what it comes to -/
theorem stepA {P : Program} {ops : Array Oper} {o : Oper} {a : Act} {w : World} {K : Act → World → Prop} {Q : Exit → Act → World → Prop} {E : Prop}
    (hg : o.guard = none) (s x : Operand) (t : TypeId) (hop : o.op = Op.call { callee := Callee.builtin Builtin.append, args := #[s, x], argTypes := #[t, t] })
    (vs vx v : Value) (w' : World) (hs : a.eval s = vs) (hx : a.eval x = vx) (hrun : (Builtin.append_ #[t, t] o.type #[vs, vx]).run P w = .ok v w') (hK : K (a.put o.dst v) w') :
    if Region.wanted o (yielded ops a.tmps) = true then Oper.wp P o a w K Q else E := by
  have hw : Region.wanted o (yielded ops a.tmps) = true := by simp [Region.wanted, hg]
  rw [if_pos hw]
  unfold Oper.wp
  simp [execOp, hop, resolve, invoke, builtin, hs, hx, hrun, Result.andThen]
  exact hK
/-- the same in a plain walk -/
theorem plainA {P : Program} {ops : Array Oper} {rest : List Oper} {o : Oper} {a : Act} {w : World} {Q : Exit → Act → World → Prop}
    (hg : o.guard = none) (s x : Operand) (t : TypeId) (hop : o.op = Op.call { callee := Callee.builtin Builtin.append, args := #[s, x], argTypes := #[t, t] })
    (vs vx v : Value) (w' : World) (hs : a.eval s = vs) (hx : a.eval x = vx) (hrun : (Builtin.append_ #[t, t] o.type #[vs, vx]).run P w = .ok v w') (hK : wpList P ops Q rest (a.put o.dst v) w') :
    wpList P ops Q (o :: rest) a w := by
  refine wpList_plain hg fun K hK' => ?_
  unfold Oper.wp
  simp [execOp, hop, resolve, invoke, builtin, hs, hx, hrun, Result.andThen]
  exact hK' _ _ hK
theorem il_drew {w : World} {A : Option Addr} {l : List Int} (h : IL w A l) : IL w.drew A l := h
theorem oi_drew {w : World} {base : Nat} {v : Value} {l : List Int} (h : OI w base v l) : OI w.drew base v l := h
theorem stepI {ops : Array Oper} {o : Oper} {a : Act} {w : World} {K : Act → World → Prop} {Q : Exit → Act → World → Prop} {E : Prop}
    (hg : o.guard = none) (s x : Operand) (hop : o.op = Op.call { callee := Callee.builtin Builtin.append, args := #[s, x], argTypes := #[37, 37] })
    (base : Nat) (v : Value) (xs : List Int) (hs : a.eval s = v) (hown : OI w base v xs) (hbase : base ≤ w.heap.size) (A : Option Addr) (m c : Nat) (l : List Int) (hx : a.eval x = .slice A m c) (h : IL w A l) (hm : m = l.length) (hn : xs.length + m ≤ 1000000)
    (L : Nat) (hL : (xs ++ l).length = L)
    (hK : ∀ A' c' w', OI w' base (.slice A' L c') (xs ++ l) → w.grownBy w' v.ownBlock → (Value.ownBlock (.slice A' L c') = v.ownBlock ∨ Value.ownBlock (.slice A' L c') = some w.heap.size) → K (a.put o.dst (.slice A' L c')) w') :
    if Region.wanted o (yielded ops a.tmps) = true then Oper.wp Try.prog o a w K Q else E := by
  subst hL
  obtain ⟨A', c', w', h1, h2, h3, h4⟩ := appI base o.type v xs hown hbase A m c l h hm hn
  exact stepA hg s x _ hop _ _ _ _ hs hx h1 (hK A' c' w' h2 h3 h4)
theorem wpI {ops : Array Oper} {rest : List Oper} {o : Oper} {a : Act} {w : World} {Q : Exit → Act → World → Prop}
    (hg : o.guard = none) (s x : Operand) (hop : o.op = Op.call { callee := Callee.builtin Builtin.append, args := #[s, x], argTypes := #[37, 37] })
    (base : Nat) (v : Value) (xs : List Int) (hs : a.eval s = v) (hown : OI w base v xs) (hbase : base ≤ w.heap.size) (A : Option Addr) (m c : Nat) (l : List Int) (hx : a.eval x = .slice A m c) (h : IL w A l) (hm : m = l.length) (hn : xs.length + m ≤ 1000000)
    (L : Nat) (hL : (xs ++ l).length = L)
    (hK : ∀ A' c' w', OI w' base (.slice A' L c') (xs ++ l) → w.grownBy w' v.ownBlock → (Value.ownBlock (.slice A' L c') = v.ownBlock ∨ Value.ownBlock (.slice A' L c') = some w.heap.size) → wpList Try.prog ops Q rest (a.put o.dst (.slice A' L c')) w') :
    wpList Try.prog ops Q (o :: rest) a w := by
  subst hL
  obtain ⟨A', c', w', h1, h2, h3, h4⟩ := appI base o.type v xs hown hbase A m c l h hm hn
  exact plainA hg s x _ hop _ _ _ _ hs hx h1 (hK A' c' w' h2 h3 h4)
theorem below_grown {B : Nat} {a w w' : World} {row : Option Nat} (h : Below B a w) (hg : w.grownBy w' row) (hB : B ≤ w.heap.size) (hr : ∀ g, row = some g → B ≤ g) : Below B a w' := h.grown hg hB hr
theorem il_one (w : World) (x : Int) : IL (w.alloc (.cells #[.int .i64 x] 3)) (some ⟨w.heap.size, 0, none⟩) [x] := fun k hk => by
  obtain rfl : k = 0 := by simp at hk; exact hk
  exact ⟨w.heap.size, 0, rfl, by simp, by show (w.alloc _).cell? ⟨w.heap.size, 0, none⟩ = some (.int .i64 x); go_simp⟩

end Go.Proofs.Ytllonfaogbdbnaa
