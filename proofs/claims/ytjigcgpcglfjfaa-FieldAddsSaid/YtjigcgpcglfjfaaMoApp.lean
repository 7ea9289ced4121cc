/-
  Charged panels appended to a list of the call's own: what the append comes to.
-/
import Derived.Test.YtjigcgpcglfjfaaChRow
import Derived.Deep.RegionLawGrows
import Derived.Deep.AppendSrc
namespace Go.Proofs.Ytjigcgpcglfjfaa
open Go.ChangeShapes Go.WideShapes Go.RowKit
open Sh
theorem ccs_len (Q : Nat → Ch) (n : Nat) : (ccs Q n).length = n * 10 := by simp [ccs]
theorem ccs_one (Q : Nat → Ch) (n : Nat) : ∀ u ∈ ccs Q n, u.oneCell' = true := by
  intro u h
  unfold ccs at h
  obtain ⟨m, _, rfl⟩ := List.mem_map.1 h
  unfold chcell
  split <;> rfl
theorem ccs_join (Q R : Nat → Ch) (n m : Nat) : ccs Q n ++ ccs R m = ccs (joinQ Q n R) (n + m) := by
  induction m with
  | zero =>
    have e : ccs R 0 = [] := rfl
    rw [e, List.append_nil, Nat.add_zero]
    unfold ccs
    refine List.map_congr_left fun j hj => ?_
    have := List.mem_range.1 hj
    have h : j / 10 < n := by omega
    rw [show joinQ Q n R (j / 10) = Q (j / 10) from if_pos h]
  | succ m ih =>
    have e : joinQ Q n R (n + m) = R m := by
      unfold joinQ
      rw [if_neg (by omega), show n + m - n = m by omega]
    rw [ccs_succ, ← List.append_assoc, ih, show n + (m + 1) = n + m + 1 by omega, ccs_succ, e]
theorem ccs_zero (Q R : Nat → Ch) : ccs Q 0 = ccs R 0 := rfl
/-- the cells of a row are those that its list names -/
theorem rowC_news {w : World} {b off n : Nat} {Q : Nat → Ch} (r : RowC w b off n Q) : ∀ j u, (ccs Q n)[j]? = some u → w.cell? ((⟨b, off, none⟩ : Addr).add j) = some u := by
  intro j u h
  have hj : j < n * 10 := by
    have := (List.getElem?_eq_some_iff.1 h).1
    rw [ccs_len] at this
    exact this
  have hk : j / 10 < n := by omega
  have e : j / 10 * 10 + j % 10 = j := by omega
  have z := ccs_at Q n (j / 10) (j % 10) hk (by omega)
  rw [e] at z
  rw [z] at h
  have hu : chcell (Q (j / 10)) (j % 10) = u := by simpa using h
  have ea : (⟨b, off, none⟩ : Addr).add j = ⟨b, off + j / 10 * 10 + j % 10, none⟩ := by
    unfold Addr.add
    split <;> simp_all <;> omega
  rw [ea, ← hu]
  obtain ⟨h0, h1, h2, h3, h4, h5, h6, h7, h8, h9⟩ := r.2 (j / 10) hk
  have m10 : j % 10 < 10 := by omega
  generalize j % 10 = t at m10 ⊢
  match t, m10 with
  | 0, _ => exact h0
  | 1, _ => exact h1
  | 2, _ => exact h2
  | 3, _ => exact h3
  | 4, _ => exact h4
  | 5, _ => exact h5
  | 6, _ => exact h6
  | 7, _ => exact h7
  | 8, _ => exact h8
  | 9, _ => exact h9
/-- an append of a whole list to a row of the call's own -/
theorem appC_run {w : World} (base : Nat) (ty : TypeId) (v : Value) (n : Nat) (xs : List Value) (hown : w.ownsRow base 90 10 v n xs) (hbase : base ≤ w.heap.size) (ao : Option Addr) (m c : Nat) (R : Nat → Ch) (r : LstC w ao m R) (hm : n + m ≤ 1000000) :
    ∃ v' w', (Builtin.append_ #[39, 39] ty #[v, .slice ao m c]).run Try.prog w = .ok v' w' ∧ w'.ownsRow base 90 10 v' (n + m) (xs ++ ccs R m) ∧ w.grownBy w' v.ownBlock := by
  obtain ⟨i, hi, hz⟩ : ∃ i, Try.prog.info? 90 = some i ∧ (i.zero, i.size, i.bytes) = (some (.agg #[.int .i64 0, .int .i64 0, .int .i64 0, .int .i64 0, .int .i64 0, .int .i64 0, .int .i64 0, .int .i64 0, .int .i64 0, .int .i64 0]), 10, 80) := by
    have h := infoC
    cases e : Try.prog.info? 90 with
    | none => rw [e] at h; cases h
    | some i => rw [e] at h; exact ⟨i, rfl, by simpa using h⟩
  have z1 : i.zero = some (.agg #[.int .i64 0, .int .i64 0, .int .i64 0, .int .i64 0, .int .i64 0, .int .i64 0, .int .i64 0, .int .i64 0, .int .i64 0, .int .i64 0]) := (Prod.mk.inj hz).1
  have z2 : i.size = 10 := (Prod.mk.inj (Prod.mk.inj hz).2).1
  have z3 : i.bytes = 80 := (Prod.mk.inj (Prod.mk.inj hz).2).2
  have hu : Try.prog.underlying 39 = some (.slice 90) := Try.underlying39
  have hl : n + m ≤ maxLen := by unfold maxLen; omega
  have go (ad : Addr) (hc : ∀ j u, (ccs R m)[j]? = some u → w.cell? (ad.add j) = some u) := run_append_own (P := Try.prog) w base 39 ty 90 i _ 10 80 hu hi z1 z2 z3 rfl (by decide) v n xs hown ad m c (ccs R m) (ccs_len R m) hc (ccs_one R m) hl (by omega) hbase
  cases ao with
  | some ad =>
    rcases Nat.eq_zero_or_pos m with h0 | h0
    · subst h0
      obtain ⟨v', w', h1, h2, h3, _⟩ := go ad (fun j u h => by cases (show (ccs R 0)[j]? = none from by simp [ccs]).symm.trans h)
      exact ⟨v', w', h1, h2, h3⟩
    · obtain ⟨b, off, e, r'⟩ := r h0
      cases e
      obtain ⟨v', w', h1, h2, h3, _⟩ := go _ (rowC_news r')
      exact ⟨v', w', h1, h2, h3⟩
  | none =>
    have h0 : m = 0 := by
      rcases Nat.eq_zero_or_pos m with h0 | h0
      · exact h0
      · obtain ⟨b, off, e, _⟩ := r h0
        cases e
    subst h0
    have e0 : ccs R 0 = [] := rfl
    refine ⟨v, w, ?_, ?_, World.grownBy.refl _ _⟩
    · rcases hown.2 with ⟨rfl, rfl⟩ | ⟨g, cap, cur, rfl, _, _, hnc, _⟩
      · simp [Builtin.append_, run_underlying hu, sizeOf, typeInfo, hi, Builtin.lenOf, Builtin.firstCells]
      · simp [Builtin.append_, run_underlying hu, sizeOf, typeInfo, hi, Builtin.lenOf, Builtin.firstCells, hnc, storeCells]
    · rw [e0, List.append_nil, Nat.add_zero]
      exact hown
/-- an append, as one step of a region, by what it comes to -/
theorem stepC {P : Program} {ops : Array Oper} {o : Oper} {a : Act} {w : World} {K : Act → World → Prop} {Q : Exit → Act → World → Prop} {E : Prop}
    (hg : o.guard = none) (s x : Operand) (t : TypeId) (hop : o.op = Op.call { callee := Callee.builtin Builtin.append, args := #[s, x], argTypes := #[t, t] })
    (vs vx v : Value) (w' : World) (hs : a.eval s = vs) (hx : a.eval x = vx) (hrun : (Builtin.append_ #[t, t] o.type #[vs, vx]).run P w = .ok v w') (hK : K (a.put o.dst v) w') :
    if Region.wanted o (yielded ops a.tmps) = true then Oper.wp P o a w K Q else E := by
  have hw : Region.wanted o (yielded ops a.tmps) = true := by simp [Region.wanted, hg]
  rw [if_pos hw]
  unfold Oper.wp
  simp [execOp, hop, resolve, invoke, builtin, hs, hx, hrun, Result.andThen]
  exact hK
/-- the same in a plain walk -/
theorem plainC {P : Program} {ops : Array Oper} {rest : List Oper} {o : Oper} {a : Act} {w : World} {Q : Exit → Act → World → Prop}
    (hg : o.guard = none) (s x : Operand) (t : TypeId) (hop : o.op = Op.call { callee := Callee.builtin Builtin.append, args := #[s, x], argTypes := #[t, t] })
    (vs vx v : Value) (w' : World) (hs : a.eval s = vs) (hx : a.eval x = vx) (hrun : (Builtin.append_ #[t, t] o.type #[vs, vx]).run P w = .ok v w') (hK : wpList P ops Q rest (a.put o.dst v) w') :
    wpList P ops Q (o :: rest) a w := by
  refine wpList_plain hg fun K hK' => ?_
  unfold Oper.wp
  simp [execOp, hop, resolve, invoke, builtin, hs, hx, hrun, Result.andThen]
  exact hK' _ _ hK

end Go.Proofs.Ytjigcgpcglfjfaa
