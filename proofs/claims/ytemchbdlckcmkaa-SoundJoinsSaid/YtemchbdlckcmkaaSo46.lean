/-
  What the law SoundJoins stands on: two lists of pulses as one, in memory; its region that draws its order.
-/
import Derived.Test.YtemchbdlckcmkaaSoMf
import Derived.Test.YtemchbdlckcmkaaSoE
import Derived.Deep.DeepCutAuto
namespace Go.Proofs.Ytemchbdlckcmkaa
open Go.ChangeShapes Go.WideShapes Go.RowKit
open Sh
def JQ (Q : Nat → Pu) (n : Nat) (Q' : Nat → Pu) (k : Nat) : Pu := if k < n then Q k else Q' (k - n)
theorem pucs_join (Q Q' : Nat → Pu) (n : Nat) : ∀ m, pucs Q n ++ pucs Q' m = pucs (JQ Q n Q') (n + m)
  | 0 => by
    show pucs Q n ++ [] = _
    rw [List.append_nil, Nat.add_zero]
    exact pucs_eq fun k hk => by unfold JQ; rw [if_pos hk]
  | m + 1 => by
    show pucs Q n ++ (pucs Q' m ++ pucl (Q' m)) = pucs (JQ Q n Q') (n + m) ++ pucl (JQ Q n Q' (n + m))
    rw [← List.append_assoc, pucs_join Q Q' n m]
    have : JQ Q n Q' (n + m) = Q' m := by unfold JQ; rw [if_neg (by omega), show n + m - n = m by omega]
    rw [this]
/-- an append of a list of pulses to a row of the call's own -/
theorem app8_run {w : World} (base : Nat) (ty : TypeId) (v : Value) (n : Nat) (xs : List Value) (hown : w.ownsRow base 27 11 v n xs) (hbase : base ≤ w.heap.size) (ao : Option Addr) (m c : Nat) (R : Nat → Pu) (r : LstU w ao m R) (hm : n + m ≤ 1000000) :
    ∃ v' w', (Builtin.append_ #[37, 37] ty #[v, .slice ao m c]).run Try.prog w = .ok v' w' ∧ w'.ownsRow base 27 11 v' (n + m) (xs ++ pucs R m) ∧ w.grownBy w' v.ownBlock := by
  obtain ⟨i0, hi, z1, z2, z3⟩ := info_parts infoPu8
  have hu : Try.prog.underlying 37 = some (.slice 27) := Try.underlying37
  have hl : n + m ≤ maxLen := by unfold maxLen; omega
  have go (ad : Addr) (hc : ∀ j u, (pucs R m)[j]? = some u → w.cell? (ad.add j) = some u) := run_append_own (P := Try.prog) w base 37 ty 27 i0 (.agg #[.int .i64 0, .int .i64 0, .int .i64 0, .int .i64 0, .int .i64 0, .int .i64 0, .int .i64 0, .int .i64 0, .int .i64 0, .int .i64 0, .int .i64 0]) 11 88 hu hi z1 z2 z3 rfl (by decide) v n xs hown ad m c (pucs R m) (pucs_len R m) hc (pucs_one R m) hl (by omega) hbase
  cases ao with
  | some ad =>
    rcases Nat.eq_zero_or_pos m with h0 | h0
    · subst h0
      obtain ⟨v', w', h1, h2, h3, _⟩ := go ad (fun j u h => by cases h)
      exact ⟨v', w', h1, h2, h3⟩
    · obtain ⟨b, off, e, r'⟩ := r h0
      cases e
      obtain ⟨v', w', h1, h2, h3, _⟩ := go _ (rowU_mem r')
      exact ⟨v', w', h1, h2, h3⟩
  | none =>
    have h0 : m = 0 := by
      rcases Nat.eq_zero_or_pos m with h0 | h0
      · exact h0
      · obtain ⟨b, off, e, _⟩ := r h0
        cases e
    subst h0
    refine ⟨v, w, ?_, ?_, World.grownBy.refl _ _⟩
    · rcases hown.2 with ⟨rfl, rfl⟩ | ⟨g, cap, cur, rfl, _, _, hnc, _⟩
      · simp [Builtin.append_, run_underlying hu, sizeOf, typeInfo, hi, Builtin.lenOf, Builtin.firstCells]
      · simp [Builtin.append_, run_underlying hu, sizeOf, typeInfo, hi, Builtin.lenOf, Builtin.firstCells, hnc, storeCells]
    · show w.ownsRow base 27 11 v (n + 0) (xs ++ [])
      rw [List.append_nil, Nat.add_zero]
      exact hown
theorem stepC8 {P : Program} {ops : Array Oper} {o : Oper} {a : Act} {w : World} {K : Act → World → Prop} {Q : Exit → Act → World → Prop} {E : Prop}
    (hg : o.guard = none) (s x : Operand) (t : TypeId) (hop : o.op = Op.call { callee := Callee.builtin Builtin.append, args := #[s, x], argTypes := #[t, t] })
    (vs vx v : Value) (w' : World) (hs : a.eval s = vs) (hx : a.eval x = vx) (hrun : (Builtin.append_ #[t, t] o.type #[vs, vx]).run P w = .ok v w') (hK : K (a.put o.dst v) w') :
    if Region.wanted o (yielded ops a.tmps) = true then Oper.wp P o a w K Q else E := by
  have hw : Region.wanted o (yielded ops a.tmps) = true := by simp [Region.wanted, hg]
  rw [if_pos hw]
  unfold Oper.wp
  simp [execOp, hop, resolve, invoke, builtin, hs, hx, hrun, Result.andThen]
  exact hK
/-- what the region keeps: all that was there, and the ear -/
def JNB (wr W : World) (eb : Nat) (x : P3) (s t d : Int) : Prop := Below wr.heap.size wr W ∧ OwnE W eb x s t d
def z8 (W : World) (G : Nat) : Prop := W.heap[G]? = some (.cells #[.int .i64 0, .int .i64 0] 31)
theorem z8_new (W : World) : z8 (W.alloc (.cells #[.int .i64 0, .int .i64 0] 31)) W.heap.size := heap_alloc_new W _
theorem z8_below {W W1 : World} {G : Nat} (h : z8 W G) (hb : Below W.heap.size W W1) : z8 W1 G := (hb.block G (Array.getElem?_eq_some_iff.1 h).1).trans h
theorem z8_alloc {W : World} {G : Nat} (h : z8 W G) (o : Obj) : z8 (W.alloc o) G := z8_below h ((Below.refl _ _).alloc (Nat.le_refl _) _)
theorem z8_pair {W : World} {G : Nat} (h : z8 W G) : Pair W G 0 0 := by
  have hl := (Array.getElem?_eq_some_iff.1 h).1
  unfold z8 at h
  refine ⟨?_, ?_, ?_, ?_, hl⟩ <;> simp [World.cell?, World.frozen?, h]
theorem z8_drew {W : World} {G : Nat} (h : z8 W G) : z8 W.drew G := h
theorem z8_use {W : World} {G : Nat} {C : Prop} (h : z8 W G) (k : Pair W G 0 0 → C) : C := k (z8_pair h)
theorem z8_keep {W W1 : World} {G B n : Nat} {v : Value} {xs : List Value} (h : z8 W G) (ho : W.ownsRow B 27 11 v n xs) (hg : W.grownBy W1 v.ownBlock) : z8 W1 G := by
  have hl := (Array.getElem?_eq_some_iff.1 h).1
  have ne : some G ≠ v.ownBlock := by
    intro e
    rcases ho.2 with ⟨rfl, _⟩ | ⟨g, cap, cur, rfl, hb, hg', _⟩
    · cases e
    · cases e
      unfold z8 at h
      rw [h] at hg'
      exact absurd (Obj.cells.inj (Option.some.inj hg')).2.1 (by decide)
  exact (hg.block G hl ne).trans h
theorem jn_in {wr W W1 : World} {eb : Nat} {x : P3} {s t d : Int} (h : JNB wr W eb x s t d) (he : eb < wr.heap.size) (hb : Below wr.heap.size W W1) : JNB wr W1 eb x s t d := ⟨h.1.trans hb, ownE_in h.2 hb he⟩
theorem step_jn {ops : Array Oper} {o : Oper} {y : Act} {W : World} {K : Act → World → Prop} {Q0 : Exit → Act → World → Prop} {E : Prop} {wr : World} {eb : Nat} {x : P3} {s t d : Int} {v : Value} {n : Nat} {Q : Nat → Pu}
    (hg : o.guard = none) (p1 p2 : Operand) (hop : o.op = Op.call { callee := Callee.builtin Builtin.append, args := #[p1, p2], argTypes := #[37, 37] }) (hs : y.eval p1 = v)
    (a : Option Addr) (m cap : Nat) (hx : y.eval p2 = .slice a m cap) (ho : W.ownsRow wr.heap.size 27 11 v n (pucs Q n)) (h : JNB wr W eb x s t d) (he : eb < wr.heap.size) (Q' : Nat → Pu) (r : LstU wr a m Q') (hn : n + m ≤ 60)
    (hK : ∀ v' w', w'.ownsRow wr.heap.size 27 11 v' (n + m) (pucs (JQ Q n Q') (n + m)) → JNB wr w' eb x s t d → (∀ G, z8 W G → z8 w' G) → K (y.put o.dst v') w') :
    if Region.wanted o (yielded ops y.tmps) = true then Oper.wp Try.prog o y W K Q0 else E := by
  obtain ⟨v', w', h1, h2, h3⟩ := app8_run (w := W) wr.heap.size o.type v n _ ho h.1.size a m cap Q' (lstU_below r h.1) (by omega)
  rw [pucs_join] at h2
  exact stepC8 hg p1 p2 37 hop _ _ v' w' hs hx h1 (hK v' w' h2 (jn_in h he ((Below.refl wr.heap.size W).grown h3 h.1.size (fun q e => (ho.lt q e).1))) (fun G z => z8_keep z ho h3))
abbrev jnS (wr W : World) (eb : Nat) (x : P3) (s t d : Int) : Prop := (W.cell? ⟨eb, 0, none⟩ = some (.int .i64 x.1) ∧ W.cell? ⟨eb, 1, none⟩ = some (.int .i64 x.2.1) ∧ W.cell? ⟨eb, 2, none⟩ = some (.int .i64 x.2.2) ∧ W.cell? ⟨eb, 3, none⟩ = some (.int .i64 s) ∧ W.cell? ⟨eb, 4, none⟩ = some (.int .i64 t) ∧ W.cell? ⟨eb, 5, none⟩ = some (.int .i64 d)) ∧ JNB wr W eb x s t d
theorem j_of {wr W : World} {eb : Nat} {x : P3} {s t d : Int} (h : JNB wr W eb x s t d) : jnS wr W eb x s t d := ⟨h.2.1, h⟩
theorem j_un {wr W : World} {eb : Nat} {x : P3} {s t d : Int} (h : jnS wr W eb x s t d) : JNB wr W eb x s t d := h.2
theorem j_alloc {wr W : World} {eb : Nat} {x : P3} {s t d : Int} (h : JNB wr W eb x s t d) (o : Obj) : JNB wr (W.alloc o) eb x s t d := ⟨balloc h.1 o, ownE_alloc h.2 o⟩
theorem j_drew {wr W : World} {eb : Nat} {x : P3} {s t d : Int} (h : JNB wr W eb x s t d) : JNB wr W.drew eb x s t d := ⟨Below.drew h.1, h.2⟩
theorem j_below {wr W W1 : World} {eb : Nat} {x : P3} {s t d : Int} (h : JNB wr W eb x s t d) (hb : Below W.heap.size W W1) : JNB wr W1 eb x s t d := ⟨bstep h.1 hb, ownE_below h.2 hb⟩
theorem j_put {wr W : World} {eb G : Nat} {x : P3} {s t d : Int} {v0 v1 : Value} (h : JNB wr W eb x s t d) (he : eb < wr.heap.size) (hG : wr.heap.size ≤ G) : JNB wr ((W.setCell ⟨G, 0, none⟩ v0).setCell ⟨G, 1, none⟩ v1) eb x s t d := jn_in h he (pair_set2 (Below.refl _ _) hG)
def NQ (Q : Nat → Pu) (k : Nat) : Pu := ((Q k).1, (Q k).2.1, -(Q k).2.2)
theorem pucode_neg {p : Pu} (h : pucode p = 0) : pucode (p.1, p.2.1, -p.2.2) = 0 := by
  obtain ⟨_, hc, ⟨a1, a2⟩, b1, b2⟩ := pucode_ok h
  unfold pucode
  dsimp only
  rw [if_pos hc, rngB_iff.2 ⟨a1, a2⟩, rngB_iff.2 (show -100 ≤ -p.2.2 ∧ -p.2.2 ≤ 100 by omega)]
  rfl
theorem joins_fact {n m : Nat} {Q Q' : Nat → Pu} {x : P3} {s t d : Int} (hnm : n + m ≤ 16) (e : (scnR n Q x s t d).2 = 0) (e' : (scnR m Q' x s t d).2 = 0) :
    scnR (n + m) (JQ Q n Q') x s t d = Sp.addR (scnR n Q x s t d).1.1 (scnR n Q x s t d).1.2 (scnR m Q' x s t d).1.1 (scnR m Q' x s t d).1.2 ∧ (scnR (n + m) (JQ Q n Q') x s t d).2 = 0 ∧
    scnR n (NQ Q) x s t d = ((-(scnR n Q x s t d).1.2, -(scnR n Q x s t d).1.1), 0) := by
  have c1 : scode n Q x s t d = 0 := by
    unfold scnR at e
    by_cases z : scode n Q x s t d = 0
    · exact z
    · rw [if_neg z] at e; exact e
  have c2 : scode m Q' x s t d = 0 := by
    unfold scnR at e'
    by_cases z : scode m Q' x s t d = 0
    · exact z
    · rw [if_neg z] at e'; exact e'
  obtain ⟨⟨n16, hp⟩, hx, hs, ht, hd⟩ := scode_ok c1
  obtain ⟨⟨m16, hp'⟩, _⟩ := scode_ok c2
  have ha : acode8 x s t d = 0 := by
    unfold scode at c1
    by_cases z : vpcode n Q = 0
    · rw [if_pos z] at c1; exact c1
    · rw [if_neg z] at c1; exact absurd c1 z
  have hj : ∀ k, k < n + m → pucode (JQ Q n Q' k) = 0 := fun k hk => by
    unfold JQ
    by_cases c : k < n
    · rw [if_pos c]; exact hp k c
    · rw [if_neg c]; exact hp' _ (by omega)
  have hq : ∀ k, k < n → pucode (NQ Q k) = 0 := fun k hk => pucode_neg (hp k hk)
  have c3 : scode (n + m) (JQ Q n Q') x s t d = 0 := by
    unfold scode
    rw [if_pos (show vpcode (n + m) (JQ Q n Q') = 0 by unfold vpcode; rw [if_pos hnm]; exact pucodes_none hj), ha]
  have c4 : scode n (NQ Q) x s t d = 0 := by
    unfold scode
    rw [if_pos (show vpcode n (NQ Q) = 0 by unfold vpcode; rw [if_pos n16]; exact pucodes_none hq), ha]
  unfold scnR at e e' ⊢
  rw [if_pos c1] at e
  rw [if_pos c2] at e'
  rw [if_pos c1, if_pos c2, if_pos c3, if_pos c4]
  unfold sceQ at e e' ⊢
  have O1 : ∀ k, k < n → hOk (hdR x s d (Q k) t) := fun k hk => hd_ok (hp k hk) hx hs.1 hs.2 hd.1 hd.2 ht.1 ht.2
  have O2 : ∀ k, k < m → hOk (hdR x s d (Q' k) t) := fun k hk => hd_ok (hp' k hk) hx hs.1 hs.2 hd.1 hd.2 ht.1 ht.2
  have O3 : ∀ k, k < n + m → hOk (hdR x s d (JQ Q n Q' k) t) := fun k hk => hd_ok (hj k hk) hx hs.1 hs.2 hd.1 hd.2 ht.1 ht.2
  have O4 : ∀ k, k < n → hOk (hdR x s d (NQ Q k) t) := fun k hk => hd_ok (hq k hk) hx hs.1 hs.2 hd.1 hd.2 ht.1 ht.2
  rcases sceR_val O1 n16 with ⟨_, b⟩ | ⟨a1, a2, a3, a4, a5⟩
  · rw [b] at e; cases e
  rcases sceR_val O2 m16 with ⟨_, b⟩ | ⟨b1, b2, b3, b4, b5⟩
  · rw [b] at e'; cases e'
  have L : ∀ k, k < n → hdR x s d (JQ Q n Q' k) t = hdR x s d (Q k) t := fun k hk => by unfold JQ; rw [if_pos hk]
  have R : ∀ k, k < m → hdR x s d (JQ Q n Q' (n + k)) t = hdR x s d (Q' k) t := fun k hk => by unfold JQ; rw [if_neg (by omega), show n + k - n = k by omega]
  have N : ∀ k, k < n → hdR x s d (NQ Q k) t = ((-(hdR x s d (Q k) t).1.2, -(hdR x s d (Q k) t).1.1), (hdR x s d (Q k) t).2) := fun k hk => hd_neg (hp k hk) hx hs.1 hs.2 hd.1 hd.2 ht.1 ht.2
  have g3 : geN (fun k => hdR x s d (JQ Q n Q' k) t) (n + m) = 0 := geN_iff.2 fun k hk => by
    by_cases c : k < n
    · show (hdR x s d (JQ Q n Q' k) t).2 = 0
      rw [L k c]; exact geN_iff.1 a1 k c
    · obtain ⟨j, rfl⟩ : ∃ j, k = n + j := ⟨k - n, by omega⟩
      show (hdR x s d (JQ Q n Q' (n + j)) t).2 = 0
      rw [R j (by omega)]; exact geN_iff.1 b1 j (by omega)
  have g4 : geN (fun k => hdR x s d (NQ Q k) t) n = 0 := geN_iff.2 fun k hk => by
    show (hdR x s d (NQ Q k) t).2 = 0
    rw [N k hk]; exact geN_iff.1 a1 k hk
  rcases sceR_val O3 hnm with ⟨y, _⟩ | ⟨_, c2', c3', c4', c5'⟩
  · rw [g3] at y; cases y
  rcases sceR_val O4 n16 with ⟨y, _⟩ | ⟨_, d2, d3, d4, d5⟩
  · rw [g4] at y; cases y
  have f1 : sm (fun k => (hdR x s d (JQ Q n Q' k) t).1.1) (n + m) = sm (fun k => (hdR x s d (Q k) t).1.1) n + sm (fun k => (hdR x s d (Q' k) t).1.1) m := sm_split (fun k hk => congrArg (fun r : Sp.R => r.1.1) (L k hk)) (fun k hk => congrArg (fun r : Sp.R => r.1.1) (R k hk))
  have f2 : sm (fun k => (hdR x s d (JQ Q n Q' k) t).1.2) (n + m) = sm (fun k => (hdR x s d (Q k) t).1.2) n + sm (fun k => (hdR x s d (Q' k) t).1.2) m := sm_split (fun k hk => congrArg (fun r : Sp.R => r.1.2) (L k hk)) (fun k hk => congrArg (fun r : Sp.R => r.1.2) (R k hk))
  have f3 : sm (fun k => (hdR x s d (NQ Q k) t).1.1) n = -sm (fun k => (hdR x s d (Q k) t).1.2) n := by
    rw [← sm_neg]; exact sm_eq8 fun k hk => congrArg (fun r : Sp.R => r.1.1) (N k hk)
  have f4 : sm (fun k => (hdR x s d (NQ Q k) t).1.2) n = -sm (fun k => (hdR x s d (Q k) t).1.1) n := by
    rw [← sm_neg]; exact sm_eq8 fun k hk => congrArg (fun r : Sp.R => r.1.2) (N k hk)
  rw [a2, b2, c2', d2, f1, f2, f3, f4]
  refine ⟨?_, rfl, rfl⟩
  unfold Sp.addR
  rw [f1] at c3' c4'
  rw [f2] at c3' c5'
  dsimp only
  rw [if_pos (by rw [Sp.vld_iff.2 ⟨by omega, a3, by omega⟩, Sp.vld_iff.2 ⟨by omega, b3, by omega⟩]; rfl), Sp.told_yes (Sp.vld_iff.2 ⟨by omega, by omega, by omega⟩)]

end Go.Proofs.Ytemchbdlckcmkaa
