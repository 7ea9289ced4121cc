/-
  CrossSkeletons: lists of lists of fractions, Skeleton, bordered minors, the walk (one text of four).
-/
import Derived.Test.YtllonfaogbdbnaaCrP4
import Derived.Test.YtllonfaogbdbnaaCrS2
import Derived.Test.YtllonfaogbdbnaaCrP5
import Derived.Test.YtllonfaogbdbnaaCrOff0
import Derived.Test.YtllonfaogbdbnaaCrProd
import Derived.Test.YtllonfaogbdbnaaCrR1
import Derived.Test.YtllonfaogbdbnaaCrTr
namespace Go.Proofs.Ytllonfaogbdbnaa
open Go.ChangeShapes Go.WideShapes Go.RowKit
open Cr
def rq_ (L : List (List (Int × Int))) (i : Nat) : List (Int × Int) := L.getD i []
/-- lists of fractions in memory -/
def MQ (w : World) (A : Option Addr) (L : List (List (Int × Int))) : Prop :=
  ∀ i, i < L.length → ∃ b o A' c', A = some ⟨b, o, none⟩ ∧ b < w.heap.size ∧ w.cell? ⟨b, o + i, none⟩ = some (.slice A' (rq_ L i).length c') ∧ (rq_ L i).length ≤ c' ∧ RLs w A' (rq_ L i)
theorem mq_in {w w1 : World} {A : Option Addr} {L : List (List (Int × Int))} (h : MQ w A L) (hb : Below w.heap.size w w1) : MQ w1 A L := fun i hi => by
  obtain ⟨b, o, A', c', e, hlt, hc, hl, hr⟩ := h i hi
  exact ⟨b, o, A', c', e, Nat.lt_of_lt_of_le hlt hb.size, (hb.cell (p := ⟨b, o + i, none⟩) hlt).trans hc, hl, rls_in hr hb⟩
theorem mq_nil (w : World) (A : Option Addr) : MQ w A [] := fun i hi => absurd hi (Nat.not_lt_zero i)
theorem rls_grown {w w' : World} {row : Option Nat} {A : Option Addr} {l : List (Int × Int)} (h : RLs w A l) (hg : w.grownBy w' row) (hf : ∀ a, A = some a → some a.block ≠ row) : RLs w' A l := fun k hk => by
  obtain ⟨b, o, e, hlt, h0, h1⟩ := h k hk
  exact ⟨b, o, e, Nat.lt_of_lt_of_le hlt hg.size, (World.grownBy.cell_far hg ⟨b, o + k * 2, none⟩ hlt (hf ⟨b, o, none⟩ e)).trans h0, (World.grownBy.cell_far hg ⟨b, o + k * 2 + 1, none⟩ hlt (hf ⟨b, o, none⟩ e)).trans h1⟩
theorem infoQ : (Try.prog.info? 50).map (fun i => (i.zero, i.size, i.bytes)) = some (some (.slice none 0 0), 1, 24) := by kernel_rfl
theorem infoQ' : ∃ i, Try.prog.info? 50 = some i ∧ i.zero = some (.slice none 0 0) ∧ i.size = 1 ∧ i.bytes = 24 := by
  have h := infoQ
  cases e : Try.prog.info? 50 with
  | none => rw [e] at h; cases h
  | some i => rw [e] at h; simp at h; exact ⟨i, rfl, h.1, h.2.1, h.2.2⟩
structure RQ where
  A : Option Addr
  l : List (Int × Int)
  c : Nat
def slq (r : RQ) : Value := .slice r.A r.l.length r.c
abbrev OQs (w : World) (base : Nat) (v : Value) (rs : List RQ) : Prop := w.ownsRow base 50 1 v rs.length (rs.map slq)
/-- lists in memory, apart from a block -/
def RQI (w : World) (row : Option Nat) (rs : List RQ) : Prop := ∀ r, r ∈ rs → r.l.length ≤ r.c ∧ RLs w r.A r.l ∧ ∀ a, r.A = some a → a.block < w.heap.size ∧ some a.block ≠ row
/-- a list of lists of the call's own -/
def OLQ (w : World) (base : Nat) (v : Value) (L : List (List (Int × Int))) : Prop := ∃ rs : List RQ, rs.map RQ.l = L ∧ OQs w base v rs ∧ RQI w v.ownBlock rs
theorem olq_nil (w : World) (base : Nat) : OLQ w base (.slice none 0 0) [] := ⟨[], rfl, World.ownsRow_nil w base _ _, fun _ h => by cases h⟩
theorem olq_form {w : World} {base : Nat} {v : Value} {L : List (List (Int × Int))} (h : OLQ w base v L) : (∃ g c, v = .slice (some ⟨g, 0, none⟩) L.length c ∧ L.length ≤ c ∧ base ≤ g ∧ g < w.heap.size) ∨ (v = .slice none 0 0 ∧ L = []) := by
  obtain ⟨rs, rfl, h, _⟩ := h
  rw [List.length_map]
  rcases h.2 with ⟨e, e0⟩ | ⟨g, cap, cur, e, hb, hg, hl, _⟩
  · exact .inr ⟨e, by rw [List.eq_nil_of_length_eq_zero e0]; rfl⟩
  · exact .inl ⟨g, cap, e, hl, hb, (Array.getElem?_eq_some_iff.1 hg).1⟩
theorem olq_slice {w : World} {base : Nat} {v : Value} {L : List (List (Int × Int))} (h : OLQ w base v L) : ∃ A c, v = .slice A L.length c ∧ L.length ≤ c := by
  rcases olq_form h with ⟨g, c, e, hl, _⟩ | ⟨e, e0⟩
  · exact ⟨_, c, e, hl⟩
  · subst e0; exact ⟨none, 0, e, Nat.le_refl _⟩
theorem olq_lt {w : World} {base : Nat} {v : Value} {L : List (List (Int × Int))} (h : OLQ w base v L) : ∀ k, v.ownBlock = some k → base ≤ k ∧ k < w.heap.size := by
  obtain ⟨rs, rfl, h, _⟩ := h
  exact h.lt
theorem rqi_below {w w1 : World} {row : Option Nat} {rs : List RQ} (h : RQI w row rs) (hb : Below w.heap.size w w1) : RQI w1 row rs := fun r hr => by
  obtain ⟨h1, h2, h3⟩ := h r hr
  exact ⟨h1, rls_in h2 hb, fun a e => ⟨Nat.lt_of_lt_of_le (h3 a e).1 hb.size, (h3 a e).2⟩⟩
theorem olq_below {w w1 : World} {base : Nat} {v : Value} {L : List (List (Int × Int))} (h : OLQ w base v L) (hb : Below w.heap.size w w1) : OLQ w1 base v L := by
  obtain ⟨rs, e, h1, h2⟩ := h
  exact ⟨rs, e, ownsRow_below h1 hb (Nat.le_refl _), rqi_below h2 hb⟩
theorem olq_alloc {w : World} {base : Nat} {v : Value} {L : List (List (Int × Int))} (h : OLQ w base v L) (o : Obj) : OLQ (w.alloc o) base v L := olq_below h (balloc (Below.refl _ _) _)
theorem olq_mq {w : World} {base : Nat} {A : Option Addr} {n c : Nat} {L : List (List (Int × Int))} (h : OLQ w base (.slice A n c) L) : MQ w A L := fun i hi => by
  obtain ⟨rs, rfl, h, hr⟩ := h
  rw [List.length_map] at hi
  have hi' : i < (rs.map RQ.l).length := by rw [List.length_map]; exact hi
  have e : rq_ (rs.map RQ.l) i = rs[i].l := by
    show (rs.map RQ.l).getD i [] = _
    rw [List.getD, List.getElem?_eq_getElem hi', List.getElem_map]; rfl
  rcases h.2 with ⟨e, e0⟩ | ⟨g, cap, cur, e', hb, hg, hl, hm, hs, ht⟩
  · omega
  · injection e' with e1 e2 e3
    subst e1
    obtain ⟨r1, r2, r3⟩ := hr rs[i] (List.getElem_mem hi)
    have z := h.cells (g := g) rfl i (slq rs[i]) (by rw [List.getElem?_map, List.getElem?_eq_getElem hi]; rfl)
    have ea : (⟨g, 0, none⟩ : Addr).add i = ⟨g, 0 + i, none⟩ := by
      unfold Addr.add
      split
      · rename_i e; subst e; rfl
      · rfl
    rw [ea] at z
    rw [e]
    exact ⟨g, 0, rs[i].A, rs[i].c, rfl, (Array.getElem?_eq_some_iff.1 hg).1, z, r1, r2⟩
/-- an append of a list to a list of lists of the call's own -/
theorem appQ {w : World} (base : Nat) (ty : TypeId) (v : Value) (L : List (List (Int × Int))) (hown : OLQ w base v L) (hbase : base ≤ w.heap.size) (ad : Addr) (ca : Nat) (A : Option Addr) (n c : Nat) (l : List (Int × Int))
    (hsrc : w.cell? ad = some (.slice A n c)) (hn : n = l.length) (hl : l.length ≤ c) (h : RLs w A l) (hf : ∀ a, A = some a → a.block < w.heap.size ∧ some a.block ≠ v.ownBlock) (hm : L.length ≤ 1000000) :
    ∃ A' c' w', (Builtin.append_ #[42, 42] ty #[v, .slice (some ad) 1 ca]).run Try.prog w = .ok (.slice A' (L.length + 1) c') w' ∧ OLQ w' base (.slice A' (L.length + 1) c') (L ++ [l]) ∧ w.grownBy w' v.ownBlock ∧ L.length + 1 ≤ c' := by
  subst hn
  obtain ⟨i, hi, z1, z2, z3⟩ := infoQ'
  have hu : Try.prog.underlying 42 = some (.slice 50) := Try.underlying42
  obtain ⟨rs, rfl, h1, h2⟩ := hown
  rw [List.length_map] at hm ⊢
  obtain ⟨v', w', g1, g2, g3, _, g5⟩ := run_append_own_at (P := Try.prog) w base 42 ty 50 i _ 1 24 hu hi z1 z2 z3 rfl (by decide) v rs.length (rs.map slq) h1 ad 1 ca [slq ⟨A, l, c⟩] rfl
    (fun j u hj => by
      cases j with
      | zero =>
        obtain rfl : slq ⟨A, l, c⟩ = u := Option.some.inj hj
        have ea : ad.add 0 = ad := by unfold Addr.add; split <;> first | rfl | (rename_i e; exact absurd rfl e)
        rw [ea]; exact hsrc
      | succ j => cases hj) (fun u hu => by
        obtain rfl : u = slq ⟨A, l, c⟩ := by simpa using hu
        rfl) (by unfold maxLen; omega) (by omega) hbase
  have h2' : RQI w' v'.ownBlock (rs ++ [⟨A, l, c⟩]) := fun r hr => by
    have key : r.l.length ≤ r.c ∧ RLs w r.A r.l ∧ ∀ a, r.A = some a → a.block < w.heap.size ∧ some a.block ≠ v.ownBlock := by
      rcases List.mem_append.1 hr with hr | hr
      · exact h2 r hr
      · obtain rfl : r = ⟨A, l, c⟩ := by simpa using hr
        exact ⟨hl, h, hf⟩
    obtain ⟨k1, k2, k3⟩ := key
    refine ⟨k1, rls_grown k2 g3 (fun a e => (k3 a e).2), fun a e => ⟨Nat.lt_of_lt_of_le (k3 a e).1 g3.size, ?_⟩⟩
    rcases g5 with g5 | g5
    · rw [g5]; exact (k3 a e).2
    · rw [g5]; intro e'; injection e' with e'; have := (k3 a e).1; omega
  have ho : OLQ w' base v' (rs.map RQ.l ++ [l]) := ⟨rs ++ [⟨A, l, c⟩], by rw [List.map_append]; rfl, by
    show w'.ownsRow base _ 1 v' (rs ++ [(⟨A, l, c⟩ : RQ)]).length ((rs ++ [(⟨A, l, c⟩ : RQ)]).map slq)
    rw [List.length_append, List.map_append]; exact g2, h2'⟩
  obtain ⟨A', c', rfl, hc⟩ := olq_slice ho
  rw [List.length_append, List.length_map] at *
  exact ⟨A', c', w', g1, ho, g3, hc⟩
theorem wpQ {ops : Array Oper} {rest : List Oper} {o : Oper} {a : Act} {w : World} {Q : Exit → Act → World → Prop}
    (hg : o.guard = none) (s x : Operand) (hop : o.op = Op.call { callee := Callee.builtin Builtin.append, args := #[s, x], argTypes := #[42, 42] })
    (base : Nat) (v : Value) (L : List (List (Int × Int))) (hs : a.eval s = v) (hown : OLQ w base v L) (hbase : base ≤ w.heap.size) (ad : Addr) (ca : Nat) (hx : a.eval x = .slice (some ad) 1 ca) (A : Option Addr) (n c : Nat) (l : List (Int × Int))
    (hsrc : w.cell? ad = some (.slice A n c)) (hn : n = l.length) (hl : l.length ≤ c) (h : RLs w A l) (hf : ∀ a, A = some a → a.block < w.heap.size ∧ some a.block ≠ v.ownBlock) (hm : L.length ≤ 1000000)
    (hK : ∀ A' c' w', OLQ w' base (.slice A' (L.length + 1) c') (L ++ [l]) → w.grownBy w' v.ownBlock → L.length + 1 ≤ c' → wpList Try.prog ops Q rest (a.put o.dst (.slice A' (L.length + 1) c')) w') :
    wpList Try.prog ops Q (o :: rest) a w := by
  obtain ⟨A', c', w', h1, h2, h3, h4⟩ := appQ base o.type v L hown hbase ad ca A n c l hsrc hn hl h hf hm
  exact plainA hg s x _ hop _ _ _ _ hs hx h1 (hK A' c' w' h2 h3 h4)
theorem orq_cap {w : World} {base n c : Nat} {A : Option Addr} {l : List (Int × Int)} (h : OR w base (.slice A n c) l) : l.length ≤ c ∧ n = l.length := by
  rcases h.2 with ⟨e, e0⟩ | ⟨g, cap, cur, e, hb, hg, hl, _⟩
  · injection e with _ e1 e2; omega
  · injection e with _ e1 e2; omega
theorem olq_out {w w2 : World} {base B : Nat} {v : Value} {L : List (List (Int × Int))} {A : Option Addr} {n c : Nat} {l : List (Int × Int)} (h : OLQ w base v L) (hB : w.heap.size ≤ B) (ho : OR w2 B (.slice A n c) l) : ∀ a, A = some a → a.block < (w2.alloc (.cells #[.slice A n c] 50)).heap.size ∧ some a.block ≠ v.ownBlock := fun a e => by
  rcases ho.2 with ⟨e', _⟩ | ⟨g, cap, cur, e', hb, hg, _⟩
  · injection e' with e1 _ _
    rw [e1] at e; cases e
  · injection e' with e1 _ _
    subst e1
    injection e with e
    subst e
    have g2 : g < w2.heap.size := (Array.getElem?_eq_some_iff.1 hg).1
    refine ⟨by simp; omega, fun e' => ?_⟩
    have := (olq_lt h g e'.symm).2
    omega
/-- the first rows, the first fractions -/
def tkQ (L : List (List (Int × Int))) (k : Nat) : List (List (Int × Int)) := L.take k
def tkR (l : List (Int × Int)) (k : Nat) : List (Int × Int) := l.take k
theorem tkQ_next {L : List (List (Int × Int))} {k : Nat} (h : k < L.length) : tkQ L (k + 1) = tkQ L k ++ [rq_ L k] := by
  unfold tkQ
  rw [List.take_succ_eq_append_getElem h]
  have e : rq_ L k = L[k] := by show L.getD k [] = _; simp [List.getD, h]
  rw [e]
theorem tkR_next {l : List (Int × Int)} {k : Nat} (h : k < l.length) : tkR l (k + 1) = tkR l k ++ [rat_ l k] := rtake_next h
theorem tkQ_le (L : List (List (Int × Int))) (k : Nat) : (tkQ L k).length ≤ k := by unfold tkQ; rw [List.length_take]; omega
theorem tkR_le (l : List (Int × Int)) (k : Nat) : (tkR l k).length ≤ k := by unfold tkR; rw [List.length_take]; omega
theorem tkQ_all {L : List (List (Int × Int))} {k : Nat} (h : L.length = k) : tkQ L k = L := List.take_of_length_le (by omega)
theorem tkR_all {l : List (Int × Int)} {k : Nat} (h : l.length = k) : tkR l k = l := List.take_of_length_le (by omega)
/-- an element of the skeleton -/
def skE (M : List (List Int)) (rows cols : List Int) (i j : Nat) : Int × Int := mns (at_ (rw_ M i) j) (ratq (bord M rows cols i j) (detR M rows cols))
def skR (M : List (List Int)) (rows cols : List Int) (i : Nat) : List (Int × Int) := (List.range (rw_ M 0).length).map fun j => skE M rows cols i j
def skL (M : List (List Int)) (rows cols : List Int) : List (List (Int × Int)) := (List.range M.length).map fun i => skR M rows cols i
theorem skL_len (M : List (List Int)) (rows cols : List Int) : (skL M rows cols).length = M.length := by unfold skL; simp
theorem skL_row (M : List (List Int)) (rows cols : List Int) {i : Nat} (h : i < M.length) : rq_ (skL M rows cols) i = skR M rows cols i := by unfold skL rq_; simp [List.getD, h]
theorem skR_len (M : List (List Int)) (rows cols : List Int) (i : Nat) : (skR M rows cols i).length = (rw_ M 0).length := by unfold skR; simp
theorem skR_at (M : List (List Int)) (rows cols : List Int) (i : Nat) {j : Nat} (h : j < (rw_ M 0).length) : rat_ (skR M rows cols i) j = skE M rows cols i j := by unfold skR rat_; simp [List.getD, h]
/-- what Skeleton answers -/
def skO (M : List (List Int)) (rows cols : List Int) : List (List (Int × Int)) := if (dvz M rows cols).2 = 0 then skL M rows cols else []
theorem skO_0 {M : List (List Int)} {rows cols : List Int} (h : (dvz M rows cols).2 = 0) : skO M rows cols = skL M rows cols := if_pos h
theorem skO_1 {M : List (List Int)} {rows cols : List Int} (h : (dvz M rows cols).2 ≠ 0) : skO M rows cols = [] := if_neg h
/-- the elements are small -/
theorem ske_bd {w : World} {A R C : Option Addr} {M : List (List Int)} {rows cols : List Int} (h : ChS w A M.length (rw_ M 0).length M R C rows.length rows cols) (dz : detR M rows cols ≠ 0) {i j : Nat} (hi : i < M.length) (hj : j < (rw_ M 0).length) :
    (-100 ≤ at_ (rw_ M i) j ∧ at_ (rw_ M i) j ≤ 100) ∧ (-720000000000000 ≤ (ratq (bord M rows cols i j) (detR M rows cols)).1 ∧ (ratq (bord M rows cols i j) (detR M rows cols)).1 ≤ 720000000000000 ∧ 1 ≤ (ratq (bord M rows cols i j) (detR M rows cols)).2 ∧ (ratq (bord M rows cols i j) (detR M rows cols)).2 ≤ 720000000000000) ∧
    -72000000000000000 ≤ at_ (rw_ M i) j * (ratq (bord M rows cols i j) (detR M rows cols)).2 ∧ at_ (rw_ M i) j * (ratq (bord M rows cols i j) (detR M rows cols)).2 ≤ 72000000000000000 := by
  have b := bord6 h (i := (i : Int)) (j := (j : Int)) (by omega) (by omega)
  have d := detC6 h
  have r := ratq_bd2 dz b.1 b.2.1 d.1 d.2.1
  have e := h.cho.sq.at hi hj
  have p := Cr.mul_bd e.1 e.2 (show -720000000000000 ≤ (ratq (bord M rows cols i j) (detR M rows cols)).2 by omega) r.2.2.2
  exact ⟨e, r, p.1, p.2⟩

end Go.Proofs.Ytllonfaogbdbnaa
namespace Go.Proofs.Ytllonfaogbdbnaa
open Go.ChangeShapes Go.WideShapes Go.RowKit
open Cr
theorem ske_low {M : List (List Int)} {rows cols : List Int} (dz : detR M rows cols ≠ 0) (n : Int) (b : Int) (h : 1 ≤ (ratq b (detR M rows cols)).2) : ratq (n * (ratq b (detR M rows cols)).2 - (ratq b (detR M rows cols)).1) (ratq b (detR M rows cols)).2 = mns n (ratq b (detR M rows cols)) := mns_low (ratq_low dz) h
def SKQ (w : World) (q : Nat) (A : Option Addr) (n c : Nat) (R : Option Addr) (K cr : Nat) (C : Option Addr) (K2 cc : Nat) (d : Int) (w1 : World) : Prop := w1.cell? ⟨q, 0, none⟩ = some (.slice A n c) ∧ w1.cell? ⟨q, 1, none⟩ = some (.slice R K cr) ∧ w1.cell? ⟨q, 2, none⟩ = some (.slice C K2 cc) ∧ w1.cell? ⟨q, 3, none⟩ = some (.int .i64 d) ∧ Below w.heap.size w w1 ∧ q < w1.heap.size
theorem skq_s {w : World} {q : Nat} {A : Option Addr} {n c : Nat} {R : Option Addr} {K cr : Nat} {C : Option Addr} {K2 cc : Nat} {d : Int} {w1 : World} (h : SKQ w q A n c R K cr C K2 cc d w1) : w1.cell? ⟨q, 0, none⟩ = some (.slice A n c) ∧ w1.cell? ⟨q, 1, none⟩ = some (.slice R K cr) ∧ w1.cell? ⟨q, 2, none⟩ = some (.slice C K2 cc) ∧ w1.cell? ⟨q, 3, none⟩ = some (.int .i64 d) ∧ Below w.heap.size w w1 ∧ q < w1.heap.size := h
theorem skq_of {w : World} {q : Nat} {A : Option Addr} {n c : Nat} {R : Option Addr} {K cr : Nat} {C : Option Addr} {K2 cc : Nat} {d : Int} {w1 : World} (h : w1.cell? ⟨q, 0, none⟩ = some (.slice A n c) ∧ w1.cell? ⟨q, 1, none⟩ = some (.slice R K cr) ∧ w1.cell? ⟨q, 2, none⟩ = some (.slice C K2 cc) ∧ w1.cell? ⟨q, 3, none⟩ = some (.int .i64 d) ∧ Below w.heap.size w w1 ∧ q < w1.heap.size) : SKQ w q A n c R K cr C K2 cc d w1 := h
theorem skq_drew {w : World} {q : Nat} {A : Option Addr} {n c : Nat} {R : Option Addr} {K cr : Nat} {C : Option Addr} {K2 cc : Nat} {d : Int} {w1 : World} (h : SKQ w q A n c R K cr C K2 cc d w1) : SKQ w q A n c R K cr C K2 cc d w1.drew := by
  obtain ⟨h0, h1, h2, h3, hB, b0⟩ := h
  exact ⟨h0, h1, h2, h3, Below.drew hB, b0⟩
theorem skq_drewN {w : World} {q : Nat} {A : Option Addr} {n c : Nat} {R : Option Addr} {K cr : Nat} {C : Option Addr} {K2 cc : Nat} {d : Int} {w1 : World} (h : SKQ w q A n c R K cr C K2 cc d w1) (kk : Nat) : SKQ w q A n c R K cr C K2 cc d (w1.drewN kk) := by
  obtain ⟨h0, h1, h2, h3, hB, b0⟩ := h
  exact ⟨h0, h1, h2, h3, bdrewN hB kk, b0⟩
theorem skq_bel {w : World} {q : Nat} {A : Option Addr} {n c : Nat} {R : Option Addr} {K cr : Nat} {C : Option Addr} {K2 cc : Nat} {d : Int} {w1 : World} (h : SKQ w q A n c R K cr C K2 cc d w1) : Below w.heap.size w w1 := by
  obtain ⟨h0, h1, h2, h3, hB, b0⟩ := h
  exact hB
theorem skq_below {w : World} {q : Nat} {A : Option Addr} {n c : Nat} {R : Option Addr} {K cr : Nat} {C : Option Addr} {K2 cc : Nat} {d : Int} {w1 w2 : World} (h : SKQ w q A n c R K cr C K2 cc d w1) (hb : Below w1.heap.size w1 w2) : SKQ w q A n c R K cr C K2 cc d w2 := by
  obtain ⟨h0, h1, h2, h3, hB, b0⟩ := h
  exact ⟨(hb.cell (p := ⟨q, 0, none⟩) b0).trans h0, (hb.cell (p := ⟨q, 1, none⟩) b0).trans h1, (hb.cell (p := ⟨q, 2, none⟩) b0).trans h2, (hb.cell (p := ⟨q, 3, none⟩) b0).trans h3, bstep hB hb, Nat.lt_of_lt_of_le b0 hb.size⟩
theorem skq_grown {w : World} {q : Nat} {A : Option Addr} {n c : Nat} {R : Option Addr} {K cr : Nat} {C : Option Addr} {K2 cc : Nat} {d : Int} {w1 w2 : World} {r : Option Nat} {o' : Obj} (h : SKQ w q A n c R K cr C K2 cc d w1) (hg : (w1.alloc o').grownBy w2 r) (B : Below w.heap.size w w2) (n0 : r ≠ some q) : SKQ w q A n c R K cr C K2 cc d w2 := by
  obtain ⟨h0, h1, h2, h3, _, b0⟩ := h
  have hs := hg.size
  have c : ∀ b j v, b < w1.heap.size → r ≠ some b → w1.cell? ⟨b, j, none⟩ = some v → w2.cell? ⟨b, j, none⟩ = some v := fun b j v hb ne hv => (World.grownBy.cell_far hg ⟨b, j, none⟩ (by simp; omega) ne.symm).trans ((World.cell?_alloc_lt _ _ _ hb).trans hv)
  exact ⟨c _ _ _ b0 n0 h0, c _ _ _ b0 n0 h1, c _ _ _ b0 n0 h2, c _ _ _ b0 n0 h3, B, by simp at hs; omega⟩
def RQS (w : World) (b o i : Nat) (A1 : Option Addr) (m c1 : Nat) (be oe j : Nat) (y : Int) (q : Nat) (l1 l2 : Int) (w1 : World) : Prop := w1.cell? ⟨b, o + i, none⟩ = some (.slice A1 m c1) ∧ w1.cell? ⟨be, oe + j, none⟩ = some (.int .i64 y) ∧ w1.cell? ⟨q, 0, none⟩ = some (.int .i64 l1) ∧ w1.cell? ⟨q, 1, none⟩ = some (.int .i64 l2) ∧ Below w.heap.size w w1 ∧ b < w1.heap.size ∧ be < w1.heap.size ∧ q < w1.heap.size
theorem rqs_s {w : World} {b o i : Nat} {A1 : Option Addr} {m c1 : Nat} {be oe j : Nat} {y : Int} {q : Nat} {l1 l2 : Int} {w1 : World} (h : RQS w b o i A1 m c1 be oe j y q l1 l2 w1) : w1.cell? ⟨b, o + i, none⟩ = some (.slice A1 m c1) ∧ w1.cell? ⟨be, oe + j, none⟩ = some (.int .i64 y) ∧ w1.cell? ⟨q, 0, none⟩ = some (.int .i64 l1) ∧ w1.cell? ⟨q, 1, none⟩ = some (.int .i64 l2) ∧ Below w.heap.size w w1 ∧ b < w1.heap.size ∧ be < w1.heap.size ∧ q < w1.heap.size := h
theorem rqs_of {w : World} {b o i : Nat} {A1 : Option Addr} {m c1 : Nat} {be oe j : Nat} {y : Int} {q : Nat} {l1 l2 : Int} {w1 : World} (h : w1.cell? ⟨b, o + i, none⟩ = some (.slice A1 m c1) ∧ w1.cell? ⟨be, oe + j, none⟩ = some (.int .i64 y) ∧ w1.cell? ⟨q, 0, none⟩ = some (.int .i64 l1) ∧ w1.cell? ⟨q, 1, none⟩ = some (.int .i64 l2) ∧ Below w.heap.size w w1 ∧ b < w1.heap.size ∧ be < w1.heap.size ∧ q < w1.heap.size) : RQS w b o i A1 m c1 be oe j y q l1 l2 w1 := h
theorem rqs_drew {w : World} {b o i : Nat} {A1 : Option Addr} {m c1 : Nat} {be oe j : Nat} {y : Int} {q : Nat} {l1 l2 : Int} {w1 : World} (h : RQS w b o i A1 m c1 be oe j y q l1 l2 w1) : RQS w b o i A1 m c1 be oe j y q l1 l2 w1.drew := by
  obtain ⟨h0, h1, h2, h3, hB, b0, b1, b2⟩ := h
  exact ⟨h0, h1, h2, h3, Below.drew hB, b0, b1, b2⟩
theorem rqs_drewN {w : World} {b o i : Nat} {A1 : Option Addr} {m c1 : Nat} {be oe j : Nat} {y : Int} {q : Nat} {l1 l2 : Int} {w1 : World} (h : RQS w b o i A1 m c1 be oe j y q l1 l2 w1) (kk : Nat) : RQS w b o i A1 m c1 be oe j y q l1 l2 (w1.drewN kk) := by
  obtain ⟨h0, h1, h2, h3, hB, b0, b1, b2⟩ := h
  exact ⟨h0, h1, h2, h3, bdrewN hB kk, b0, b1, b2⟩
theorem rqs_bel {w : World} {b o i : Nat} {A1 : Option Addr} {m c1 : Nat} {be oe j : Nat} {y : Int} {q : Nat} {l1 l2 : Int} {w1 : World} (h : RQS w b o i A1 m c1 be oe j y q l1 l2 w1) : Below w.heap.size w w1 := by
  obtain ⟨h0, h1, h2, h3, hB, b0, b1, b2⟩ := h
  exact hB
theorem rqs_below {w : World} {b o i : Nat} {A1 : Option Addr} {m c1 : Nat} {be oe j : Nat} {y : Int} {q : Nat} {l1 l2 : Int} {w1 w2 : World} (h : RQS w b o i A1 m c1 be oe j y q l1 l2 w1) (hb : Below w1.heap.size w1 w2) : RQS w b o i A1 m c1 be oe j y q l1 l2 w2 := by
  obtain ⟨h0, h1, h2, h3, hB, b0, b1, b2⟩ := h
  exact ⟨(hb.cell (p := ⟨b, o + i, none⟩) b0).trans h0, (hb.cell (p := ⟨be, oe + j, none⟩) b1).trans h1, (hb.cell (p := ⟨q, 0, none⟩) b2).trans h2, (hb.cell (p := ⟨q, 1, none⟩) b2).trans h3, bstep hB hb, Nat.lt_of_lt_of_le b0 hb.size, Nat.lt_of_lt_of_le b1 hb.size, Nat.lt_of_lt_of_le b2 hb.size⟩
theorem rqs_grown {w : World} {b o i : Nat} {A1 : Option Addr} {m c1 : Nat} {be oe j : Nat} {y : Int} {q : Nat} {l1 l2 : Int} {w1 w2 : World} {r : Option Nat} {o' : Obj} (h : RQS w b o i A1 m c1 be oe j y q l1 l2 w1) (hg : (w1.alloc o').grownBy w2 r) (B : Below w.heap.size w w2) (n0 : r ≠ some b) (n1 : r ≠ some be) (n2 : r ≠ some q) : RQS w b o i A1 m c1 be oe j y q l1 l2 w2 := by
  obtain ⟨h0, h1, h2, h3, _, b0, b1, b2⟩ := h
  have hs := hg.size
  have c : ∀ b j v, b < w1.heap.size → r ≠ some b → w1.cell? ⟨b, j, none⟩ = some v → w2.cell? ⟨b, j, none⟩ = some v := fun b j v hb ne hv => (World.grownBy.cell_far hg ⟨b, j, none⟩ (by simp; omega) ne.symm).trans ((World.cell?_alloc_lt _ _ _ hb).trans hv)
  exact ⟨c _ _ _ b0 n0 h0, c _ _ _ b1 n1 h1, c _ _ _ b2 n2 h2, c _ _ _ b2 n2 h3, B, by simp at hs; omega, by simp at hs; omega, by simp at hs; omega⟩
set_option maxRecDepth 100000 in
set_option maxHeartbeats 8000000 in
theorem skelP_any (A R C : Option Addr) (c cr cc : Nat) (M : List (List Int)) (rows cols : List Int) (w : World) (h : Arg w A M R C rows cols) : Calls Try.prog 15 #[.slice A M.length c, .slice R rows.length cr, .slice C cols.length cc] w fun e w' => ∃ A' c', e = .returned (.tuple #[.slice A' (skO M rows cols).length c', .int .i64 (dvz M rows cols).2]) ∧ MQ w' A' (skO M rows cols) ∧ Below w.heap.size w w' := by
  by_cases z : (dvz M rows cols).2 = 0
  · obtain ⟨k, dz, _⟩ := dvz_ok z
    have ho := chs_of h k
    have hl := (cho_of h k).2
    rw [skO_0 z, z]
    have CH := Lib.hid (fun W (B : Below w.heap.size w W) => choose_ok A R C c cr cc M rows cols W (arg_in h B) k dz)
    rw [hl] at CH ⊢
    have d6 := detC6 ho
    have BO := Lib.hid (fun W (B : Below w.heap.size w W) (i j : Nat) (hi : i < M.length) (hj : j < (rw_ M 0).length) => bord_any A R C c cr cc M.length (rw_ M 0).length rows.length (detR M rows cols) M rows cols (i : Int) (j : Int) W (cho_in ho.cho B) (by omega) (by omega))
    have QU := Lib.hid (fun (i j : Nat) (hi : i < M.length) (hj : j < (rw_ M 0).length) W => (show Calls Try.prog 47 #[.int .i64 (bord M rows cols i j), .int .i64 (detR M rows cols)] W fun e w' => e = .returned (rtv (ratq (bord M rows cols i j) (detR M rows cols))) ∧ Below W.heap.size W w' from by
      have b6 := bord6 ho (i := (i : Int)) (j := (j : Int)) (by omega) (by omega)
      exact quo_any _ _ W dz (by omega) (by omega) (by omega) (by omega)))
    have MI := Lib.hid (fun (i j : Nat) (hi : i < M.length) (hj : j < (rw_ M 0).length) W => (show Calls Try.prog 46 #[.int .i64 (at_ (rw_ M i) j), rtv (ratq (bord M rows cols i j) (detR M rows cols))] W fun e w' => e = .returned (rtv (rat_ (rq_ (skL M rows cols) i) j)) ∧ Below W.heap.size W w' from by
      rw [skL_row M rows cols hi, skR_at M rows cols i hj]
      have b := ske_bd ho dz hi hj
      exact minus_any _ _ W (by omega) (by omega) (by omega) (by omega)))
    have SL := Lib.hid (skL_len M rows cols)
    have SR := Lib.hid (fun (i : Nat) (hi : i < M.length) => (show (rq_ (skL M rows cols) i).length = (rw_ M 0).length from by rw [skL_row M rows cols hi, skR_len]))
    have H := Lib.hid h.mat
    have Q := Lib.hid ho.cho.sq
    have nn : (M.length : Int) ≤ 6 := by have := ho.cho.hn; omega
    have mm : ((rw_ M 0).length : Int) ≤ 6 := by have := ho.cho.hm; omega
    rw [SL.out]
    clear h z k dz ho hl d6
    generalize skL M rows cols = S at *
    generalize detR M rows cols = d at *
    generalize rows.length = K at *
    obtain ⟨m, hm⟩ : ∃ m, (rw_ M 0).length = m := ⟨_, rfl⟩
    rw [hm] at BO QU MI SR Q mm
    clear hm
    go_enter Try.func15, Try.ntmps15
    go_wp2_with fail
    with_reducible refine (CH.out _ (Below.refl _ _)).mono ?_
    rintro e w3 ⟨rfl, hb⟩
    have HB3 := Lib.hid (balloc hb (chb A M.length c R K cr C K cc d))
    have Q3 := Lib.hid (show SKQ (w3.alloc (chb A M.length c R K cr C K cc d)) w3.heap.size A M.length c R K cr C K cc d (w3.alloc (chb A M.length c R K cr C K cc d)) from ⟨by go_simp, by go_simp, by go_simp, by go_simp, Below.refl _ _, by simp⟩)
    clear hb CH
    go_wp2_with fail
    generalize w3.alloc (chb A M.length c R K cr C K cc d) = W0 at *
    generalize w3.heap.size = q at *
    go_loopw [10, 28] (fun av kv wr => ∃ k A c, k ≤ M.length ∧ kv = .int .i64 (k : Int) ∧ av = .slice A (tkQ S k).length c ∧ OLQ wr W0.heap.size (.slice A (tkQ S k).length c) (tkQ S k) ∧ Below W0.heap.size W0 wr) (fun _ kv _ => M.length - (intOf kv).toNat)
    case atStart => exact ⟨0, none, 0, Nat.zero_le _, rfl, rfl, olq_nil _ _, Below.refl _ _⟩
    case round =>
      rename World => wo
      obtain ⟨k, A2, c2, hk, rfl, rfl, ho, B⟩ := hrel
      have HO := Lib.hid ho
      have HB := Lib.hid B
      by_cases hlt : k < M.length
      · have hk1 : (k : Int) < (M.length : Int) := by omega
        have hk0 : 0 ≤ (k : Int) := by omega
        obtain ⟨b, o, A1, c1, rfl, hb, hc1, hl1, hr1⟩ := ml_in H.out (bstep HB3.out B) k hlt
        rw [rw_len Q.out hlt] at hc1
        have HR1 := Lib.hid hr1
        have HL1 := Lib.hid (rw_len Q.out hlt)
        have TN := Lib.hid (tkQ_next (L := S) (k := k) (by rw [SL.out]; exact hlt))
        have LA := Lib.hid (show (tkQ S k ++ [rq_ S k]).length = (tkQ S k).length + 1 by simp)
        have TL : (tkQ S k).length ≤ 1000 := by have := tkQ_le S k; omega
        have LEN := Lib.hid (SR.out k hlt)
        have QK := Lib.hid (skq_below Q3.out B)
        clear ho B hr1 hl1
        go_wp2_with fail
        clear hc1
        go_loopw [13, 35] (fun sv jv ws => ∃ j A1 c1, j ≤ m ∧ jv = .int .i64 (j : Int) ∧ sv = .slice A1 j c1 ∧ OR ws wo.heap.size (.slice A1 j c1) (tkR (rq_ S k) j) ∧ Below wo.heap.size wo ws) (fun _ jv _ => m - (intOf jv).toNat)
        case atStart => exact ⟨0, none, 0, Nat.zero_le _, rfl, rfl, or_nil _ _, Below.refl _ _⟩
        case round =>
          rename World => ws
          obtain ⟨j, A3, c3, hj, rfl, rfl, ho1, B1⟩ := hrel
          have HO1 := Lib.hid ho1
          have HB1 := Lib.hid B1
          by_cases hjl : j < m
          · have hj1 : (j : Int) < (m : Int) := by omega
            have hj0 : 0 ≤ (j : Int) := by omega
            obtain ⟨be, oe, rfl, hbe, hce⟩ := il_in HR1.out B1 j (by rw [HL1.out]; exact hjl)
            have BOk := Lib.hid (fun W (Bl : Below wo.heap.size wo W) => BO.out W (bstep (bstep HB3.out HB.out) Bl) k j hlt hjl)
            have QUk := Lib.hid (QU.out k j hlt hjl)
            have MIk := Lib.hid (MI.out k j hlt hjl)
            have TN1 := Lib.hid (tkR_next (l := rq_ S k) (k := j) (by rw [LEN.out]; exact hjl))
            have TL1 := Lib.hid (show (tkR (rq_ S k) j).length = j by unfold tkR; rw [List.length_take, LEN.out]; omega)
            have F0 := Lib.hid (show SKQ wo q (some ⟨b, o, none⟩) M.length c R K cr C K cc d ws from skq_of (by
              obtain ⟨q0, q1, q2, q3, _, q4⟩ := skq_s (skq_below QK.out B1)
              exact ⟨q0, q1, q2, q3, B1, q4⟩))
            have QL := Lib.hid (show q < wo.heap.size from by obtain ⟨_, _, _, _, _, q4⟩ := skq_s QK.out; exact q4)
            have NE := Lib.hid (show (Value.slice A3 j c3).ownBlock ≠ some q from fun e => by have := (HO1.out.lt _ e).1; have := QL.out; omega)
            have OBw := Lib.hid (fun W (Bl : Below ws.heap.size ws W) => or_below HO1.out Bl (Nat.le_refl _))
            have T0 := Lib.hid (Below.refl ws.heap.size ws)
            generalize bord M rows cols (k : Int) (j : Int) = y at *
            generalize ratq y d = r at *
            generalize at_ (rw_ M k) j = n at *
            generalize rat_ (rq_ S k) j = z at *
            clear ho1 B1
            go_wp2_with fail
            clear hce
            go_region_held3 (fun w' => w'.cell? ⟨q, 0, none⟩ = some (.slice (some ⟨b, o, none⟩) M.length c) ∧ w'.cell? ⟨q, 1, none⟩ = some (.slice R K cr) ∧ w'.cell? ⟨q, 2, none⟩ = some (.slice C K cc) ∧ w'.cell? ⟨q, 3, none⟩ = some (.int .i64 d) ∧ Below wo.heap.size wo w' ∧ q < w'.heap.size)
              (first | with_reducible exact skq_s (skq_drew F0.out) | with_reducible exact skq_s F1.out | with_reducible exact skq_s F2.out | with_reducible exact skq_s F3.out | with_reducible exact skq_s (skq_below F3.out (alloc_below _ _)) | with_reducible exact skq_s G7.out | fail)
              (first
                | (go_at_call 48; (with_reducible refine (BOk.out _ (skq_bel (skq_of (by assumption)))).mono ?_); rintro e w3 ⟨rfl, hb⟩; have F1 := Lib.hid (skq_below (skq_of (by assumption)) hb); have T1 := Lib.hid (bstep (Below.drew T0.out) hb); clear hb)
                | (go_at_call 47; (with_reducible refine (QUk.out _).mono ?_); rintro e w4 ⟨rfl, hb⟩; have F2 := Lib.hid (skq_below (skq_of (by assumption)) hb); have T2 := Lib.hid (bstep T1.out hb); clear hb)
                | (go_at_call 46; (with_reducible refine (MIk.out _).mono ?_); rintro e w5 ⟨rfl, hb⟩; have F3 := Lib.hid (skq_below (skq_of (by assumption)) hb); have T3 := Lib.hid (bstep T2.out hb); clear hb)
                | (refine stepR rfl (.tmp 40) (.tmp 50) rfl wo.heap.size (.slice A3 j c3) (tkR (rq_ S k) j) rfl (World.ownsRow.alloc (OBw.out _ T3.out) _) (balloc (bstep HB1.out T3.out) _).size ⟨w5.heap.size, 0, none⟩ 1 z rfl (rone_new _ _) (by rw [TL1.out]; omega) (j + 1) (by rw [TL1.out]) ?_; intro A7 c7 w7 ho hg; have HO7 := Lib.hid ho; have HB7 := Lib.hid (below_grown (balloc (bstep HB1.out T3.out) _) hg (balloc (bstep HB1.out T3.out) _).size (fun g hg => (HO1.out.lt g hg).1)); have G7 := Lib.hid (skq_grown F3.out hg HB7.out NE.out); clear ho hg)
                | fail)
            all_goals
              go_wp2_with fail
              go_roundw
              case rel => exact ⟨j + 1, A7, c7, by omega, by go_num, rfl, by rw [TN1.out]; exact HO7.out, HB7.out⟩
              case measure => simp [intOf]; omega
          · obtain rfl : j = m := by omega
            have e3 : tkR (rq_ S k) j = rq_ S k := tkR_all LEN.out
            rw [e3] at HO1
            clear ho1 B1 e3
            have CP := Lib.hid (orq_cap HO1.out).1
            go_wp2_with (at_builtin; refine wpQ rfl (.tmp 53) (.tmp 55) rfl W0.heap.size (.slice A2 (tkQ S k).length c2) (tkQ S k) rfl (olq_alloc (olq_below HO.out HB1.out) _) (by have := HB1.out.size; have := HB.out.size; simp; omega) ⟨ws.heap.size, 0, none⟩ 1 rfl A3 j c3 (rq_ S k) (cell_one _ _ _) LEN.out.symm CP.out (rls_in (or_il HO1.out) (balloc (Below.refl _ _) _)) (olq_out HO.out (Nat.le_refl _) HO1.out) (by omega) ?_; intro A4 c4 w4 ho hg _; have HO4 := Lib.hid ho; have HB4 := Lib.hid (below_grown (balloc (bstep HB.out HB1.out) _) hg (by have := HB1.out.size; have := HB.out.size; simp; omega) (fun g hg => (olq_lt HO.out g hg).1)); clear ho hg)
            go_roundw
            case rel => exact ⟨k + 1, A4, c4, by omega, by go_num, by rw [TN.out, LA.out], by rw [TN.out, LA.out]; exact HO4.out, HB4.out⟩
            case measure => simp [intOf]; omega
      · obtain rfl : k = M.length := by omega
        have e3 : tkQ S M.length = S := tkQ_all SL.out
        rw [e3] at ho ⊢
        have SLo := SL.out
        go_wp2_with fail
        go_ret2
        exact ⟨A2, c2, by rw [SLo]; rfl, olq_mq ho, bstep HB3.out B⟩
  · have CH := Lib.hid (dvz_err z (c := c) (cr := cr) (cc := cc) h)
    rw [skO_1 z]
    clear h
    generalize (dvz M rows cols).2 = e at *
    have t1 : (e != 0) = true := by simp [z]
    have t2 : (e == 0) = false := by simp [z]
    clear z
    go_enter Try.func15, Try.ntmps15
    go_wp2_with fail
    with_reducible refine CH.out.mono ?_
    rintro e w3 ⟨rfl, hb⟩
    have HB3 := Lib.hid (balloc hb (chb none 0 0 none 0 0 none 0 0 0))
    clear hb
    go_wp2_with fail
    go_ret2
    exact ⟨none, 0, rfl, mq_nil _ _, HB3.out⟩
set_option maxRecDepth 100000 in
set_option maxHeartbeats 8000000 in
theorem rskel_any (A R C : Option Addr) (c cr cc : Nat) (M : List (List Int)) (rows cols : List Int) (w : World) (h : Arg w A M R C rows cols) (hcr : rows.length ≤ cr) (hcc : cols.length ≤ cc) : Calls Try.prog 16 #[.slice A M.length c, .slice R rows.length cr, .slice C cols.length cc] w fun e w' => ∃ A' c', e = .returned (.tuple #[.slice A' (skO M rows cols).length c', .int .i64 (dvz M rows cols).2]) ∧ MQ w' A' (skO M rows cols) ∧ Below w.heap.size w w' := by
  have DV := Lib.hid (rdiv6_any A R C c cr cc M rows cols w h hcr hcc)
  by_cases z : (dvz M rows cols).2 = 0
  · obtain ⟨k, dz, e1⟩ := dvz_ok z
    have ho := chs_of h k
    have hl := (cho_of h k).2
    have hv := (kcode_cases k).1
    rw [skO_0 z]
    rw [z] at DV ⊢
    rw [show (dvz M rows cols).1 = detR M rows cols from by first | exact e1 | (rw [e1])] at DV
    rw [hl] at DV ⊢
    have d6 := detC6 ho
    have BO := Lib.hid (fun W (B : Below w.heap.size w W) (i j : Nat) (hi : i < M.length) (hj : j < (rw_ M 0).length) => rbord_any A R C c cr cc M.length (rw_ M 0).length rows.length M rows cols (i : Int) (j : Int) W (cho_in ho.cho B) (by omega) (by omega))
    have QU := Lib.hid (fun (i j : Nat) (hi : i < M.length) (hj : j < (rw_ M 0).length) W => (show Calls Try.prog 28 #[.int .i64 (bord M rows cols i j), .int .i64 (detR M rows cols)] W fun e w' => e = .returned (rtv (ratq (bord M rows cols i j) (detR M rows cols))) ∧ Below W.heap.size W w' from by
      have b6 := bord6 ho (i := (i : Int)) (j := (j : Int)) (by omega) (by omega)
      exact ratio_any _ _ W dz (by omega) (by omega) (by omega) (by omega)))
    have BD := Lib.hid (fun (i j : Nat) (hi : i < M.length) (hj : j < (rw_ M 0).length) => ske_bd ho dz hi hj)
    have MI := Lib.hid (fun (i j : Nat) (hi : i < M.length) (hj : j < (rw_ M 0).length) W => (show Calls Try.prog 28 #[.int .i64 (at_ (rw_ M i) j * (ratq (bord M rows cols i j) (detR M rows cols)).2 - (ratq (bord M rows cols i j) (detR M rows cols)).1), .int .i64 (ratq (bord M rows cols i j) (detR M rows cols)).2] W fun e w' => e = .returned (rtv (rat_ (rq_ (skL M rows cols) i) j)) ∧ Below W.heap.size W w' from by
      rw [skL_row M rows cols hi, skR_at M rows cols i hj]
      have b := ske_bd ho dz hi hj
      have r := ratio_any (at_ (rw_ M i) j * (ratq (bord M rows cols i j) (detR M rows cols)).2 - (ratq (bord M rows cols i j) (detR M rows cols)).1) (ratq (bord M rows cols i j) (detR M rows cols)).2 W (by omega) (by omega) (by omega) (by omega) (by omega)
      rw [ske_low dz _ _ b.2.1.2.2.1] at r
      exact r))
    have SL := Lib.hid (skL_len M rows cols)
    have SR := Lib.hid (fun (i : Nat) (hi : i < M.length) => (show (rq_ (skL M rows cols) i).length = (rw_ M 0).length from by rw [skL_row M rows cols hi, skR_len]))
    have H := Lib.hid h.mat
    have Q := Lib.hid ho.cho.sq
    have x0 : (0 : Int) < (M.length : Int) := by have := (vcode_pos hv).1; omega
    have x01 : 1 ≤ (M.length : Int) := by omega
    have x02 : 0 < M.length := by omega
    have nn : (M.length : Int) ≤ 6 := by have := ho.cho.hn; omega
    have mm : ((rw_ M 0).length : Int) ≤ 6 := by have := ho.cho.hm; omega
    obtain ⟨b, o, A0, c0, rfl, hb0, hc0, hl0, hr0⟩ := h.mat 0 x02
    rw [SL.out]
    clear h z k dz e1 ho hl d6 hv hcr hcc hl0 hr0
    generalize skL M rows cols = S at *
    generalize detR M rows cols = d at *
    generalize rows.length = K at *
    obtain ⟨m, hm⟩ : ∃ m, (rw_ M 0).length = m := ⟨_, rfl⟩
    rw [hm] at BO QU MI SR Q mm hc0 BD
    clear hm
    have hc0 : w.cell? ⟨b, o, none⟩ = some (.slice A0 m c0) := hc0
    have HC0 := Lib.hid hc0
    have HB0 := Lib.hid hb0
    clear hc0 hb0
    go_enter Try.func16, Try.ntmps16
    go_wp2_with fail
    with_reducible refine DV.out.mono ?_
    rintro e W0 ⟨rfl, hb⟩
    have HB3 := Lib.hid hb
    clear hb DV
    go_wp2_with fail
    go_loopw [10, 11] (fun av kv wr => ∃ k A c, k ≤ M.length ∧ kv = .int .i64 (k : Int) ∧ av = .slice A (tkQ S k).length c ∧ OLQ wr W0.heap.size (.slice A (tkQ S k).length c) (tkQ S k) ∧ Below W0.heap.size W0 wr) (fun _ kv _ => M.length - (intOf kv).toNat)
    case atStart => exact ⟨0, none, 0, Nat.zero_le _, rfl, rfl, olq_nil _ _, Below.refl _ _⟩
    case round =>
      rename World => wo
      obtain ⟨k, A2, c2, hk, rfl, rfl, ho, B⟩ := hrel
      have HO := Lib.hid ho
      have HB := Lib.hid B
      by_cases hlt : k < M.length
      · have hk1 : (k : Int) < (M.length : Int) := by omega
        have hk0 : 0 ≤ (k : Int) := by omega
        have TN := Lib.hid (tkQ_next (L := S) (k := k) (by rw [SL.out]; exact hlt))
        have LA := Lib.hid (show (tkQ S k ++ [rq_ S k]).length = (tkQ S k).length + 1 by simp)
        have TL : (tkQ S k).length ≤ 1000 := by have := tkQ_le S k; omega
        have LEN := Lib.hid (SR.out k hlt)
        clear ho B
        go_wp2_with fail
        go_loopw [12, 13] (fun sv jv ws => ∃ j A1 c1, j ≤ m ∧ jv = .int .i64 (j : Int) ∧ sv = .slice A1 j c1 ∧ OR ws wo.heap.size (.slice A1 j c1) (tkR (rq_ S k) j) ∧ Below wo.heap.size wo ws) (fun _ jv _ => m - (intOf jv).toNat)
        case atStart => exact ⟨0, none, 0, Nat.zero_le _, rfl, rfl, or_nil _ _, Below.refl _ _⟩
        case round =>
          rename World => ws
          obtain ⟨j, A3, c3, hj, rfl, rfl, ho1, B1⟩ := hrel
          have HO1 := Lib.hid ho1
          have HB1 := Lib.hid B1
          have BW := Lib.hid (bstep (bstep HB3.out HB.out) B1)
          have hz0 := (BW.out.cell (p := ⟨b, o, none⟩) HB0.out).trans HC0.out
          by_cases hjl : j < m
          · have hj1 : (j : Int) < (m : Int) := by omega
            have hj0 : 0 ≤ (j : Int) := by omega
            obtain ⟨b', o', A1, c1, he, hb, hc1, hl1, hr1⟩ := ml_in H.out (bstep HB3.out HB.out) k hlt
            simp only [Option.some.injEq, Addr.mk.injEq, and_true] at he
            obtain ⟨rfl, rfl⟩ := he
            rw [rw_len Q.out hlt] at hc1
            obtain ⟨be, oe, rfl, hbe, hce⟩ := hr1 j (by rw [rw_len Q.out hlt]; exact hjl)
            have BOk := Lib.hid (BO.out ws BW.out k j hlt hjl)
            have QUk := Lib.hid (QU.out k j hlt hjl)
            have MIk := Lib.hid (MI.out k j hlt hjl)
            have bd := BD.out k j hlt hjl
            have TN1 := Lib.hid (tkR_next (l := rq_ S k) (k := j) (by rw [LEN.out]; exact hjl))
            have TL1 := Lib.hid (show (tkR (rq_ S k) j).length = j by unfold tkR; rw [List.length_take, LEN.out]; omega)
            have OBw := Lib.hid (fun W (Bl : Below ws.heap.size ws W) => or_below HO1.out Bl (Nat.le_refl _))
            generalize bord M rows cols (k : Int) (j : Int) = y at *
            generalize ratq y d = r at *
            generalize at_ (rw_ M k) j = n at *
            generalize rat_ (rq_ S k) j = z at *
            obtain ⟨L1, L2⟩ := r
            obtain ⟨⟨e1, e2⟩, ⟨f1, f2, f3, f4⟩, g1, g2⟩ := bd
            have g1 : -72000000000000000 ≤ n * L2 := g1
            have g2 : n * L2 ≤ 72000000000000000 := g2
            have f1 : -720000000000000 ≤ L1 := f1
            have f2 : L1 ≤ 720000000000000 := f2
            have WX1 := Lib.hid (show IntKind.i64.wrap (n * L2) = n * L2 from IntWalk.i64_in _ (by omega))
            have WX2 := Lib.hid (show IntKind.i64.wrap (n * L2 - L1) = n * L2 - L1 from IntWalk.i64_in _ (by omega))
            have F00 := Lib.hid (show b < wo.heap.size ∧ be < wo.heap.size ∧ wo.cell? ⟨b, o + k, none⟩ = some (.slice (some ⟨be, oe, none⟩) m c1) ∧ wo.cell? ⟨be, oe + j, none⟩ = some (.int .i64 n) from ⟨hb, hbe, hc1, hce⟩)
            clear ho1 B1 hb hbe hc1 hce hl1 hr1 e1 e2 f1 f2 f3 f4 g1 g2
            go_wp2_with fail
            with_reducible refine BOk.out.mono ?_
            rintro e w3 ⟨rfl, hb3⟩
            have T3 := Lib.hid hb3
            clear hb3 hz0
            go_wp2_with fail
            with_reducible refine (QUk.out _).mono ?_
            rintro e w4 ⟨rfl, hb4⟩
            have T4 := Lib.hid (bstep T3.out hb4)
            clear hb4
            have T5 := Lib.hid (balloc T4.out (rtc (L1, L2)))
            have F4 := Lib.hid (show RQS wo b o k (some ⟨be, oe, none⟩) m c1 be oe j n w4.heap.size L1 L2 (w4.alloc (rtc (L1, L2))) from by
              obtain ⟨y1, y2, y3, y4⟩ := F00.out
              have bw := bstep HB1.out T4.out
              have bz := bw.size
              exact ⟨(World.cell?_alloc_lt _ _ _ (by show b < w4.heap.size; omega)).trans ((bw.cell (p := ⟨b, o + k, none⟩) y1).trans y3), (World.cell?_alloc_lt _ _ _ (by show be < w4.heap.size; omega)).trans ((bw.cell (p := ⟨be, oe + j, none⟩) y2).trans y4), by go_simp, by go_simp, balloc bw _, by simp; omega, by simp; omega, by simp⟩)
            have N0 := Lib.hid (show (Value.slice A3 j c3).ownBlock ≠ some b from fun e => by have := (HO1.out.lt _ e).1; have := F00.out.1; omega)
            have N1 := Lib.hid (show (Value.slice A3 j c3).ownBlock ≠ some be from fun e => by have := (HO1.out.lt _ e).1; have := F00.out.2.1; omega)
            have N2 := Lib.hid (show (Value.slice A3 j c3).ownBlock ≠ some w4.heap.size from fun e => by have := (HO1.out.lt _ e).2; have := T4.out.size; omega)
            go_wp2_with fail
            generalize w4.alloc (rtc (L1, L2)) = W1 at *
            generalize w4.heap.size = q at *
            have WR1 := WX1.out
            have WR2 := WX2.out
            clear F00
            go_region_held3 (fun w' => w'.cell? ⟨b, o + k, none⟩ = some (.slice (some ⟨be, oe, none⟩) m c1) ∧ w'.cell? ⟨be, oe + j, none⟩ = some (.int .i64 n) ∧ w'.cell? ⟨q, 0, none⟩ = some (.int .i64 L1) ∧ w'.cell? ⟨q, 1, none⟩ = some (.int .i64 L2) ∧ Below wo.heap.size wo w' ∧ b < w'.heap.size ∧ be < w'.heap.size ∧ q < w'.heap.size)
              (first | with_reducible exact rqs_s (rqs_drew F4.out) | with_reducible exact rqs_s F6.out | with_reducible exact rqs_s (rqs_below F6.out (alloc_below _ _)) | with_reducible exact rqs_s G7.out | fail)
              (first
                | (go_at_call 28; (with_reducible refine (MIk.out _).mono ?_); rintro e w6 ⟨rfl, hb⟩; have F6 := Lib.hid (rqs_below (rqs_of (by assumption)) hb); have T6 := Lib.hid (bstep (Below.drew T5.out) hb); clear hb)
                | (refine stepR rfl (.tmp 47) (.tmp 64) rfl wo.heap.size (.slice A3 j c3) (tkR (rq_ S k) j) rfl (World.ownsRow.alloc (OBw.out _ T6.out) _) (balloc (bstep HB1.out T6.out) _).size ⟨w6.heap.size, 0, none⟩ 1 z rfl (rone_new _ _) (by rw [TL1.out]; omega) (j + 1) (by rw [TL1.out]) ?_; intro A7 c7 w7 ho hg; have HO7 := Lib.hid ho; have HB7 := Lib.hid (below_grown (balloc (bstep HB1.out T6.out) _) hg (balloc (bstep HB1.out T6.out) _).size (fun g hg => (HO1.out.lt g hg).1)); have G7 := Lib.hid (rqs_grown F6.out hg HB7.out N0.out N1.out N2.out); clear ho hg)
                | fail)
            all_goals
              clear WR1 WR2
              go_wp2_with fail
              go_roundw
              case rel => exact ⟨j + 1, A7, c7, by omega, by go_num, rfl, by rw [TN1.out]; exact HO7.out, HB7.out⟩
              case measure => simp [intOf]; omega
          · obtain rfl : j = m := by omega
            have e3 : tkR (rq_ S k) j = rq_ S k := tkR_all LEN.out
            rw [e3] at HO1
            clear ho1 B1 e3
            have CP := Lib.hid (orq_cap HO1.out).1
            go_wp2_with (at_builtin; refine wpQ rfl (.tmp 66) (.tmp 68) rfl W0.heap.size (.slice A2 (tkQ S k).length c2) (tkQ S k) rfl (olq_alloc (olq_below HO.out HB1.out) _) (by have := HB1.out.size; have := HB.out.size; simp; omega) ⟨ws.heap.size, 0, none⟩ 1 rfl A3 j c3 (rq_ S k) (cell_one _ _ _) LEN.out.symm CP.out (rls_in (or_il HO1.out) (balloc (Below.refl _ _) _)) (olq_out HO.out (Nat.le_refl _) HO1.out) (by omega) ?_; intro A4 c4 w4 ho hg _; have HO4 := Lib.hid ho; have HB4 := Lib.hid (below_grown (balloc (bstep HB.out HB1.out) _) hg (by have := HB1.out.size; have := HB.out.size; simp; omega) (fun g hg => (olq_lt HO.out g hg).1)); clear ho hg)
            go_roundw
            case rel => exact ⟨k + 1, A4, c4, by omega, by go_num, by rw [TN.out, LA.out], by rw [TN.out, LA.out]; exact HO4.out, HB4.out⟩
            case measure => simp [intOf]; omega
      · obtain rfl : k = M.length := by omega
        have e3 : tkQ S M.length = S := tkQ_all SL.out
        rw [e3] at ho ⊢
        have SLo := SL.out
        go_wp2_with fail
        go_ret2
        exact ⟨A2, c2, by rw [SLo]; rfl, olq_mq ho, bstep HB3.out B⟩
  · rw [skO_1 z]
    clear h hcr hcc
    generalize (dvz M rows cols).2 = e at *
    generalize (dvz M rows cols).1 = e' at *
    have t1 : (e != 0) = true := by simp [z]
    have t2 : (e == 0) = false := by simp [z]
    clear z
    go_enter Try.func16, Try.ntmps16
    go_wp2_with fail
    with_reducible refine DV.out.mono ?_
    rintro e W0 ⟨rfl, hb⟩
    have HB3 := Lib.hid hb
    clear hb
    go_wp2_with fail
    go_ret2
    exact ⟨none, 0, rfl, mq_nil _ _, HB3.out⟩

end Go.Proofs.Ytllonfaogbdbnaa
namespace Go.Proofs.Ytllonfaogbdbnaa
open Go.ChangeShapes Go.WideShapes Go.RowKit
open Cr
theorem allG_base {f : Nat → Nat → Int} {m : Nat} {b : Int} : ∀ {n : Nat}, b ≤ allG f m n b
  | 0 => Int.le_refl _
  | n + 1 => Int.le_trans (allG_base (n := n)) (rowG_ge (f := f n) (m := m) (j := 0)).1
theorem rowG_at {f : Nat → Int} {b : Int} : ∀ {m : Nat}, rowG f m b = b ∨ ∃ j, j < m ∧ rowG f m b = f j
  | 0 => .inl rfl
  | m + 1 => by
    unfold rowG mx
    split
    · exact .inr ⟨m, by omega, rfl⟩
    · rcases rowG_at (f := f) (b := b) (m := m) with e | ⟨j, hj, e⟩
      · exact .inl e
      · exact .inr ⟨j, by omega, e⟩
theorem allG_at {f : Nat → Nat → Int} {m : Nat} {b : Int} : ∀ {n : Nat}, allG f m n b = b ∨ ∃ i j, i < n ∧ j < m ∧ allG f m n b = f i j
  | 0 => .inl rfl
  | n + 1 => by
    rcases rowG_at (f := f n) (b := allG f m n b) (m := m) with e | ⟨j, hj, e⟩
    · rcases allG_at (f := f) (m := m) (b := b) (n := n) with e' | ⟨i, j, hi, hj, e'⟩
      · exact .inl (by unfold allG; rw [e, e'])
      · exact .inr ⟨i, j, by omega, hj, by unfold allG; rw [e, e']⟩
    · exact .inr ⟨n, j, by omega, hj, by unfold allG; exact e⟩
theorem gv_at {M : List (List Int)} {n m q : Nat} : gv M n m q (-1) = -1 ∨ ∃ r c, r ∈ setsN n q ∧ c ∈ setsN m q ∧ gv M n m q (-1) = absI (detR M r c) := by
  rcases allG_at (f := fa M n m q) (m := (setsN m q).length) (b := -1) (n := (setsN n q).length) with e | ⟨i, j, hi, hj, e⟩
  · exact .inl e
  · exact .inr ⟨_, _, rw_mem6 hi, rw_mem6 hj, e⟩
theorem D_eq2 (a : Int → Int → Int) (x : Int) : ∀ (L2 L1 L3 cs : List Int), D a (L1 ++ x :: (L2 ++ x :: L3)) cs = 0
  | [], L1, L3, cs => by
    have h := D_swap a x x L3 L1 cs
    show D a (L1 ++ x :: x :: L3) cs = 0
    omega
  | y :: L2, L1, L3, cs => by
    show D a (L1 ++ x :: y :: (L2 ++ x :: L3)) cs = 0
    rw [D_swap a x y (L2 ++ x :: L3) L1 cs]
    have e : L1 ++ y :: x :: (L2 ++ x :: L3) = (L1 ++ [y]) ++ x :: (L2 ++ x :: L3) := by simp
    rw [e, D_eq2 a x L2 (L1 ++ [y]) L3 cs]; rfl
theorem D_twice (a : Int → Int → Int) {x : Int} {l : List Int} (h : x ∈ l) (cs : List Int) : D a (x :: l) cs = 0 := by
  obtain ⟨L2, L3, rfl⟩ := List.append_of_mem h
  exact D_eq2 a x L2 [] L3 cs
theorem twice_of : ∀ (l R : List Int), (∀ x, x ∈ l → x ∈ R) → R.length < l.length → ∃ x L1 L2 L3, l = L1 ++ x :: (L2 ++ x :: L3)
  | [], R, _, h => by simp at h
  | y :: l, R, hm, h => by
    by_cases hy : y ∈ l
    · obtain ⟨L2, L3, rfl⟩ := List.append_of_mem hy
      exact ⟨y, [], L2, L3, rfl⟩
    · have yR := hm y (by simp)
      have hp := List.length_pos_of_mem yR
      have hl : R.length < l.length + 1 := h
      obtain ⟨x, L1, L2, L3, e⟩ := twice_of l (R.erase y) (fun x hx => (List.mem_erase_of_ne (fun e => hy (by rw [← e]; exact hx))).2 (hm x (by simp [hx]))) (by rw [List.length_erase_of_mem yR]; omega)
      exact ⟨x, y :: L1, L2, L3, by rw [e]; rfl⟩
/-- a row that is a sum of multiples of rows -/
theorem D_lin (a : Int → Int → Int) (d i : Int) (q : Nat) (r c : Nat → Int) (rs : List Int) : ∀ (L1 cs : List Int), (∀ k, k < cs.length → d * a i (at_ cs k) = ps (fun t => c t * a (r t) (at_ cs k)) q) →
    d * D a (L1 ++ i :: rs) cs = ps (fun t => c t * D a (L1 ++ r t :: rs) cs) q
  | [], cs, h => by
    show d * ps (fun k => sg k * a i (at_ cs k) * D a rs (cs.eraseIdx k)) cs.length = ps (fun t => c t * ps (fun k => sg k * a (r t) (at_ cs k) * D a rs (cs.eraseIdx k)) cs.length) q
    have e1 : d * ps (fun k => sg k * a i (at_ cs k) * D a rs (cs.eraseIdx k)) cs.length = ps (fun k => ps (fun t => c t * (sg k * a (r t) (at_ cs k) * D a rs (cs.eraseIdx k))) q) cs.length := by
      rw [ps_mul]
      refine ps_congr fun k hk => ?_
      have e : d * (sg k * a i (at_ cs k) * D a rs (cs.eraseIdx k)) = (sg k * D a rs (cs.eraseIdx k)) * (d * a i (at_ cs k)) := by grind
      rw [e, h k hk, ps_mul]
      exact ps_congr fun t _ => by grind
    have e2 : ps (fun t => c t * ps (fun k => sg k * a (r t) (at_ cs k) * D a rs (cs.eraseIdx k)) cs.length) q = ps (fun t => ps (fun k => c t * (sg k * a (r t) (at_ cs k) * D a rs (cs.eraseIdx k))) cs.length) q := ps_congr fun t _ => by rw [ps_mul]
    rw [e1, e2]
    exact ps_swap (fun k t => c t * (sg k * a (r t) (at_ cs k) * D a rs (cs.eraseIdx k))) q cs.length
  | x :: L1, cs, h => by
    show d * ps (fun k => sg k * a x (at_ cs k) * D a (L1 ++ i :: rs) (cs.eraseIdx k)) cs.length = ps (fun t => c t * ps (fun k => sg k * a x (at_ cs k) * D a (L1 ++ r t :: rs) (cs.eraseIdx k)) cs.length) q
    have e1 : d * ps (fun k => sg k * a x (at_ cs k) * D a (L1 ++ i :: rs) (cs.eraseIdx k)) cs.length = ps (fun k => ps (fun t => c t * (sg k * a x (at_ cs k) * D a (L1 ++ r t :: rs) (cs.eraseIdx k))) q) cs.length := by
      rw [ps_mul]
      refine ps_congr fun k hk => ?_
      have hl : (cs.eraseIdx k).length = cs.length - 1 := by rw [List.length_eraseIdx, if_pos hk]
      have ih := D_lin a d i q r c rs L1 (cs.eraseIdx k) fun j hj => by
        have e : at_ (cs.eraseIdx k) j = at_ cs (if j < k then j else j + 1) := by
          unfold at_
          simp only [List.getD, List.getElem?_eraseIdx]
          split <;> rfl
        rw [e]
        exact h _ (by split <;> omega)
      have e : d * (sg k * a x (at_ cs k) * D a (L1 ++ i :: rs) (cs.eraseIdx k)) = (sg k * a x (at_ cs k)) * (d * D a (L1 ++ i :: rs) (cs.eraseIdx k)) := by grind
      rw [e, ih, ps_mul]
      exact ps_congr fun t _ => by grind
    have e2 : ps (fun t => c t * ps (fun k => sg k * a x (at_ cs k) * D a (L1 ++ r t :: rs) (cs.eraseIdx k)) cs.length) q = ps (fun t => ps (fun k => c t * (sg k * a x (at_ cs k) * D a (L1 ++ r t :: rs) (cs.eraseIdx k))) cs.length) q := ps_congr fun t _ => by rw [ps_mul]
    rw [e1, e2]
    exact ps_swap (fun k t => c t * (sg k * a x (at_ cs k) * D a (L1 ++ r t :: rs) (cs.eraseIdx k))) q cs.length
theorem row_comb (a : Int → Int → Int) (rows cols : List Int) (i j : Int) (h : D a (i :: rows) (j :: cols) = 0) (hl : cols.length = rows.length) :
    D a rows cols * a i j = ps (fun t => -(sg (t + 1) * D a (i :: rows.eraseIdx t) cols) * a (at_ rows t) j) rows.length := by
  have e := D_col a rows.length (i :: rows) cols j rfl hl
  rw [h] at e
  have e2 : (i :: rows).length = rows.length + 1 := rfl
  rw [e2, ps_first] at e
  have e' : 0 = 1 * a i j * D a rows cols + ps (fun k => sg (k + 1) * a (at_ rows k) j * D a (i :: rows.eraseIdx k) cols) rows.length := e
  have e3 : ps (fun t => -(sg (t + 1) * D a (i :: rows.eraseIdx t) cols) * a (at_ rows t) j) rows.length = -ps (fun k => sg (k + 1) * a (at_ rows k) j * D a (i :: rows.eraseIdx k) cols) rows.length := by
    rw [← ps_neg]; exact ps_congr fun t _ => by grind
  rw [e3]; grind
theorem at_mem {l : List Int} {k : Nat} (h : k < l.length) : at_ l k ∈ l := by
  have e : at_ l k = l[k] := by unfold at_; simp [List.getD, h]
  rw [e]; exact List.getElem_mem h
/-- no greater minor is other than 0 -/
theorem D_all0 (a : Int → Int → Int) (rows cols : List Int) (n m : Nat) (dz : D a rows cols ≠ 0) (hl : cols.length = rows.length)
    (hz : ∀ i, (0 ≤ i ∧ i < (n : Int)) → ∀ j, (0 ≤ j ∧ j < (m : Int)) → D a (i :: rows) (j :: cols) = 0) (cs : List Int) (hcs : Under cs m) :
    ∀ (L2 L1 : List Int), (∀ x, x ∈ L1 → x ∈ rows) → (∀ x, x ∈ L2 → 0 ≤ x ∧ x < (n : Int)) → rows.length < (L1 ++ L2).length → D a (L1 ++ L2) cs = 0
  | [], L1, h1, _, hn => by
    rw [List.append_nil] at hn ⊢
    obtain ⟨x, M1, M2, M3, e⟩ := twice_of L1 rows h1 hn
    rw [e]; exact D_eq2 a x M2 M1 M3 cs
  | i :: L2, L1, h1, h2, hn => by
    have e := D_lin a (D a rows cols) i rows.length (fun t => at_ rows t) (fun t => -(sg (t + 1) * D a (i :: rows.eraseIdx t) cols)) L2 L1 cs fun k hk => row_comb a rows cols i (at_ cs k) (hz i (h2 i (by simp)) _ (hcs k hk)) hl
    have z : ps (fun t => -(sg (t + 1) * D a (i :: rows.eraseIdx t) cols) * D a (L1 ++ at_ rows t :: L2) cs) rows.length = ps (fun _ => 0) rows.length := ps_congr fun t ht => by
      have e3 : L1 ++ at_ rows t :: L2 = (L1 ++ [at_ rows t]) ++ L2 := by simp
      rw [e3, D_all0 a rows cols n m dz hl hz cs hcs L2 (L1 ++ [at_ rows t]) (fun x hx => by
        rcases List.mem_append.1 hx with hx | hx
        · exact h1 x hx
        · obtain rfl : x = at_ rows t := by simpa using hx
          exact at_mem ht) (fun x hx => h2 x (by simp [hx])) (by simp at hn ⊢; omega), Int.mul_zero]
    rw [z, ps_zero] at e
    exact (Int.mul_eq_zero.1 e).resolve_left dz
theorem absI_z {x : Int} (h : absI x = 0) : x = 0 := by unfold absI at h; split at h <;> omega
theorem bord_z {M : List (List Int)} {rows cols : List Int} {i j : Int} (hl : cols.length = rows.length) (h : bord M rows cols i j = 0) : D (ent M) (i :: rows) (j :: cols) = 0 := by
  have t : ∀ R C : List Int, C.length = R.length → D (fun j i => ent M i j) C R = D (ent M) R C := fun R C e => D_trans (ent M) R.length R C rfl e
  cases c1 : rows.contains i with
  | true => exact D_twice _ (by simpa using c1) _
  | false =>
    cases c2 : cols.contains j with
    | true =>
      rw [← t _ _ (by simp [hl])]
      exact D_twice _ (by simpa using c2) _
    | false =>
      rw [bord_3 c1 c2, detR_D] at h
      have e1 := D_move (ent M) i (cols ++ [j]) rows []
      rw [List.nil_append, List.nil_append, h] at e1
      have e2 := D_move (fun j i => ent M i j) j (i :: rows) cols []
      rw [List.nil_append, List.nil_append, t _ _ (by simp [hl]), t _ _ (by simp [hl]), ← e1] at e2
      exact absI_z e2.symm
/-- each set is one of the masks' -/
theorem set_lt {l : List Int} {N : Int} (h : setB l N = true) : ∀ d k, k + (d + 1) < l.length → at_ l k < at_ l (k + (d + 1))
  | 0, k, hk => by
    have := (setB1_of (setB_of h hk)).2.2 (by omega)
    rw [show k + (0 + 1) - 1 = k by omega] at this
    exact this
  | d + 1, k, hk => by
    have h1 := set_lt h d k (by omega)
    have h2 := (setB1_of (setB_of h (k := k + (d + 1 + 1)) hk)).2.2 (by omega)
    rw [show k + (d + 1 + 1) - 1 = k + (d + 1) by omega] at h2
    omega
def upB (n k : Nat) : Bool := !decide (k < 2 ^ n) || (decide (ints (bitsL (n + 1) k) = ints (bitsL n k)) && decide (ints (bitsL (n + 1) (k + 2 ^ n)) = ints (bitsL n k) ++ [(n : Int)]))
theorem upB_all : ∀ n, n < 6 → ∀ k, k < 64 → upB n k = true := by decide +kernel
theorem up_bits {n k : Nat} (hn : n < 6) (hk : k < 2 ^ n) : ints (bitsL (n + 1) k) = ints (bitsL n k) ∧ ints (bitsL (n + 1) (k + 2 ^ n)) = ints (bitsL n k) ++ [(n : Int)] := by
  have p := pow_le6 n (by omega)
  have z := upB_all n hn k (by omega)
  unfold upB at z
  simp only [hk, decide_true, Bool.not_true, Bool.false_or, Bool.and_eq_true, decide_eq_true_eq] at z
  exact z
theorem bits_zero : ∀ n, n < 7 → ints (bitsL n 0) = [] := by decide +kernel
theorem set_less {l : List Int} {N n : Int} (h : setB l N = true) (hb : ∀ k, k < l.length → at_ l k ≤ n - 1) : setB l n = true := setB_good fun k hk => by
  have h1 := setB1_of (setB_of h hk)
  have h2 := setB_of h hk
  unfold setB1 at h2 ⊢
  simp only [Bool.and_eq_true] at h2 ⊢
  exact ⟨inr_iff.2 ⟨h1.1, hb k hk⟩, h2.2⟩
theorem mask_step {n : Nat} (hn : n + 1 ≤ 6) (ih : ∀ r : List Int, setB r (n : Int) = true → ∃ k, k < 2 ^ n ∧ ints (bitsL n k) = r) (l : List Int) (ne : 0 < l.length) (h : setB l ((n + 1 : Nat) : Int) = true) : ∃ k, k < 2 ^ (n + 1) ∧ ints (bitsL (n + 1) k) = l := by
  have top := setB1_of (setB_of h (k := l.length - 1) (by omega))
  have low : ∀ k, k < l.length - 1 → at_ l k < at_ l (l.length - 1) := fun k hk => by
    have := set_lt h (l.length - 1 - k - 1) k (by omega)
    rw [show k + (l.length - 1 - k - 1 + 1) = l.length - 1 by omega] at this
    exact this
  have nl : l ≠ [] := fun e => by rw [e] at ne; simp at ne
  by_cases e : at_ l (l.length - 1) = (n : Int)
  · have el : l = l.dropLast ++ [(n : Int)] := by
      have h1 := List.dropLast_concat_getLast nl
      have h2 : l.getLast nl = (n : Int) := by
        have e0 : at_ l (l.length - 1) = l[l.length - 1]'(by omega) := by unfold at_; simp [List.getD, show l.length - 1 < l.length by omega]
        rw [List.getLast_eq_getElem, ← e, e0]
      rw [h2] at h1; exact h1.symm
    have dl : l.dropLast.length = l.length - 1 := by simp
    have da : ∀ k, k < l.dropLast.length → at_ l.dropLast k = at_ l k := fun k hk => by
      conv => rhs; rw [el]
      rw [at_app, if_pos hk]
    have sd : setB l.dropLast (n : Int) = true := setB_good fun k hk => by
      have hk2 : k < l.length := by omega
      have h1 := setB1_of (setB_of h hk2)
      have h2 := setB_of h hk2
      have h3 := low k (by omega)
      unfold setB1 at h2 ⊢
      simp only [Bool.and_eq_true] at h2 ⊢
      refine ⟨inr_iff.2 ⟨by rw [da k hk]; exact h1.1, by rw [da k hk]; omega⟩, ?_⟩
      cases k with
      | zero => rfl
      | succ k =>
        rw [da _ hk, show k + 1 - 1 = k from rfl, da k (by omega)]
        exact h2.2
    obtain ⟨k, hk, ek⟩ := ih l.dropLast sd
    refine ⟨k + 2 ^ n, by rw [Nat.pow_succ]; omega, ?_⟩
    rw [(up_bits (by omega) hk).2, ek, ← el]
  · obtain ⟨k, hk, ek⟩ := ih l (set_less h fun k hk => by
      by_cases e2 : k = l.length - 1
      · subst e2; omega
      · have := low k (by omega); omega)
    exact ⟨k, by rw [Nat.pow_succ]; omega, by rw [(up_bits (by omega) hk).1, ek]⟩
theorem mask_has : ∀ n : Nat, n ≤ 6 → ∀ r : List Int, setB r (n : Int) = true → ∃ k, k < 2 ^ n ∧ ints (bitsL n k) = r := by
  intro n
  induction n with
  | zero =>
    intro hn r h
    match r, h with
    | [], _ => exact ⟨0, by decide, bits_zero 0 (by decide)⟩
    | x :: r, h =>
      have := setB1_of (setB_of h (k := 0) (by simp))
      omega
  | succ n ih =>
    intro hn r h
    match r, h with
    | [], _ => exact ⟨0, Nat.pow_pos (by decide), bits_zero (n + 1) (by omega)⟩
    | x :: r, h => exact mask_step hn (ih (by omega)) (x :: r) (by simp) h
theorem sets_has {n : Nat} (hn : n ≤ 6) {r : List Int} (h : setB r (n : Int) = true) : r ∈ setsN n r.length := by
  obtain ⟨k, hk, rfl⟩ := mask_has n hn r h
  unfold setsN setsTo
  exact List.mem_map.2 ⟨k, List.mem_filter.2 ⟨List.mem_range.2 hk, by rw [len_ints]; simp⟩, rfl⟩
theorem rk_spec {M : List (List Int)} {n m : Nat} (h0 : 0 < gv M n m 0 (-1)) : ∀ S, 0 < gv M n m (rk M n m S) (-1) ∧ ∀ p, rk M n m S < p → p ≤ S → ¬ 0 < gv M n m p (-1)
  | 0 => ⟨h0, fun p h1 h2 => by unfold rk at h1; omega⟩
  | S + 1 => by
    by_cases h : 0 < gv M n m (S + 1) (-1)
    · rw [rk_hit h]; exact ⟨h, fun p h1 h2 => by omega⟩
    · rw [rk_miss h]
      have ih := rk_spec h0 S
      refine ⟨ih.1, fun p h1 h2 => ?_⟩
      by_cases e : p = S + 1
      · rw [e]; exact h
      · exact ih.2 p h1 (by omega)
/-- a choice leaves nothing exactly if it has as many rows as the rank -/
theorem rank_iff {M : List (List Int)} {rows cols : List Int} (k : kcode M rows cols = 0) (dz : detR M rows cols ≠ 0) : wst M rows cols = 0 ↔ (rows.length : Int) = (rkc M).1 := by
  obtain ⟨hv, hc⟩ := kcode_cases k
  obtain ⟨n, m, q, n1, n6, m1, m6⟩ := sq_of hv
  obtain rfl : M.length = n := q.len
  obtain rfl : (rw_ M 0).length = m := rw_len q (by omega)
  obtain ⟨ur, uc, hl⟩ := ch_under k
  unfold chB at hc
  simp only [Bool.and_eq_true, decide_eq_true_eq] at hc
  have mr := sets_has n6 hc.1.2
  have mc := sets_has m6 hc.2
  rw [hl] at mc
  have lr := (under_of hc.1.2).2
  have lc := (under_of hc.2).2
  have ls : rows.length ≤ sd M.length (rw_ M 0).length := by unfold sd; split <;> omega
  have gp : 0 < gv M M.length (rw_ M 0).length rows.length (-1) := by
    have g := gv_ge (M := M) mr mc
    have a : 0 < absI (detR M rows cols) := by unfold absI; split <;> omega
    omega
  have sp := rk_spec (M := M) (gv_zero n6 m6) (sd M.length (rw_ M 0).length)
  have le := rk_le (M := M) (n := M.length) (m := (rw_ M 0).length) (sd M.length (rw_ M 0).length)
  rw [rkc_0 hv]
  show _ ↔ (rows.length : Int) = ((rk M M.length (rw_ M 0).length (sd M.length (rw_ M 0).length) : Nat) : Int)
  have qle : rows.length ≤ rk M M.length (rw_ M 0).length (sd M.length (rw_ M 0).length) := by
    refine Classical.byContradiction fun c => sp.2 rows.length (by omega) ls gp
  constructor
  · intro hw
    have hz : ∀ i, (0 ≤ i ∧ i < (M.length : Int)) → ∀ j, (0 ≤ j ∧ j < ((rw_ M 0).length : Int)) → D (ent M) (i :: rows) (j :: cols) = 0 := fun i hi j hj => by
      refine bord_z hl (absI_z ?_)
      have g := wsr_ge M rows cols (rw_ M 0).length (j := j.toNat) (by omega) (n := M.length) (i := i.toNat) (by omega)
      rw [show ((i.toNat : Nat) : Int) = i by omega, show ((j.toNat : Nat) : Int) = j by omega] at g
      have g2 : wsr M rows cols (rw_ M 0).length M.length = 0 := hw
      have g3 := absI_nn (bord M rows cols i j)
      omega
    rw [detR_D] at dz
    refine Classical.byContradiction fun c => ?_
    have lt : rows.length < rk M M.length (rw_ M 0).length (sd M.length (rw_ M 0).length) := by omega
    rcases gv_at (M := M) (n := M.length) (m := (rw_ M 0).length) (q := rk M M.length (rw_ M 0).length (sd M.length (rw_ M 0).length)) with e | ⟨r, c2, h1, h2, e⟩
    · have := sp.1; omega
    · obtain ⟨r1, r2⟩ := sets_mem n6 h1
      obtain ⟨c1, c3⟩ := sets_mem m6 h2
      have z := D_all0 (ent M) rows cols M.length (rw_ M 0).length dz hl hz c2 (under_of c3).1 r [] (fun x hx => by cases hx) (fun x hx => under_mem (under_of r2).1 hx) (by rw [List.nil_append]; omega)
      rw [List.nil_append, ← detR_D] at z
      rw [z] at e
      have := sp.1
      rw [e] at this
      exact absurd this (by decide)
  · intro hq
    rcases wsr_at M rows cols (rw_ M 0).length M.length with e | ⟨i, j, hi, hj, e⟩
    · exact e
    · show wsr M rows cols (rw_ M 0).length M.length = 0
      rw [e]
      rcases bord_le n6 m6 mr mc hi hj with e2 | ⟨q1, q2, e2⟩
      · rw [e2]; rfl
      · have := sp.2 (rows.length + 1) (by omega) (by unfold sd; split <;> omega)
        have := absI_nn (bord M rows cols i j)
        omega
theorem ratq_num {n d : Int} (hd : 0 < d) : (ratq n d).1 = 0 ↔ n = 0 := by
  have h := (ratq_cross (n := n) (d := d) (by omega))
  have h1 := (ratq_abs (n := n) (d := d) (by omega)).2.2
  constructor
  · intro e
    rw [e] at h
    have z : absI n * (ratq n d).2 = 0 := by rw [← h]; unfold absI; simp
    rcases Int.mul_eq_zero.1 z with z | z
    · exact absI_z z
    · omega
  · intro e
    rw [e, ratq_zero hd]

end Go.Proofs.Ytllonfaogbdbnaa
namespace Go.Proofs.Ytllonfaogbdbnaa
open Go.ChangeShapes Go.WideShapes Go.RowKit
open Cr
theorem skel_rel {M : List (List Int)} {rows cols : List Int} : ((wrs M rows cols).2 = 0 ∧ (rkc M).2 = 0 ∧ ((wrs M rows cols).1.1 = 0 ↔ (rows.length : Int) = (rkc M).1)) ∨ (wrs M rows cols).2 ≠ 0 := by
  by_cases z : (dvz M rows cols).2 = 0
  · obtain ⟨k, dz, _⟩ := dvz_ok z
    have hv := (kcode_cases k).1
    refine .inl ⟨by rw [wrs_0 z], by rw [rkc_0 hv], ?_⟩
    rw [wrs_0 z]
    have ad : 0 < absI (detR M rows cols) := by unfold absI; split <;> omega
    exact (ratq_num ad).trans (rank_iff k dz)
  · refine .inr ?_
    unfold wrs; rw [if_neg z]; exact z
theorem skO_sm (M : List (List Int)) (rows cols : List Int) : (skO M rows cols).length ≤ 1000 ∧ ∀ i, i < (skO M rows cols).length → (rq_ (skO M rows cols) i).length ≤ 1000 := by
  by_cases z : (dvz M rows cols).2 = 0
  · obtain ⟨k, dz, _⟩ := dvz_ok z
    obtain ⟨n, m, q, n1, n6, m1, m6⟩ := sq_of (kcode_cases k).1
    have e1 := q.len
    have e2 : (rw_ M 0).length = m := rw_len q (by omega)
    rw [skO_0 z, skL_len]
    refine ⟨by omega, fun i hi => ?_⟩
    rw [skL_row M rows cols hi, skR_len]
    omega
  · rw [skO_1 z]
    exact ⟨by simp, fun i hi => absurd hi (Nat.not_lt_zero i)⟩
set_option maxRecDepth 100000 in
set_option maxHeartbeats 8000000 in
theorem skels_walk (A : Option Addr) (c : Nat) (M : List (List Int)) (R : Option Addr) (cr : Nat) (rows : List Int) (C : Option Addr) (cc : Nat) (cols : List Int) (w : World) (lM : M.length ≤ c) (cM : c ≤ maxLen) (hM : ML w A M) (lR : rows.length ≤ cr) (cR : cr ≤ maxLen) (hR : IL w R rows) (lC : cols.length ≤ cc) (cC : cc ≤ maxLen) (hC : IL w C cols) :
    Calls Try.prog 4 #[.slice A M.length c, cdv R rows.length cr C cols.length cc] w fun e w' => e = .returned (.bool true) ∧ Below w.heap.size w w' := by
  have hm0 : M.length ≤ 9223372036854775807 := by unfold maxLen at cM; omega
  have hk0 : rows.length ≤ 9223372036854775807 := by unfold maxLen at cR; omega
  have hl0 : cols.length ≤ 9223372036854775807 := by unfold maxLen at cC; omega
  have LO := Lib.hid (fun W (B : Below w.heap.size w W) => long_any6 A c M W (ml_in hM B) hm0)
  have MA := Lib.hid (fun W => many_any R C rows.length cr cols.length cc W)
  have KN := Lib.hid (fun W => known6_any W)
  have X0 := Lib.hid (cb_new w R rows.length cr C cols.length cc)
  cases hlo : longB M with
  | true =>
    rw [hlo] at LO
    clear lM cM hM lR cR hR lC cC hC hlo
    go_enter Try.func4, Try.ntmps4
    go_wp2_with fail
    with_reducible refine (LO.out _ X0.out.bel).mono ?_
    rintro e w2 ⟨rfl, rfl⟩
    have HB := Lib.hid X0.out.bel
    go_wp2_with fail
    with_reducible refine (KN.out _).mono ?_
    rintro e w9 ⟨rfl, hb9⟩
    have HB9 := Lib.hid (bstep HB.out hb9)
    clear hb9
    go_wp2_with fail
    go_ret
    exact ⟨rfl, HB9.out⟩
  | false =>
    rw [hlo] at LO
    cases hma : (decide (40 < rows.length) || decide (40 < cols.length)) with
    | true =>
      rw [hma] at MA
      obtain ⟨q0, q1, q2⟩ := cb_s X0.out
      clear lM cM hM lR cR hR lC cC hC hlo hma
      go_enter Try.func4, Try.ntmps4
      go_wp2_with fail
      with_reducible refine (LO.out _ X0.out.bel).mono ?_
      rintro e w2 ⟨rfl, rfl⟩
      go_wp2_with fail
      with_reducible refine (MA.out _).mono ?_
      rintro e w2 ⟨rfl, rfl⟩
      have HB := Lib.hid (balloc X0.out.bel (.cells #[.slice R rows.length cr, .slice C cols.length cc] 39))
      go_wp2_with fail
      with_reducible refine (KN.out _).mono ?_
      rintro e w9 ⟨rfl, hb9⟩
      have HB9 := Lib.hid (bstep HB.out hb9)
      clear hb9
      go_wp2_with fail
      go_ret
      exact ⟨rfl, HB9.out⟩
    | false =>
      rw [hma] at MA
      simp only [Bool.or_eq_false_iff, decide_eq_false_iff_not] at hma
      have AG := Lib.hid (arg_of hM hR hC hlo hma.1 hma.2)
      have P1 := Lib.hid (fun W (B : Below w.heap.size w W) => skelP_any A R C c cr cc M rows cols W (arg_in AG.out B))
      have P2 := Lib.hid (fun W (B : Below w.heap.size w W) => rskel_any A R C c cr cc M rows cols W (arg_in AG.out B) lR lC)
      have P3 := Lib.hid (fun W (B : Below w.heap.size w W) => worstP_any A R C c cr cc M rows cols W (arg_in AG.out B))
      have P4 := Lib.hid (fun W (B : Below w.heap.size w W) => rworstP_any A R C c cr cc M rows cols W (arg_in AG.out B) lR lC)
      have P5 := Lib.hid (fun W (B : Below w.heap.size w W) => rankP_any A c M W (ml_in AG.out.mat B) AG.out.len AG.out.wid)
      have SM := Lib.hid (skO_sm M rows cols)
      have SR := Lib.hid (fun W i A' B' c' d' (hi : i < (skO M rows cols).length) (a : RLs W A' (rq_ (skO M rows cols) i)) (b : RLs W B' (rq_ (skO M rows cols) i)) => same_rats A' B' c' d' (rq_ (skO M rows cols) i) W a b (SM.out.2 i hi))
      have RE := Lib.hid (skel_rel (M := M) (rows := rows) (cols := cols))
      have hn := SM.out.1
      have r40 : (rows.length : Int) ≤ 40 := by have := hma.1; omega
      clear lM cM hM lR cR hR lC cC hC hlo hma AG SM
      generalize skO M rows cols = S at *
      generalize wrs M rows cols = rr at *
      generalize rkc M = rk at *
      generalize (dvz M rows cols).2 = e0 at *
      obtain ⟨⟨o1, o2⟩, g⟩ := rr
      obtain ⟨rk1, rk2⟩ := rk
      have hn' : (S.length : Int) ≤ 1000 := by omega
      obtain ⟨q0, q1, q2⟩ := cb_s X0.out
      go_enter Try.func4, Try.ntmps4
      go_wp2_with fail
      with_reducible refine (LO.out _ X0.out.bel).mono ?_
      rintro e w2 ⟨rfl, rfl⟩
      go_wp2_with fail
      with_reducible refine (MA.out _).mono ?_
      rintro e w2 ⟨rfl, rfl⟩
      have AB := Lib.hid (alloc_below (w.alloc (.cells #[.slice R rows.length cr, .slice C cols.length cc] 39)) (.cells #[.slice R rows.length cr, .slice C cols.length cc] 39))
      have X1 := Lib.hid (cb_below X0.out AB.out)
      clear q0 q1 q2
      obtain ⟨q0, q1, q2⟩ := cb_s X1.out
      go_wp2_with fail
      with_reducible refine (P1.out _ X1.out.bel).mono ?_
      rintro e w3 ⟨A1, c1, rfl, mq, hb⟩
      have M1 := Lib.hid mq
      have X3 := Lib.hid (cb_below X1.out hb)
      clear hb mq
      clear q0 q1 q2
      obtain ⟨q0, q1, q2⟩ := cb_s X3.out
      go_wp2_with fail
      with_reducible refine (P2.out _ X3.out.bel).mono ?_
      rintro e w4 ⟨A2, c2, rfl, mq, hb⟩
      have M1 := Lib.hid (mq_in M1.out hb)
      have M2 := Lib.hid mq
      have X4 := Lib.hid (cb_below X3.out hb)
      clear hb mq
      clear q0 q1 q2
      obtain ⟨q0, q1, q2⟩ := cb_s X4.out
      go_wp2_with fail
      with_reducible refine (P3.out _ X4.out.bel).mono ?_
      rintro e w5 ⟨rfl, hb⟩
      have HB5 := Lib.hid (hb.trans ((alloc_below w5 (rtc (o1, o2))).mono hb.size))
      have Y5 := Lib.hid (rbk_new w5 (o1, o2))
      have M1 := Lib.hid (mq_in M1.out HB5.out)
      have M2 := Lib.hid (mq_in M2.out HB5.out)
      have X5 := Lib.hid (cb_below X4.out HB5.out)
      clear hb
      clear q0 q1 q2
      obtain ⟨q0, q1, q2⟩ := cb_s X5.out
      go_wp2_with fail
      with_reducible refine (P4.out _ X5.out.bel).mono ?_
      rintro e w6 ⟨rfl, hb⟩
      have HB6 := Lib.hid (hb.trans ((alloc_below w6 (rtc (o1, o2))).mono hb.size))
      have Y6 := Lib.hid (rbk_new w6 (o1, o2))
      have Y5 := Lib.hid (rbk_below Y5.out HB6.out)
      have M1 := Lib.hid (mq_in M1.out HB6.out)
      have M2 := Lib.hid (mq_in M2.out HB6.out)
      have X6 := Lib.hid (cb_below X5.out HB6.out)
      clear hb
      clear q0 q1 q2
      obtain ⟨y0, y1, y2⟩ := rbk_s Y5.out
      obtain ⟨z0, z1, z2⟩ := rbk_s Y6.out
      have HQ5 := Lib.hid y2
      go_wp2_with fail
      clear y0 y1 y2 z0 z1 z2 HB5 HB6 P1 P2 P3 P4
      generalize w6.alloc (rtc (o1, o2)) = W0 at *
      generalize w5.heap.size = qq at *
      go_loopw [13] (fun iv wr => ∃ i : Nat, i ≤ S.length ∧ iv = .int .i64 (i : Int) ∧ Below W0.heap.size W0 wr) (fun iv _ => S.length - (intOf iv).toNat)
      case atStart => exact ⟨0, Nat.zero_le _, rfl, Below.refl _ _⟩
      case round =>
        rename World => wo
        obtain ⟨k, hk, rfl, Bw⟩ := hrel
        have BW := Lib.hid Bw
        by_cases hlt : k < S.length
        · have hk1 : (k : Int) < (S.length : Int) := by omega
          have hk0 : 0 ≤ (k : Int) := by omega
          obtain ⟨b1, o1', R1, cr1, rfl, hb1, hc1, _, hr1⟩ := mq_in M1.out Bw k hlt
          obtain ⟨b3, o3, E1, ce1, rfl, hb3, hc3, _, hr3⟩ := mq_in M2.out Bw k hlt
          have VT0 := Lib.hid (vt_of (w := wo) (w1 := wo) (x1 := b1) (y1 := o1' + k) (x3 := b3) (y3 := o3 + k) (R := R1) (cr := cr1) (E := E1) (ce := ce1) (q := (rq_ S k).length) ⟨hc1, hc3, Below.refl _ _, hb1, hb3⟩)
          have SRk := Lib.hid (fun W (B : Below wo.heap.size wo W) => SR.out W k R1 E1 cr1 ce1 hlt (rls_in hr1 B) (rls_in hr3 B))
          clear Bw hb1 hb3 hr1 hr3 hc1 hc3
          go_wp2_with fail
          go_region_held3 (fun w' => w'.cell? ⟨b1, (o1' + k), none⟩ = some (.slice R1 (rq_ S k).length cr1) ∧ w'.cell? ⟨b3, (o3 + k), none⟩ = some (.slice E1 (rq_ S k).length ce1) ∧ Below wo.heap.size wo w' ∧ b1 < w'.heap.size ∧ b3 < w'.heap.size)
            (first | with_reducible exact vt_s (vt_drew VT0.out) | with_reducible exact vt_s V1.out | fail)
            (first
              | (go_at_call 19; (with_reducible refine (SRk.out _ (vt_bel (vt_of (by assumption)))).mono ?_); rintro e w2 ⟨rfl, hb⟩; have V1 := Lib.hid (vt_below (vt_of (by assumption)) hb); clear hb)
              | fail)
          all_goals
            go_wp2_with fail
            go_roundw
            case rel => exact ⟨k + 1, by omega, by go_num, bstep BW.out (vt_bel V1.out)⟩
            case measure => simp [intOf]; omega
        · obtain rfl : k = S.length := by omega
          clear Bw
          have HX := Lib.hid (cb_below X6.out BW.out)
          go_wp2_with fail
          with_reducible refine (P5.out _ HX.out.bel).mono ?_
          rintro e w7 ⟨rfl, hb⟩
          have X7 := Lib.hid (cb_below HX.out hb)
          have Y7 := Lib.hid (rbk_below (rbk_below Y5.out BW.out) hb)
          have HB := Lib.hid X7.out.bel
          clear hb
          obtain ⟨y0, y1, y2⟩ := rbk_s Y7.out
          obtain ⟨q0, q1, q2⟩ := cb_s X7.out
          rcases RE.out with ⟨g0, r0, ri⟩ | g0
          · have g0 : g = 0 := g0
            have r0 : rk2 = 0 := r0
            have ri : o1 = 0 ↔ (rows.length : Int) = rk1 := ri
            subst g0
            subst r0
            by_cases ho : o1 = 0
            · obtain rfl := ri.1 ho
              subst ho
              clear RE ri
              go_wp2_with fail
              with_reducible refine (KN.out _).mono ?_
              rintro e w9 ⟨rfl, hb9⟩
              have HB9 := Lib.hid (bstep HB.out hb9)
              clear hb9
              go_wp2_with fail
              go_ret
              exact ⟨rfl, HB9.out⟩
            · have hl : ¬ (rows.length : Int) = rk1 := fun e => ho (ri.2 e)
              have f1 : (o1 == 0) = false := by simp [ho]
              have f2 : ((rows.length : Int) == rk1) = false := by simp [hl]
              have f3 : decide (o1 = 0) = false := decide_eq_false ho
              have f4 : decide ((rows.length : Int) = rk1) = false := decide_eq_false hl
              clear RE ri
              go_wp2_with fail
              with_reducible refine (KN.out _).mono ?_
              rintro e w9 ⟨rfl, hb9⟩
              have HB9 := Lib.hid (bstep HB.out hb9)
              clear hb9
              go_wp2_with fail
              go_ret
              exact ⟨rfl, HB9.out⟩
          · have g0 : g ≠ 0 := g0
            have f1 : (g != 0) = true := by simp [g0]
            have f2 : (g == 0) = false := by simp [g0]
            clear RE
            go_wp2_with fail
            with_reducible refine (KN.out _).mono ?_
            rintro e w9 ⟨rfl, hb9⟩
            have HB9 := Lib.hid (bstep HB.out hb9)
            clear hb9
            go_wp2_with fail
            go_ret
            exact ⟨rfl, HB9.out⟩

end Go.Proofs.Ytllonfaogbdbnaa
