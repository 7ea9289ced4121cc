/-
  Lists of lists of numbers of the call's own, and an append to one of them.
-/
import Derived.Test.YtllonfaogbdbnaaCrS1
namespace Go.Proofs.Ytllonfaogbdbnaa
open Go.ChangeShapes Go.WideShapes Go.RowKit
open Cr
structure RV where
  A : Option Addr
  l : List Int
  c : Nat
def slv (r : RV) : Value := .slice r.A r.l.length r.c
abbrev ORs (w : World) (base : Nat) (v : Value) (rs : List RV) : Prop := w.ownsRow base 37 1 v rs.length (rs.map slv)
/-- lists in memory, apart from a block -/
def RI (w : World) (row : Option Nat) (rs : List RV) : Prop := ∀ r, r ∈ rs → r.l.length ≤ r.c ∧ IL w r.A r.l ∧ ∀ a, r.A = some a → a.block < w.heap.size ∧ some a.block ≠ row
/-- a list of lists of the call's own -/
def OLL (w : World) (base : Nat) (v : Value) (L : List (List Int)) : Prop := ∃ rs : List RV, rs.map RV.l = L ∧ ORs w base v rs ∧ RI w v.ownBlock rs
theorem oll_nil (w : World) (base : Nat) : OLL w base (.slice none 0 0) [] := ⟨[], rfl, World.ownsRow_nil w base _ _, fun _ h => by cases h⟩
theorem oll_form {w : World} {base : Nat} {v : Value} {L : List (List Int)} (h : OLL w base v L) : (∃ g c, v = .slice (some ⟨g, 0, none⟩) L.length c ∧ L.length ≤ c ∧ base ≤ g ∧ g < w.heap.size) ∨ (v = .slice none 0 0 ∧ L = []) := by
  obtain ⟨rs, rfl, h, _⟩ := h
  rw [List.length_map]
  rcases h.2 with ⟨e, e0⟩ | ⟨g, cap, cur, e, hb, hg, hl, _⟩
  · exact .inr ⟨e, by rw [List.eq_nil_of_length_eq_zero e0]; rfl⟩
  · exact .inl ⟨g, cap, e, hl, hb, (Array.getElem?_eq_some_iff.1 hg).1⟩
theorem oll_slice {w : World} {base : Nat} {v : Value} {L : List (List Int)} (h : OLL w base v L) : ∃ A c, v = .slice A L.length c ∧ L.length ≤ c := by
  rcases oll_form h with ⟨g, c, e, hl, _⟩ | ⟨e, e0⟩
  · exact ⟨_, c, e, hl⟩
  · subst e0; exact ⟨none, 0, e, Nat.le_refl _⟩
theorem oll_lt {w : World} {base : Nat} {v : Value} {L : List (List Int)} (h : OLL w base v L) : ∀ k, v.ownBlock = some k → base ≤ k ∧ k < w.heap.size := by
  obtain ⟨rs, rfl, h, _⟩ := h
  exact h.lt
theorem ownsRow_below {w w1 : World} {base B size n : Nat} {ty : TypeId} {v : Value} {xs : List Value} (h : w.ownsRow base ty size v n xs) (hb : Below w.heap.size w w1) (hB : B ≤ base) : w1.ownsRow B ty size v n xs := by
  refine ⟨h.1, ?_⟩
  rcases h.2 with hn | ⟨g, cap, cur, rfl, hg, hgg, rest⟩
  · exact .inl hn
  · exact .inr ⟨g, cap, cur, rfl, by omega, by rw [hb.block g (Array.getElem?_eq_some_iff.1 hgg).1]; exact hgg, rest⟩
theorem ri_below {w w1 : World} {row : Option Nat} {rs : List RV} (h : RI w row rs) (hb : Below w.heap.size w w1) : RI w1 row rs := fun r hr => by
  obtain ⟨h1, h2, h3⟩ := h r hr
  exact ⟨h1, il_in h2 hb, fun a e => ⟨Nat.lt_of_lt_of_le (h3 a e).1 hb.size, (h3 a e).2⟩⟩
theorem oll_below {w w1 : World} {base : Nat} {v : Value} {L : List (List Int)} (h : OLL w base v L) (hb : Below w.heap.size w w1) : OLL w1 base v L := by
  obtain ⟨rs, e, h1, h2⟩ := h
  exact ⟨rs, e, ownsRow_below h1 hb (Nat.le_refl _), ri_below h2 hb⟩
theorem oll_alloc {w : World} {base : Nat} {v : Value} {L : List (List Int)} (h : OLL w base v L) (o : Obj) : OLL (w.alloc o) base v L := oll_below h (balloc (Below.refl _ _) _)
theorem oll_ml {w : World} {base : Nat} {A : Option Addr} {n c : Nat} {L : List (List Int)} (h : OLL w base (.slice A n c) L) : ML w A L := fun i hi => by
  obtain ⟨rs, rfl, h, hr⟩ := h
  rw [List.length_map] at hi
  have hi' : i < (rs.map RV.l).length := by rw [List.length_map]; exact hi
  have e : rw_ (rs.map RV.l) i = rs[i].l := by
    show (rs.map RV.l).getD i [] = _
    rw [List.getD, List.getElem?_eq_getElem hi', List.getElem_map]; rfl
  rcases h.2 with ⟨e, e0⟩ | ⟨g, cap, cur, e', hb, hg, hl, hm, hs, ht⟩
  · omega
  · injection e' with e1 e2 e3
    subst e1
    obtain ⟨r1, r2, r3⟩ := hr rs[i] (List.getElem_mem hi)
    have z := h.cells (g := g) rfl i (slv rs[i]) (by rw [List.getElem?_map, List.getElem?_eq_getElem hi]; rfl)
    have ea : (⟨g, 0, none⟩ : Addr).add i = ⟨g, 0 + i, none⟩ := by
      unfold Addr.add
      split
      · rename_i e; subst e; rfl
      · rfl
    rw [ea] at z
    rw [e]
    exact ⟨g, 0, rs[i].A, rs[i].c, rfl, (Array.getElem?_eq_some_iff.1 hg).1, z, r1, r2⟩
theorem il_grown {w w' : World} {row : Option Nat} {A : Option Addr} {l : List Int} (h : IL w A l) (hg : w.grownBy w' row) (hf : ∀ a, A = some a → some a.block ≠ row) : IL w' A l := fun k hk => by
  obtain ⟨b, o, e, hlt, hc⟩ := h k hk
  exact ⟨b, o, e, Nat.lt_of_lt_of_le hlt hg.size, (World.grownBy.cell_far hg ⟨b, o + k, none⟩ hlt (hf ⟨b, o, none⟩ e)).trans hc⟩
theorem infoL' : ∃ i, Try.prog.info? 37 = some i ∧ i.zero = some (.slice none 0 0) ∧ i.size = 1 ∧ i.bytes = 24 := by
  have h := infoL
  cases e : Try.prog.info? 37 with
  | none => rw [e] at h; cases h
  | some i => rw [e] at h; simp at h; exact ⟨i, rfl, h.1, h.2.1, h.2.2⟩
/-- an append of a list to a list of lists of the call's own -/
theorem appL {w : World} (base : Nat) (ty : TypeId) (v : Value) (L : List (List Int)) (hown : OLL w base v L) (hbase : base ≤ w.heap.size) (ad : Addr) (ca : Nat) (A : Option Addr) (n c : Nat) (l : List Int)
    (hsrc : w.cell? ad = some (.slice A n c)) (hn : n = l.length) (hl : l.length ≤ c) (h : IL w A l) (hf : ∀ a, A = some a → a.block < w.heap.size ∧ some a.block ≠ v.ownBlock) (hm : L.length ≤ 1000000) :
    ∃ A' c' w', (Builtin.append_ #[36, 36] ty #[v, .slice (some ad) 1 ca]).run Try.prog w = .ok (.slice A' (L.length + 1) c') w' ∧ OLL w' base (.slice A' (L.length + 1) c') (L ++ [l]) ∧ w.grownBy w' v.ownBlock ∧ L.length + 1 ≤ c' := by
  subst hn
  obtain ⟨i, hi, z1, z2, z3⟩ := infoL'
  have hu : Try.prog.underlying 36 = some (.slice 37) := Try.underlying36
  obtain ⟨rs, rfl, h1, h2⟩ := hown
  rw [List.length_map] at hm ⊢
  obtain ⟨v', w', g1, g2, g3, _, g5⟩ := run_append_own_at (P := Try.prog) w base 36 ty 37 i _ 1 24 hu hi z1 z2 z3 rfl (by decide) v rs.length (rs.map slv) h1 ad 1 ca [slv ⟨A, l, c⟩] rfl
    (fun j u hj => by
      cases j with
      | zero =>
        obtain rfl : slv ⟨A, l, c⟩ = u := Option.some.inj hj
        have ea : ad.add 0 = ad := by unfold Addr.add; split <;> first | rfl | (rename_i e; exact absurd rfl e)
        rw [ea]; exact hsrc
      | succ j => cases hj) (fun u hu => by
        obtain rfl : u = slv ⟨A, l, c⟩ := by simpa using hu
        rfl) (by unfold maxLen; omega) (by omega) hbase
  have h2' : RI w' v'.ownBlock (rs ++ [⟨A, l, c⟩]) := fun r hr => by
    have key : r.l.length ≤ r.c ∧ IL w r.A r.l ∧ ∀ a, r.A = some a → a.block < w.heap.size ∧ some a.block ≠ v.ownBlock := by
      rcases List.mem_append.1 hr with hr | hr
      · exact h2 r hr
      · obtain rfl : r = ⟨A, l, c⟩ := by simpa using hr
        exact ⟨hl, h, hf⟩
    obtain ⟨k1, k2, k3⟩ := key
    refine ⟨k1, il_grown k2 g3 (fun a e => (k3 a e).2), fun a e => ⟨Nat.lt_of_lt_of_le (k3 a e).1 g3.size, ?_⟩⟩
    rcases g5 with g5 | g5
    · rw [g5]; exact (k3 a e).2
    · rw [g5]; intro e'; injection e' with e'; have := (k3 a e).1; omega
  have ho : OLL w' base v' (rs.map RV.l ++ [l]) := ⟨rs ++ [⟨A, l, c⟩], by rw [List.map_append]; rfl, by
    show w'.ownsRow base _ 1 v' (rs ++ [(⟨A, l, c⟩ : RV)]).length ((rs ++ [(⟨A, l, c⟩ : RV)]).map slv)
    rw [List.length_append, List.map_append]; exact g2, h2'⟩
  obtain ⟨A', c', rfl, hc⟩ := oll_slice ho
  rw [List.length_append, List.length_map] at *
  exact ⟨A', c', w', g1, ho, g3, hc⟩
theorem wpL {ops : Array Oper} {rest : List Oper} {o : Oper} {a : Act} {w : World} {Q : Exit → Act → World → Prop}
    (hg : o.guard = none) (s x : Operand) (hop : o.op = Op.call { callee := Callee.builtin Builtin.append, args := #[s, x], argTypes := #[36, 36] })
    (base : Nat) (v : Value) (L : List (List Int)) (hs : a.eval s = v) (hown : OLL w base v L) (hbase : base ≤ w.heap.size) (ad : Addr) (ca : Nat) (hx : a.eval x = .slice (some ad) 1 ca) (A : Option Addr) (n c : Nat) (l : List Int)
    (hsrc : w.cell? ad = some (.slice A n c)) (hn : n = l.length) (hl : l.length ≤ c) (h : IL w A l) (hf : ∀ a, A = some a → a.block < w.heap.size ∧ some a.block ≠ v.ownBlock) (hm : L.length ≤ 1000000)
    (hK : ∀ A' c' w', OLL w' base (.slice A' (L.length + 1) c') (L ++ [l]) → w.grownBy w' v.ownBlock → L.length + 1 ≤ c' → wpList Try.prog ops Q rest (a.put o.dst (.slice A' (L.length + 1) c')) w') :
    wpList Try.prog ops Q (o :: rest) a w := by
  obtain ⟨A', c', w', h1, h2, h3, h4⟩ := appL base o.type v L hown hbase ad ca A n c l hsrc hn hl h hf hm
  exact plainA hg s x _ hop _ _ _ _ hs hx h1 (hK A' c' w' h2 h3 h4)
theorem cell_one (w : World) (v : Value) (ty : TypeId) : (w.alloc (.cells #[v] ty)).cell? ⟨w.heap.size, 0, none⟩ = some v := by go_simp

end Go.Proofs.Ytllonfaogbdbnaa
