/-
  Determinants alternate; a bordered determinant is one of the minors of one row more. No program in sight.
-/
import Derived.Test.YtllonfaogbdbnaaCrS8
import Derived.Test.YtllonfaogbdbnaaCrT
namespace Go.Proofs.Ytllonfaogbdbnaa
open Go.ChangeShapes Go.WideShapes Go.RowKit
open Cr
theorem ps_skip (f g : Nat → Int) : ∀ (n k : Nat), k ≤ n → ps (fun l => if l < k then f l else g (l + 1)) n = ps (fun j => if j < k then f j else if j = k then 0 else g j) (n + 1)
  | 0, k, h => by
    obtain rfl : k = 0 := by omega
    simp [ps]
  | n + 1, k, h => by
    by_cases e : k = n + 1
    · subst e
      show _ = ps (fun j => if j < n + 1 then f j else if j = n + 1 then 0 else g j) (n + 1) + (if n + 1 < n + 1 then f (n + 1) else if n + 1 = n + 1 then 0 else g (n + 1))
      rw [if_neg (by omega), if_pos rfl, Int.add_zero]
      exact ps_congr fun j hj => by rw [if_pos hj, if_pos hj]
    · have ih := ps_skip f g n k (by omega)
      show ps (fun l => if l < k then f l else g (l + 1)) n + (if n < k then f n else g (n + 1)) = ps (fun j => if j < k then f j else if j = k then 0 else g j) (n + 1) + (if n + 1 < k then f (n + 1) else if n + 1 = k then 0 else g (n + 1))
      rw [ih, if_neg (by omega), if_neg (by omega), if_neg (by omega)]
theorem erase_comm : ∀ (l : List Int) (k j : Nat), k ≤ j → (l.eraseIdx k).eraseIdx j = (l.eraseIdx (j + 1)).eraseIdx k
  | [], k, j, _ => by simp
  | x :: xs, 0, j, _ => rfl
  | x :: xs, k + 1, 0, h => by omega
  | x :: xs, k + 1, j + 1, h => by
    show x :: (xs.eraseIdx k).eraseIdx j = x :: (xs.eraseIdx (j + 1)).eraseIdx k
    rw [erase_comm xs k j (by omega)]
/-- a list without two of its elements -/
def er2 (l : List Int) (k j : Nat) : List Int := if j < k then (l.eraseIdx k).eraseIdx j else (l.eraseIdx j).eraseIdx k
theorem er2_symm {l : List Int} {k j : Nat} (h : k ≠ j) : er2 l k j = er2 l j k := by
  unfold er2
  by_cases e : j < k
  · rw [if_pos e, if_neg (by omega)]
  · rw [if_neg e, if_pos (by omega)]
/-- the sign of two different places -/
def sg2 (k j : Nat) : Int := if j < k then sg k * sg j else if j = k then 0 else -(sg k * sg j)
theorem sg2_anti (k j : Nat) : sg2 k j = -sg2 j k := by
  unfold sg2
  by_cases h : j < k
  · rw [if_pos h, if_neg (by omega), if_neg (by omega), Int.mul_comm (sg j)]; omega
  · by_cases e : j = k
    · subst e; simp
    · rw [if_neg h, if_neg e, if_pos (by omega), Int.mul_comm (sg j)]
theorem D_two (a : Int → Int → Int) (x y : Int) (rs cs : List Int) : D a (x :: y :: rs) cs = ps (fun k => ps (fun j => sg2 k j * (a x (at_ cs k) * a y (at_ cs j) * D a rs (er2 cs k j))) cs.length) cs.length := by
  show ps (fun k => sg k * a x (at_ cs k) * D a (y :: rs) (cs.eraseIdx k)) cs.length = _
  refine ps_congr fun k hk => ?_
  obtain ⟨n, hn⟩ : ∃ n, cs.length = n + 1 := ⟨cs.length - 1, by omega⟩
  have hl : (cs.eraseIdx k).length = n := by rw [List.length_eraseIdx, if_pos hk, hn]; rfl
  show sg k * a x (at_ cs k) * ps (fun l => sg l * a y (at_ (cs.eraseIdx k) l) * D a rs ((cs.eraseIdx k).eraseIdx l)) (cs.eraseIdx k).length = _
  rw [hl, hn, ps_mul]
  have e1 : ps (fun l => sg k * a x (at_ cs k) * (sg l * a y (at_ (cs.eraseIdx k) l) * D a rs ((cs.eraseIdx k).eraseIdx l))) n =
      ps (fun l => if l < k then (fun j => sg k * sg j * (a x (at_ cs k) * a y (at_ cs j) * D a rs (er2 cs k j))) l else (fun j => -(sg k * sg j) * (a x (at_ cs k) * a y (at_ cs j) * D a rs (er2 cs k j))) (l + 1)) n := by
    refine ps_congr fun l hl => ?_
    have e : at_ (cs.eraseIdx k) l = at_ cs (if l < k then l else l + 1) := by
      unfold at_
      simp only [List.getD, List.getElem?_eraseIdx]
      split <;> rfl
    by_cases h : l < k
    · rw [if_pos h, e, if_pos h]
      show _ = sg k * sg l * (a x (at_ cs k) * a y (at_ cs l) * D a rs (er2 cs k l))
      unfold er2
      rw [if_pos h]
      grind
    · rw [if_neg h, e, if_neg h]
      show _ = -(sg k * sg (l + 1)) * (a x (at_ cs k) * a y (at_ cs (l + 1)) * D a rs (er2 cs k (l + 1)))
      unfold er2
      rw [if_neg (by omega), ← erase_comm cs k l (by omega), sg_succ]
      grind
  rw [e1]
  refine (ps_skip (fun j => sg k * sg j * (a x (at_ cs k) * a y (at_ cs j) * D a rs (er2 cs k j))) (fun j => -(sg k * sg j) * (a x (at_ cs k) * a y (at_ cs j) * D a rs (er2 cs k j))) n k (by omega)).trans ?_
  refine ps_congr fun j _ => ?_
  unfold sg2
  by_cases h : j < k
  · rw [if_pos h, if_pos h]
  · by_cases e : j = k
    · rw [if_neg h, if_pos e, if_neg h, if_pos e]; simp
    · rw [if_neg h, if_neg e, if_neg h, if_neg e]
theorem D_swap0 (a : Int → Int → Int) (x y : Int) (rs cs : List Int) : D a (x :: y :: rs) cs = -D a (y :: x :: rs) cs := by
  rw [D_two, D_two, ps_swap (fun k j => sg2 k j * (a y (at_ cs k) * a x (at_ cs j) * D a rs (er2 cs k j))), ← ps_neg]
  refine ps_congr fun k _ => ?_
  rw [← ps_neg]
  refine ps_congr fun j _ => ?_
  by_cases e : k = j
  · subst e
    have : sg2 k k = 0 := by unfold sg2; simp
    rw [this]; simp
  · rw [sg2_anti k j, er2_symm e]
    grind
theorem D_swap (a : Int → Int → Int) (x y : Int) (rs : List Int) : ∀ (L cs : List Int), D a (L ++ x :: y :: rs) cs = -D a (L ++ y :: x :: rs) cs
  | [], cs => D_swap0 a x y rs cs
  | i :: L, cs => by
    show ps (fun k => sg k * a i (at_ cs k) * D a (L ++ x :: y :: rs) (cs.eraseIdx k)) cs.length = -ps (fun k => sg k * a i (at_ cs k) * D a (L ++ y :: x :: rs) (cs.eraseIdx k)) cs.length
    rw [← ps_neg]
    refine ps_congr fun k _ => ?_
    rw [D_swap a x y rs L (cs.eraseIdx k), Int.mul_neg]
theorem absI_neg (x : Int) : absI (-x) = absI x := by unfold absI; split <;> split <;> omega
theorem D_move (a : Int → Int → Int) (i : Int) (cs : List Int) : ∀ (L2 L1 : List Int), absI (D a (L1 ++ L2 ++ [i]) cs) = absI (D a (L1 ++ i :: L2) cs)
  | [], L1 => by rw [List.append_nil]
  | y :: L2, L1 => by
    have e : L1 ++ (y :: L2) ++ [i] = (L1 ++ [y]) ++ L2 ++ [i] := by simp
    rw [e, D_move a i cs L2 (L1 ++ [y])]
    have e2 : L1 ++ [y] ++ i :: L2 = L1 ++ y :: i :: L2 := by simp
    rw [e2, D_swap a y i L2 L1 cs, absI_neg]
def insB (n k i : Nat) : Bool := !(decide (i < n) && decide (k < 2 ^ n) && decide (k / 2 ^ i % 2 = 0)) || (decide (k + 2 ^ i < 2 ^ n) && decide (ints (bitsL n (k + 2 ^ i)) = (ints (bitsL n k)).take (bitsL i k).length ++ (i : Int) :: (ints (bitsL n k)).drop (bitsL i k).length) && decide ((bitsL n (k + 2 ^ i)).length = (bitsL n k).length + 1))
theorem insB_all : ∀ n, n < 7 → ∀ k, k < 64 → ∀ i, i < 6 → insB n k i = true := by decide +kernel
theorem bits_ins (n : Nat) (hn : n < 7) (k : Nat) (hk : k < 64) (i : Nat) (hi : i < n) (h : k < 2 ^ n) (e : k / 2 ^ i % 2 = 0) : k + 2 ^ i < 2 ^ n ∧
    ints (bitsL n (k + 2 ^ i)) = (ints (bitsL n k)).take (bitsL i k).length ++ (i : Int) :: (ints (bitsL n k)).drop (bitsL i k).length ∧ (bitsL n (k + 2 ^ i)).length = (bitsL n k).length + 1 := by
  have z := insB_all n hn k hk i (by omega)
  unfold insB at z
  simp only [hi, h, e, decide_true, Bool.and_self, Bool.not_true, Bool.false_or, Bool.and_eq_true, decide_eq_true_eq] at z
  exact ⟨z.1.1, z.1.2, z.2⟩
theorem bits_has : ∀ n, n < 7 → ∀ k : Nat, k < 64 → ∀ i : Nat, i < n → (ints (bitsL n k)).contains (i : Int) = false → k / 2 ^ i % 2 = 0 := by decide +kernel
/-- a set with one number more -/
theorem sets_ins {n q i : Nat} (hn : n ≤ 6) {r : List Int} (h : r ∈ setsN n q) (hi : i < n) (hc : r.contains (i : Int) = false) :
    ∃ r', r' ∈ setsN n (q + 1) ∧ ∀ (a : Int → Int → Int) (cs : List Int), absI (D a (r ++ [(i : Int)]) cs) = absI (D a r' cs) := by
  unfold setsN setsTo at h
  obtain ⟨k, hk, rfl⟩ := List.mem_map.1 h
  have h2 := List.mem_filter.1 hk
  have h3 := List.mem_range.1 h2.1
  have hp := pow_le6 n (by omega)
  have hq : (bitsL n k).length = q := by simpa using h2.2
  have hb := bits_has n (by omega) k (by omega) i hi hc
  obtain ⟨g1, g2, g3⟩ := bits_ins n (by omega) k (by omega) i hi h3 hb
  refine ⟨ints (bitsL n (k + 2 ^ i)), ?_, fun a cs => ?_⟩
  · unfold setsN setsTo
    exact List.mem_map.2 ⟨k + 2 ^ i, List.mem_filter.2 ⟨List.mem_range.2 g1, by simp [g3, hq]⟩, rfl⟩
  · rw [g2, ← D_move a (i : Int) cs ((ints (bitsL n k)).drop (bitsL i k).length) ((ints (bitsL n k)).take (bitsL i k).length), List.take_append_drop]
theorem rowG_ge {f : Nat → Int} {b : Int} : ∀ {m j : Nat}, (b ≤ rowG f m b) ∧ (j < m → f j ≤ rowG f m b)
  | 0, j => ⟨Int.le_refl _, fun h => by omega⟩
  | m + 1, j => by
    have ih := rowG_ge (f := f) (b := b) (m := m) (j := j)
    have g := mx_ge (rowG f m b) (f m)
    refine ⟨Int.le_trans ih.1 g.1, fun h => ?_⟩
    by_cases e : j = m
    · subst e; exact g.2
    · exact Int.le_trans (ih.2 (by omega)) g.1
theorem allG_ge {f : Nat → Nat → Int} {m : Nat} {b : Int} : ∀ {n i j : Nat}, i < n → j < m → f i j ≤ allG f m n b
  | n + 1, i, j, hi, hj => by
    by_cases e : i = n
    · subst e; exact (rowG_ge (f := f i) (m := m) (j := j)).2 hj
    · exact Int.le_trans (allG_ge (n := n) (by omega) hj) (rowG_ge (f := f n) (m := m) (j := 0)).1
theorem gv_ge {M : List (List Int)} {n m q : Nat} {r c : List Int} (hr : r ∈ setsN n q) (hc : c ∈ setsN m q) : absI (detR M r c) ≤ gv M n m q (-1) := by
  obtain ⟨i, hi, e1⟩ := List.mem_iff_getElem.1 hr
  obtain ⟨j, hj, e2⟩ := List.mem_iff_getElem.1 hc
  have h := allG_ge (f := fa M n m q) (b := -1) hi hj
  unfold fa at h
  have e3 : rw_ (setsN n q) i = r := by rw [← e1]; show (setsN n q).getD i [] = _; simp [List.getD, hi]
  have e4 : rw_ (setsN m q) j = c := by rw [← e2]; show (setsN m q).getD j [] = _; simp [List.getD, hj]
  rw [e3, e4] at h
  exact h
/-- a bordered determinant is 0, or one of the minors of one row more -/
theorem bord_le {M : List (List Int)} {n m q : Nat} (hn : n ≤ 6) (hm : m ≤ 6) {rows cols : List Int} (hr : rows ∈ setsN n q) (hc : cols ∈ setsN m q) {i j : Nat} (hi : i < n) (hj : j < m) :
    bord M rows cols i j = 0 ∨ (q + 1 ≤ n ∧ q + 1 ≤ m ∧ absI (bord M rows cols i j) ≤ gv M n m (q + 1) (-1)) := by
  cases c1 : rows.contains (i : Int) with
  | true => exact .inl (bord_1 c1)
  | false =>
    cases c2 : cols.contains (j : Int) with
    | true => exact .inl (bord_2 c2)
    | false =>
      right
      obtain ⟨r', hr', er⟩ := sets_ins hn hr hi c1
      obtain ⟨c', hc', ec⟩ := sets_ins hm hc hj c2
      obtain ⟨l1, s1⟩ := sets_mem hn hr'
      obtain ⟨l2, s2⟩ := sets_mem hm hc'
      have u1 := (under_of s1).2
      have u2 := (under_of s2).2
      have lc := (sets_mem hm hc).1
      refine ⟨by omega, by omega, ?_⟩
      have e : absI (bord M rows cols i j) = absI (detR M r' c') := by
        rw [bord_3 c1 c2, detR_D, er, detR_D, ← D_trans (ent M) (q + 1) r' (cols ++ [(j : Int)]) l1 (by rw [List.length_append, lc]; rfl), ec, D_trans (ent M) (q + 1) r' c' l1 l2]
      rw [e]
      exact gv_ge hr' hc'

end Go.Proofs.Ytllonfaogbdbnaa
