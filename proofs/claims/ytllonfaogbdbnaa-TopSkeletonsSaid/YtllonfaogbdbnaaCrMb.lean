/-
  Bordered minors, sets with one number more, Compress, the sanity check of TopSkeletons (one text of ten).
-/
import Derived.Test.YtllonfaogbdbnaaCrV1
import Derived.Deep.LoopGhost
import Derived.WalkMore
import Derived.Deep.DeepCutAuto
import Derived.Deep.Cut
import Derived.Test.YtllonfaogbdbnaaCrMa
namespace Go.Proofs.Ytllonfaogbdbnaa
open Go.ChangeShapes Go.WideShapes Go.RowKit
open Cr
theorem D_eq2 (a : Int → Int → Int) (x : Int) : ∀ (L2 L1 L3 cs : List Int), D a (L1 ++ x :: (L2 ++ x :: L3)) cs = 0
  | [], L1, L3, cs => by
    have h := D_swap a x x L3 L1 cs
    show D a (L1 ++ x :: x :: L3) cs = 0
    omega
  | y :: L2, L1, L3, cs => by
    show D a (L1 ++ x :: y :: (L2 ++ x :: L3)) cs = 0
    rw [D_swap a x y (L2 ++ x :: L3) L1 cs]
    have e : L1 ++ y :: x :: (L2 ++ x :: L3) = (L1 ++ [y]) ++ x :: (L2 ++ x :: L3) := by simp
    rw [e, D_eq2 a x L2 (L1 ++ [y]) L3 cs]; rfl
theorem D_twice (a : Int → Int → Int) {x : Int} {l : List Int} (h : x ∈ l) (cs : List Int) : D a (x :: l) cs = 0 := by
  obtain ⟨L2, L3, rfl⟩ := List.append_of_mem h
  exact D_eq2 a x L2 [] L3 cs
theorem twice_of : ∀ (l R : List Int), (∀ x, x ∈ l → x ∈ R) → R.length < l.length → ∃ x L1 L2 L3, l = L1 ++ x :: (L2 ++ x :: L3)
  | [], R, _, h => by simp at h
  | y :: l, R, hm, h => by
    by_cases hy : y ∈ l
    · obtain ⟨L2, L3, rfl⟩ := List.append_of_mem hy
      exact ⟨y, [], L2, L3, rfl⟩
    · have yR := hm y (by simp)
      have hp := List.length_pos_of_mem yR
      have hl : R.length < l.length + 1 := h
      obtain ⟨x, L1, L2, L3, e⟩ := twice_of l (R.erase y) (fun x hx => (List.mem_erase_of_ne (fun e => hy (by rw [← e]; exact hx))).2 (hm x (by simp [hx]))) (by rw [List.length_erase_of_mem yR]; omega)
      exact ⟨x, y :: L1, L2, L3, by rw [e]; rfl⟩
/-- a row that is a sum of multiples of rows -/
theorem D_lin (a : Int → Int → Int) (d i : Int) (q : Nat) (r c : Nat → Int) (rs : List Int) : ∀ (L1 cs : List Int), (∀ k, k < cs.length → d * a i (at_ cs k) = ps (fun t => c t * a (r t) (at_ cs k)) q) →
    d * D a (L1 ++ i :: rs) cs = ps (fun t => c t * D a (L1 ++ r t :: rs) cs) q
  | [], cs, h => by
    show d * ps (fun k => sg k * a i (at_ cs k) * D a rs (cs.eraseIdx k)) cs.length = ps (fun t => c t * ps (fun k => sg k * a (r t) (at_ cs k) * D a rs (cs.eraseIdx k)) cs.length) q
    have e1 : d * ps (fun k => sg k * a i (at_ cs k) * D a rs (cs.eraseIdx k)) cs.length = ps (fun k => ps (fun t => c t * (sg k * a (r t) (at_ cs k) * D a rs (cs.eraseIdx k))) q) cs.length := by
      rw [ps_mul]
      refine ps_congr fun k hk => ?_
      have e : d * (sg k * a i (at_ cs k) * D a rs (cs.eraseIdx k)) = (sg k * D a rs (cs.eraseIdx k)) * (d * a i (at_ cs k)) := by grind
      rw [e, h k hk, ps_mul]
      exact ps_congr fun t _ => by grind
    have e2 : ps (fun t => c t * ps (fun k => sg k * a (r t) (at_ cs k) * D a rs (cs.eraseIdx k)) cs.length) q = ps (fun t => ps (fun k => c t * (sg k * a (r t) (at_ cs k) * D a rs (cs.eraseIdx k))) cs.length) q := ps_congr fun t _ => by rw [ps_mul]
    rw [e1, e2]
    exact ps_swap (fun k t => c t * (sg k * a (r t) (at_ cs k) * D a rs (cs.eraseIdx k))) q cs.length
  | x :: L1, cs, h => by
    show d * ps (fun k => sg k * a x (at_ cs k) * D a (L1 ++ i :: rs) (cs.eraseIdx k)) cs.length = ps (fun t => c t * ps (fun k => sg k * a x (at_ cs k) * D a (L1 ++ r t :: rs) (cs.eraseIdx k)) cs.length) q
    have e1 : d * ps (fun k => sg k * a x (at_ cs k) * D a (L1 ++ i :: rs) (cs.eraseIdx k)) cs.length = ps (fun k => ps (fun t => c t * (sg k * a x (at_ cs k) * D a (L1 ++ r t :: rs) (cs.eraseIdx k))) q) cs.length := by
      rw [ps_mul]
      refine ps_congr fun k hk => ?_
      have hl : (cs.eraseIdx k).length = cs.length - 1 := by rw [List.length_eraseIdx, if_pos hk]
      have ih := D_lin a d i q r c rs L1 (cs.eraseIdx k) fun j hj => by
        have e : at_ (cs.eraseIdx k) j = at_ cs (if j < k then j else j + 1) := by
          unfold at_
          simp only [List.getD, List.getElem?_eraseIdx]
          split <;> rfl
        rw [e]
        exact h _ (by split <;> omega)
      have e : d * (sg k * a x (at_ cs k) * D a (L1 ++ i :: rs) (cs.eraseIdx k)) = (sg k * a x (at_ cs k)) * (d * D a (L1 ++ i :: rs) (cs.eraseIdx k)) := by grind
      rw [e, ih, ps_mul]
      exact ps_congr fun t _ => by grind
    have e2 : ps (fun t => c t * ps (fun k => sg k * a x (at_ cs k) * D a (L1 ++ r t :: rs) (cs.eraseIdx k)) cs.length) q = ps (fun t => ps (fun k => c t * (sg k * a x (at_ cs k) * D a (L1 ++ r t :: rs) (cs.eraseIdx k))) cs.length) q := ps_congr fun t _ => by rw [ps_mul]
    rw [e1, e2]
    exact ps_swap (fun k t => c t * (sg k * a x (at_ cs k) * D a (L1 ++ r t :: rs) (cs.eraseIdx k))) q cs.length
theorem row_comb (a : Int → Int → Int) (rows cols : List Int) (i j : Int) (h : D a (i :: rows) (j :: cols) = 0) (hl : cols.length = rows.length) :
    D a rows cols * a i j = ps (fun t => -(sg (t + 1) * D a (i :: rows.eraseIdx t) cols) * a (at_ rows t) j) rows.length := by
  have e := D_col a rows.length (i :: rows) cols j rfl hl
  rw [h] at e
  have e2 : (i :: rows).length = rows.length + 1 := rfl
  rw [e2, ps_first] at e
  have e' : 0 = 1 * a i j * D a rows cols + ps (fun k => sg (k + 1) * a (at_ rows k) j * D a (i :: rows.eraseIdx k) cols) rows.length := e
  have e3 : ps (fun t => -(sg (t + 1) * D a (i :: rows.eraseIdx t) cols) * a (at_ rows t) j) rows.length = -ps (fun k => sg (k + 1) * a (at_ rows k) j * D a (i :: rows.eraseIdx k) cols) rows.length := by
    rw [← ps_neg]; exact ps_congr fun t _ => by grind
  rw [e3]; grind
theorem at_mem {l : List Int} {k : Nat} (h : k < l.length) : at_ l k ∈ l := by
  have e : at_ l k = l[k] := by unfold at_; simp [List.getD, h]
  rw [e]; exact List.getElem_mem h
/-- no greater minor is other than 0 -/
theorem D_all0 (a : Int → Int → Int) (rows cols : List Int) (n m : Nat) (dz : D a rows cols ≠ 0) (hl : cols.length = rows.length)
    (hz : ∀ i, (0 ≤ i ∧ i < (n : Int)) → ∀ j, (0 ≤ j ∧ j < (m : Int)) → D a (i :: rows) (j :: cols) = 0) (cs : List Int) (hcs : Under cs m) :
    ∀ (L2 L1 : List Int), (∀ x, x ∈ L1 → x ∈ rows) → (∀ x, x ∈ L2 → 0 ≤ x ∧ x < (n : Int)) → rows.length < (L1 ++ L2).length → D a (L1 ++ L2) cs = 0
  | [], L1, h1, _, hn => by
    rw [List.append_nil] at hn ⊢
    obtain ⟨x, M1, M2, M3, e⟩ := twice_of L1 rows h1 hn
    rw [e]; exact D_eq2 a x M2 M1 M3 cs
  | i :: L2, L1, h1, h2, hn => by
    have e := D_lin a (D a rows cols) i rows.length (fun t => at_ rows t) (fun t => -(sg (t + 1) * D a (i :: rows.eraseIdx t) cols)) L2 L1 cs fun k hk => row_comb a rows cols i (at_ cs k) (hz i (h2 i (by simp)) _ (hcs k hk)) hl
    have z : ps (fun t => -(sg (t + 1) * D a (i :: rows.eraseIdx t) cols) * D a (L1 ++ at_ rows t :: L2) cs) rows.length = ps (fun _ => 0) rows.length := ps_congr fun t ht => by
      have e3 : L1 ++ at_ rows t :: L2 = (L1 ++ [at_ rows t]) ++ L2 := by simp
      rw [e3, D_all0 a rows cols n m dz hl hz cs hcs L2 (L1 ++ [at_ rows t]) (fun x hx => by
        rcases List.mem_append.1 hx with hx | hx
        · exact h1 x hx
        · obtain rfl : x = at_ rows t := by simpa using hx
          exact at_mem ht) (fun x hx => h2 x (by simp [hx])) (by simp at hn ⊢; omega), Int.mul_zero]
    rw [z, ps_zero] at e
    exact (Int.mul_eq_zero.1 e).resolve_left dz
theorem absI_z {x : Int} (h : absI x = 0) : x = 0 := by unfold absI at h; split at h <;> omega
theorem bord_z {M : List (List Int)} {rows cols : List Int} {i j : Int} (hl : cols.length = rows.length) (h : bord M rows cols i j = 0) : D (ent M) (i :: rows) (j :: cols) = 0 := by
  have t : ∀ R C : List Int, C.length = R.length → D (fun j i => ent M i j) C R = D (ent M) R C := fun R C e => D_trans (ent M) R.length R C rfl e
  cases c1 : rows.contains i with
  | true => exact D_twice _ (by simpa using c1) _
  | false =>
    cases c2 : cols.contains j with
    | true =>
      rw [← t _ _ (by simp [hl])]
      exact D_twice _ (by simpa using c2) _
    | false =>
      rw [bord_3 c1 c2, detR_D] at h
      have e1 := D_move (ent M) i (cols ++ [j]) rows []
      rw [List.nil_append, List.nil_append, h] at e1
      have e2 := D_move (fun j i => ent M i j) j (i :: rows) cols []
      rw [List.nil_append, List.nil_append, t _ _ (by simp [hl]), t _ _ (by simp [hl]), ← e1] at e2
      exact absI_z e2.symm
/-- each set is one of the masks' -/
theorem set_lt {l : List Int} {N : Int} (h : setB l N = true) : ∀ d k, k + (d + 1) < l.length → at_ l k < at_ l (k + (d + 1))
  | 0, k, hk => by
    have := (setB1_of (setB_of h hk)).2.2 (by omega)
    rw [show k + (0 + 1) - 1 = k by omega] at this
    exact this
  | d + 1, k, hk => by
    have h1 := set_lt h d k (by omega)
    have h2 := (setB1_of (setB_of h (k := k + (d + 1 + 1)) hk)).2.2 (by omega)
    rw [show k + (d + 1 + 1) - 1 = k + (d + 1) by omega] at h2
    omega
def upB (n k : Nat) : Bool := !decide (k < 2 ^ n) || (decide (ints (bitsL (n + 1) k) = ints (bitsL n k)) && decide (ints (bitsL (n + 1) (k + 2 ^ n)) = ints (bitsL n k) ++ [(n : Int)]))
theorem upB_all : ∀ n, n < 6 → ∀ k, k < 64 → upB n k = true := by decide +kernel
theorem up_bits {n k : Nat} (hn : n < 6) (hk : k < 2 ^ n) : ints (bitsL (n + 1) k) = ints (bitsL n k) ∧ ints (bitsL (n + 1) (k + 2 ^ n)) = ints (bitsL n k) ++ [(n : Int)] := by
  have p := pow_le6 n (by omega)
  have z := upB_all n hn k (by omega)
  unfold upB at z
  simp only [hk, decide_true, Bool.not_true, Bool.false_or, Bool.and_eq_true, decide_eq_true_eq] at z
  exact z
theorem bits_zero : ∀ n, n < 7 → ints (bitsL n 0) = [] := by decide +kernel
theorem set_less {l : List Int} {N n : Int} (h : setB l N = true) (hb : ∀ k, k < l.length → at_ l k ≤ n - 1) : setB l n = true := setB_good fun k hk => by
  have h1 := setB1_of (setB_of h hk)
  have h2 := setB_of h hk
  unfold setB1 at h2 ⊢
  simp only [Bool.and_eq_true] at h2 ⊢
  exact ⟨inr_iff.2 ⟨h1.1, hb k hk⟩, h2.2⟩
theorem mask_step {n : Nat} (hn : n + 1 ≤ 6) (ih : ∀ r : List Int, setB r (n : Int) = true → ∃ k, k < 2 ^ n ∧ ints (bitsL n k) = r) (l : List Int) (ne : 0 < l.length) (h : setB l ((n + 1 : Nat) : Int) = true) : ∃ k, k < 2 ^ (n + 1) ∧ ints (bitsL (n + 1) k) = l := by
  have top := setB1_of (setB_of h (k := l.length - 1) (by omega))
  have low : ∀ k, k < l.length - 1 → at_ l k < at_ l (l.length - 1) := fun k hk => by
    have := set_lt h (l.length - 1 - k - 1) k (by omega)
    rw [show k + (l.length - 1 - k - 1 + 1) = l.length - 1 by omega] at this
    exact this
  have nl : l ≠ [] := fun e => by rw [e] at ne; simp at ne
  by_cases e : at_ l (l.length - 1) = (n : Int)
  · have el : l = l.dropLast ++ [(n : Int)] := by
      have h1 := List.dropLast_concat_getLast nl
      have h2 : l.getLast nl = (n : Int) := by
        have e0 : at_ l (l.length - 1) = l[l.length - 1]'(by omega) := by unfold at_; simp [List.getD, show l.length - 1 < l.length by omega]
        rw [List.getLast_eq_getElem, ← e, e0]
      rw [h2] at h1; exact h1.symm
    have dl : l.dropLast.length = l.length - 1 := by simp
    have da : ∀ k, k < l.dropLast.length → at_ l.dropLast k = at_ l k := fun k hk => by
      conv => rhs; rw [el]
      rw [at_app, if_pos hk]
    have sd : setB l.dropLast (n : Int) = true := setB_good fun k hk => by
      have hk2 : k < l.length := by omega
      have h1 := setB1_of (setB_of h hk2)
      have h2 := setB_of h hk2
      have h3 := low k (by omega)
      unfold setB1 at h2 ⊢
      simp only [Bool.and_eq_true] at h2 ⊢
      refine ⟨inr_iff.2 ⟨by rw [da k hk]; exact h1.1, by rw [da k hk]; omega⟩, ?_⟩
      cases k with
      | zero => rfl
      | succ k =>
        rw [da _ hk, show k + 1 - 1 = k from rfl, da k (by omega)]
        exact h2.2
    obtain ⟨k, hk, ek⟩ := ih l.dropLast sd
    refine ⟨k + 2 ^ n, by rw [Nat.pow_succ]; omega, ?_⟩
    rw [(up_bits (by omega) hk).2, ek, ← el]
  · obtain ⟨k, hk, ek⟩ := ih l (set_less h fun k hk => by
      by_cases e2 : k = l.length - 1
      · subst e2; omega
      · have := low k (by omega); omega)
    exact ⟨k, by rw [Nat.pow_succ]; omega, by rw [(up_bits (by omega) hk).1, ek]⟩
theorem mask_has : ∀ n : Nat, n ≤ 6 → ∀ r : List Int, setB r (n : Int) = true → ∃ k, k < 2 ^ n ∧ ints (bitsL n k) = r := by
  intro n
  induction n with
  | zero =>
    intro hn r h
    match r, h with
    | [], _ => exact ⟨0, by decide, bits_zero 0 (by decide)⟩
    | x :: r, h =>
      have := setB1_of (setB_of h (k := 0) (by simp))
      omega
  | succ n ih =>
    intro hn r h
    match r, h with
    | [], _ => exact ⟨0, Nat.pow_pos (by decide), bits_zero (n + 1) (by omega)⟩
    | x :: r, h => exact mask_step hn (ih (by omega)) (x :: r) (by simp) h
theorem sets_has {n : Nat} (hn : n ≤ 6) {r : List Int} (h : setB r (n : Int) = true) : r ∈ setsN n r.length := by
  obtain ⟨k, hk, rfl⟩ := mask_has n hn r h
  unfold setsN setsTo
  exact List.mem_map.2 ⟨k, List.mem_filter.2 ⟨List.mem_range.2 hk, by rw [len_ints]; simp⟩, rfl⟩
theorem rk_spec {M : List (List Int)} {n m : Nat} (h0 : 0 < gv M n m 0 (-1)) : ∀ S, 0 < gv M n m (rk M n m S) (-1) ∧ ∀ p, rk M n m S < p → p ≤ S → ¬ 0 < gv M n m p (-1)
  | 0 => ⟨h0, fun p h1 h2 => by unfold rk at h1; omega⟩
  | S + 1 => by
    by_cases h : 0 < gv M n m (S + 1) (-1)
    · rw [rk_hit h]; exact ⟨h, fun p h1 h2 => by omega⟩
    · rw [rk_miss h]
      have ih := rk_spec h0 S
      refine ⟨ih.1, fun p h1 h2 => ?_⟩
      by_cases e : p = S + 1
      · rw [e]; exact h
      · exact ih.2 p h1 (by omega)
/-- a choice leaves nothing exactly if it has as many rows as the rank -/
theorem rank_iff {M : List (List Int)} {rows cols : List Int} (k : kcode M rows cols = 0) (dz : detR M rows cols ≠ 0) : wst M rows cols = 0 ↔ (rows.length : Int) = (rkc M).1 := by
  obtain ⟨hv, hc⟩ := kcode_cases k
  obtain ⟨n, m, q, n1, n6, m1, m6⟩ := sq_of hv
  obtain rfl : M.length = n := q.len
  obtain rfl : (rw_ M 0).length = m := rw_len q (by omega)
  obtain ⟨ur, uc, hl⟩ := ch_under k
  unfold chB at hc
  simp only [Bool.and_eq_true, decide_eq_true_eq] at hc
  have mr := sets_has n6 hc.1.2
  have mc := sets_has m6 hc.2
  rw [hl] at mc
  have lr := (under_of hc.1.2).2
  have lc := (under_of hc.2).2
  have ls : rows.length ≤ sd M.length (rw_ M 0).length := by unfold sd; split <;> omega
  have gp : 0 < gv M M.length (rw_ M 0).length rows.length (-1) := by
    have g := gv_ge (M := M) mr mc
    have a : 0 < absI (detR M rows cols) := by unfold absI; split <;> omega
    omega
  have sp := rk_spec (M := M) (gv_zero n6 m6) (sd M.length (rw_ M 0).length)
  have le := rk_le (M := M) (n := M.length) (m := (rw_ M 0).length) (sd M.length (rw_ M 0).length)
  rw [rkc_0 hv]
  show _ ↔ (rows.length : Int) = ((rk M M.length (rw_ M 0).length (sd M.length (rw_ M 0).length) : Nat) : Int)
  have qle : rows.length ≤ rk M M.length (rw_ M 0).length (sd M.length (rw_ M 0).length) := by
    refine Classical.byContradiction fun c => sp.2 rows.length (by omega) ls gp
  constructor
  · intro hw
    have hz : ∀ i, (0 ≤ i ∧ i < (M.length : Int)) → ∀ j, (0 ≤ j ∧ j < ((rw_ M 0).length : Int)) → D (ent M) (i :: rows) (j :: cols) = 0 := fun i hi j hj => by
      refine bord_z hl (absI_z ?_)
      have g := wsr_ge M rows cols (rw_ M 0).length (j := j.toNat) (by omega) (n := M.length) (i := i.toNat) (by omega)
      rw [show ((i.toNat : Nat) : Int) = i by omega, show ((j.toNat : Nat) : Int) = j by omega] at g
      have g2 : wsr M rows cols (rw_ M 0).length M.length = 0 := hw
      have g3 := absI_nn (bord M rows cols i j)
      omega
    rw [detR_D] at dz
    refine Classical.byContradiction fun c => ?_
    have lt : rows.length < rk M M.length (rw_ M 0).length (sd M.length (rw_ M 0).length) := by omega
    rcases gv_at (M := M) (n := M.length) (m := (rw_ M 0).length) (q := rk M M.length (rw_ M 0).length (sd M.length (rw_ M 0).length)) with e | ⟨r, c2, h1, h2, e⟩
    · have := sp.1; omega
    · obtain ⟨r1, r2⟩ := sets_mem n6 h1
      obtain ⟨c1, c3⟩ := sets_mem m6 h2
      have z := D_all0 (ent M) rows cols M.length (rw_ M 0).length dz hl hz c2 (under_of c3).1 r [] (fun x hx => by cases hx) (fun x hx => under_mem (under_of r2).1 hx) (by rw [List.nil_append]; omega)
      rw [List.nil_append, ← detR_D] at z
      rw [z] at e
      have := sp.1
      rw [e] at this
      exact absurd this (by decide)
  · intro hq
    rcases wsr_at M rows cols (rw_ M 0).length M.length with e | ⟨i, j, hi, hj, e⟩
    · exact e
    · show wsr M rows cols (rw_ M 0).length M.length = 0
      rw [e]
      rcases bord_le n6 m6 mr mc hi hj with e2 | ⟨q1, q2, e2⟩
      · rw [e2]; rfl
      · have := sp.2 (rows.length + 1) (by omega) (by unfold sd; split <;> omega)
        have := absI_nn (bord M rows cols i j)
        omega
theorem ratq_num {n d : Int} (hd : 0 < d) : (ratq n d).1 = 0 ↔ n = 0 := by
  have h := (ratq_cross (n := n) (d := d) (by omega))
  have h1 := (ratq_abs (n := n) (d := d) (by omega)).2.2
  constructor
  · intro e
    rw [e] at h
    have z : absI n * (ratq n d).2 = 0 := by rw [← h]; unfold absI; simp
    rcases Int.mul_eq_zero.1 z with z | z
    · exact absI_z z
    · omega
  · intro e
    rw [e, ratq_zero hd]

end Go.Proofs.Ytllonfaogbdbnaa
namespace Go.Proofs.Ytllonfaogbdbnaa
open Go.ChangeShapes Go.WideShapes Go.RowKit
open Cr
def insI (l : List Int) (p : Nat) (n : Int) : List Int := l.take p ++ n :: l.drop p
theorem insI_len {l : List Int} {p : Nat} {n : Int} (h : p ≤ l.length) : (insI l p n).length = l.length + 1 := by unfold insI; simp; omega
theorem insI_at {l : List Int} {p : Nat} {n : Int} (k : Nat) (h : p ≤ l.length) : at_ (insI l p n) k = if k < p then at_ l k else if k = p then n else at_ l (k - 1) := by
  unfold insI at_
  simp only [List.getD]
  have hl : (l.take p).length = p := by rw [List.length_take]; omega
  by_cases h1 : k < p
  · rw [if_pos h1, List.getElem?_append_left (by omega), List.getElem?_take_of_lt h1]
  · rw [if_neg h1, List.getElem?_append_right (by omega), hl]
    by_cases h2 : k = p
    · subst h2; rw [if_pos rfl, Nat.sub_self]; rfl
    · rw [if_neg h2]
      obtain ⟨d, hd⟩ : ∃ d, k - p = d + 1 := ⟨k - p - 1, by omega⟩
      rw [hd, List.getElem?_cons_succ, List.getElem?_drop, show p + d = k - 1 by omega]
theorem set_step {l : List Int} {N : Int} (h : setB l N = true) {k : Nat} (hk : k + 1 < l.length) : at_ l k < at_ l (k + 1) := set_lt h 0 k hk
theorem set_less2 {l : List Int} {N : Int} (h : setB l N = true) {k j : Nat} (hkj : k < j) (hj : j < l.length) : at_ l k < at_ l j := by
  have := set_lt h (j - k - 1) k (by omega)
  rw [show k + (j - k - 1 + 1) = j by omega] at this
  exact this
/-- the place of a number in a set -/
structure Plc (l : List Int) (n : Int) (p : Nat) : Prop where
  le : p ≤ l.length
  low : ∀ k, k < p → at_ l k < n
  high : ∀ k, p ≤ k → k < l.length → n < at_ l k
theorem set_place {l : List Int} {N n : Int} (h : setB l N = true) (hc : l.contains n = false) : ∃ p, Plc l n p := by
  have ne : ∀ k, k < l.length → at_ l k ≠ n := fun k hk e => by
    have := cont_hit (x := n) hk e
    rw [hc] at this; cases this
  have aux : ∀ m, m ≤ l.length → ∃ p, p ≤ m ∧ (∀ k, k < p → at_ l k < n) ∧ (∀ k, p ≤ k → k < m → n < at_ l k) := by
    intro m
    induction m with
    | zero => intro _; exact ⟨0, Nat.le_refl _, fun k hk => by omega, fun k _ hk => by omega⟩
    | succ m ih =>
      intro hm
      obtain ⟨p, hp, h1, h2⟩ := ih (by omega)
      have nm := ne m (by omega)
      by_cases e : at_ l m < n
      · refine ⟨m + 1, Nat.le_refl _, fun k hk => ?_, fun k h1 h2 => by omega⟩
        by_cases e2 : k = m
        · subst e2; exact e
        · have := set_less2 h (k := k) (j := m) (by omega) (by omega); omega
      · refine ⟨p, by omega, h1, fun k k1 k2 => ?_⟩
        by_cases e2 : k = m
        · subst e2; omega
        · exact h2 k k1 (by omega)
  obtain ⟨p, h1, h2, h3⟩ := aux l.length (Nat.le_refl _)
  exact ⟨p, h1, h2, h3⟩
theorem set_found {l : List Int} {N n : Int} (h : setB l N = true) (hc : l.contains n = true) : ∃ p, p < l.length ∧ at_ l p = n ∧ ∀ k, k < p → at_ l k < n := by
  have hm : n ∈ l := by simpa using hc
  obtain ⟨p, hp, e⟩ := List.getElem_of_mem hm
  have e2 : at_ l p = n := by unfold at_; simp [List.getD, hp, e]
  exact ⟨p, hp, e2, fun k hk => by rw [← e2]; exact set_less2 h hk hp⟩
theorem insI_set {l : List Int} {N n : Int} {p : Nat} (h : setB l N = true) (hp : Plc l n p) (hn : 0 ≤ n ∧ n < N) : setB (insI l p n) N = true := setB_good fun k hk => by
  rw [insI_len hp.le] at hk
  have a := insI_at (l := l) (n := n) k hp.le
  have b := insI_at (l := l) (n := n) (k - 1) hp.le
  have rng : ∀ j, j < l.length → 0 ≤ at_ l j ∧ at_ l j ≤ N - 1 := fun j hj => ⟨(setB1_of (setB_of h hj)).1, (setB1_of (setB_of h hj)).2.1⟩
  have key : (0 ≤ at_ (insI l p n) k ∧ at_ (insI l p n) k ≤ N - 1) ∧ (0 < k → at_ (insI l p n) (k - 1) < at_ (insI l p n) k) := by
    have hle := hp.le
    by_cases h1 : k < p
    · rw [a, if_pos h1]
      refine ⟨rng k (by omega), fun h0 => ?_⟩
      rw [b, if_pos (by omega)]
      exact set_less2 h (by omega) (by omega)
    · by_cases h2 : k = p
      · rw [a, if_neg h1, if_pos h2]
        refine ⟨by omega, fun h0 => ?_⟩
        rw [b, if_pos (by omega)]
        exact hp.low _ (by omega)
      · rw [a, if_neg h1, if_neg h2]
        refine ⟨rng _ (by omega), fun h0 => ?_⟩
        by_cases h3 : k - 1 = p
        · rw [b, if_neg (by omega), if_pos h3]
          exact hp.high _ (by omega) (by omega)
        · rw [b, if_neg (by omega), if_neg h3]
          exact set_less2 h (by omega) (by omega)
  obtain ⟨k1, k2⟩ := key
  unfold setB1
  rw [inr_iff.2 k1]
  by_cases h0 : 0 < k
  · have := k2 h0
    simp; omega
  · simp; omega
theorem insI_D {l : List Int} {p : Nat} {n : Int} (a : Int → Int → Int) (cs : List Int) : absI (D a (l ++ [n]) cs) = absI (D a (insI l p n) cs) := by
  have h := D_move a n cs (l.drop p) (l.take p)
  rw [List.take_append_drop] at h
  exact h
/-- a minor with a row and a column more is a bordered determinant, but for its sign -/
theorem bord_ins {M : List (List Int)} {rows cols : List Int} {i j : Int} {p q : Nat} (hl : cols.length = rows.length) (c1 : rows.contains i = false) (c2 : cols.contains j = false) (hp : p ≤ rows.length) (hq : q ≤ cols.length) :
    absI (bord M rows cols i j) = absI (detR M (insI rows p i) (insI cols q j)) := by
  have t : ∀ R C : List Int, C.length = R.length → D (fun j i => ent M i j) C R = D (ent M) R C := fun R C e => D_trans (ent M) R.length R C rfl e
  rw [bord_3 c1 c2, detR_D, detR_D, insI_D (p := p)]
  rw [← t _ _ (by rw [insI_len hp]; simp [hl]), ← t _ _ (by rw [insI_len hp, insI_len hq, hl]), insI_D (p := q)]
theorem ratq_flip {n d : Int} (h : d ≠ 0) : ratq (-n) (-d) = ratq n d := by
  have g : gI (-n) (-d) = gI n d := by unfold gI; rw [Int.natAbs_neg, Int.natAbs_neg]
  by_cases p : d < 0
  · rw [ratq_neg p, ratq_pos (by omega), g, ← Int.neg_neg (gI n d), Int.neg_tdiv_neg, Int.neg_tdiv_neg, Int.neg_neg]
  · rw [ratq_pos p, ratq_neg (by omega), g, Int.neg_tdiv_neg, Int.neg_tdiv_neg]
theorem ratq_split {n d : Int} (h : d ≠ 0) : ∃ b, b ≠ 0 ∧ n = b * (ratq n d).1 ∧ d = b * (ratq n d).2 := by
  by_cases p : 0 < d
  · obtain ⟨h1, h2, h3⟩ := ratq_parts (n := n) p
    exact ⟨gI n d, by omega, h1, h2⟩
  · obtain ⟨h1, h2, h3⟩ := ratq_parts (n := -n) (d := -d) (by omega)
    rw [ratq_flip h] at h1 h2
    exact ⟨-gI (-n) (-d), by omega, by rw [Int.neg_mul]; omega, by rw [Int.neg_mul]; omega⟩
theorem ratq_one {n d : Int} (h : d ≠ 0) : 1 ≤ (ratq n d).2 := (ratq_abs (n := n) h).2.2
theorem ratq_back {n d : Int} (h : d ≠ 0) : (ratq n d).1 * d.tdiv (ratq n d).2 = n ∧ d.tmod (ratq n d).2 = 0 ∧ ((ratq n d).1 = 0 ↔ n = 0) := by
  obtain ⟨b, hb, e1, e2⟩ := ratq_split (n := n) h
  have h1 := ratq_one (n := n) h
  generalize ratq n d = r at *
  obtain ⟨u, v⟩ := r
  simp only at e1 e2 h1 ⊢
  subst e1
  subst e2
  refine ⟨by rw [Int.mul_tdiv_cancel _ (by omega), Int.mul_comm], by rw [Int.mul_tmod_left], ?_⟩
  constructor
  · intro e; rw [e]; simp
  · intro e; exact (Int.mul_eq_zero.1 e).resolve_left hb
theorem ratq_scale' {b x v : Int} (hb : b ≠ 0) (hv : 0 < v) : ratq (b * x) (b * v) = ratq x v := by
  by_cases p : 0 < b
  · exact ratq_scale p hv
  · have h := ratq_scale (g := -b) (a := x) (by omega) hv
    rw [Int.neg_mul, Int.neg_mul, ratq_flip (fun e => by rcases Int.mul_eq_zero.1 e with e | e <;> omega)] at h
    exact h
theorem ratq_mns {p s d : Int} (h : d ≠ 0) : ratq (p * d - s) d = mns p (ratq s d) := by
  obtain ⟨b, hb, e1, e2⟩ := ratq_split (n := s) h
  have h1 := ratq_one (n := s) h
  rw [← mns_low (ratq_low h) h1]
  generalize ratq s d = r at *
  obtain ⟨u, v⟩ := r
  simp only at e1 e2 h1 ⊢
  subst e1
  subst e2
  rw [show p * (b * v) - b * u = b * (p * v - u) by rw [Int.mul_sub]; congr 1; rw [← Int.mul_assoc, ← Int.mul_assoc, Int.mul_comm p b], ratq_scale' hb (by omega)]

end Go.Proofs.Ytllonfaogbdbnaa
namespace Go.Proofs.Ytllonfaogbdbnaa
open Go.ChangeShapes Go.WideShapes Go.RowKit
open Cr
theorem insI_low {l : List Int} {n : Int} {p k : Nat} (h : Plc l n p) (hk : k < p) : at_ (insI l p n) k = at_ l k := by rw [insI_at k h.le, if_pos hk]
theorem insI_mid {l : List Int} {n : Int} {p : Nat} (h : Plc l n p) : at_ (insI l p n) p = n := by rw [insI_at p h.le, if_neg (Nat.lt_irrefl p), if_pos rfl]
theorem insI_high {l : List Int} {n : Int} {p k : Nat} (h : Plc l n p) (hk : p ≤ k) : at_ (insI l p n) (k + 1) = at_ l k := by rw [insI_at (k + 1) h.le, if_neg (by omega), if_neg (by omega)]; rfl
theorem cell_grown {w1 w2 : World} {r : Option Nat} {o' : Obj} {b j : Nat} {v : Value} (hg : (w1.alloc o').grownBy w2 r) (hb : b < w1.heap.size) (ne : r ≠ some b) (h : w1.cell? ⟨b, j, none⟩ = some v) : w2.cell? ⟨b, j, none⟩ = some v :=
  (World.grownBy.cell_far hg ⟨b, j, none⟩ (by simp; omega) ne.symm).trans ((World.cell?_alloc_lt _ _ _ hb).trans h)
set_option maxRecDepth 100000 in
set_option maxHeartbeats 4000000 in
theorem longer_any (A : Option Addr) (c : Nat) (l : List Int) (n : Int) (p : Nat) (w : World) (h : IL w A l) (hl : l.length ≤ 1000) (hp : Plc l n p) :
    Calls Try.prog 27 #[.slice A l.length c, .int .i64 n] w fun e w' => ∃ A' c', e = .returned (.tuple #[.slice A' (l.length + 1) c', .bool true]) ∧ IL w' A' (insI l p n) ∧ l.length + 1 ≤ c' ∧ Below w.heap.size w w' := by
  have H := Lib.hid h
  have nn : (l.length : Int) ≤ 1000 := by omega
  have S1 := Lib.hid (fun k (hk : k < p) => insI_low hp hk)
  have S2 := Lib.hid (insI_mid hp)
  have S3 := Lib.hid (fun k (hk : p ≤ k) => insI_high (k := k) hp hk)
  have LO := Lib.hid hp.low
  have HI := Lib.hid hp.high
  have pl := hp.le
  have SL := Lib.hid (insI_len (n := n) hp.le)
  have TL := Lib.hid (fun k (hk : k ≤ l.length + 1) => (show (tkI (insI l p n) k).length = k by unfold tkI; rw [List.length_take, SL.out]; omega))
  have TN := Lib.hid (fun k (hk : k < l.length + 1) => tkI_next (l := insI l p n) (k := k) (by rw [SL.out]; exact hk))
  have TA := Lib.hid (show tkI (insI l p n) (l.length + 1) = insI l p n from tkI_all SL.out)
  clear h hp
  generalize insI l p n = S at *
  go_enter Try.func27, Try.ntmps27
  go_wp2_with fail
  go_loopw [6, 7, 8] (fun ov pv iv wr => ∃ i A c, i ≤ l.length ∧ iv = .int .i64 (i : Int) ∧ Below w.heap.size w wr ∧ ((i ≤ p ∧ pv = .bool false ∧ ov = .slice A i c ∧ OI wr w.heap.size (.slice A i c) (tkI S i)) ∨ (p < i ∧ pv = .bool true ∧ ov = .slice A (i + 1) c ∧ OI wr w.heap.size (.slice A (i + 1) c) (tkI S (i + 1))))) (fun _ _ iv _ => l.length - (intOf iv).toNat)
  case atStart => exact ⟨0, none, 0, Nat.zero_le _, rfl, Below.refl _ _, .inl ⟨Nat.zero_le _, rfl, rfl, oi_nil _ _⟩⟩
  case round =>
    obtain ⟨i, A1, c1, hi, rfl, B, hcase⟩ := hrel
    have HB := Lib.hid B
    by_cases hil : i < l.length
    · have hi1 : (i : Int) < (l.length : Int) := by omega
      have hi0 : 0 ≤ (i : Int) := by omega
      obtain ⟨be, oe, rfl, hbe, hce0⟩ := il_in H.out (Below.refl _ _) i hil
      have hce := (B.cell (p := ⟨be, oe + i, none⟩) hbe).trans hce0
      have hbw := Nat.lt_of_lt_of_le hbe B.size
      have HBE := Lib.hid hbe
      clear hce0 hbe
      rcases hcase with ⟨hip, rfl, rfl, ho1⟩ | ⟨hip, rfl, rfl, ho1⟩
      · have HO1 := Lib.hid ho1
        have tl := Lib.hid (TL.out i (by omega))
        have tn := Lib.hid (TN.out i (by omega))
        have tl1 := Lib.hid (TL.out (i + 1) (by omega))
        have tn1 := Lib.hid (fun h => TN.out (i + 1) h)
        clear ho1 B
        by_cases e : i = p
        · subst e
          have hi' := HI.out i (Nat.le_refl _) hil
          have e2 := Lib.hid S2.out
          have e3 := Lib.hid (S3.out i (Nat.le_refl _))
          generalize at_ l i = y at *
          have hne : ¬ y = n := by omega
          have t1 : (y == n) = false := by simp [hne]
          have t2 : decide (y = n) = false := decide_eq_false hne
          have t3 : y > n := hi'
          have LT := Lib.hid (show i + 1 < l.length + 1 by omega)
          clear hi'
          go_wp2_with (first
            | (at_builtin; refine wpI rfl (.tmp 31) (.tmp 33) rfl w.heap.size (.slice A1 i c1) (tkI S i) rfl (World.ownsRow.alloc HO1.out _) (by have := HB.out.size; simp; omega) (some ⟨wr.heap.size, 0, none⟩) 1 1 [n] rfl (il_one _ _) rfl (by rw [tl.out]; omega) (i + 1) (by rw [List.length_append, tl.out]; rfl) ?_; intro A3 c3 w3 ho hg _; have HO3 := Lib.hid ho; have HB3 := Lib.hid (below_grown (balloc HB.out _) hg (by have := HB.out.size; simp; omega) (fun g hg => (HO1.out.lt g hg).1)); have hce3 := cell_grown hg hbw (oi_far HO1.out HBE.out) hce; have P3 := Lib.hid (show OI w3 w.heap.size (.slice A3 (i + 1) c3) (tkI S (i + 1)) from by rw [tn.out, e2.out]; exact ho); clear ho hg)
            | (at_builtin; refine wpI rfl (.tmp 35) (.tmp 40) rfl w.heap.size (.slice A3 (i + 1) c3) (tkI S (i + 1)) rfl (World.ownsRow.alloc P3.out _) (by have := HB3.out.size; simp; omega) (some ⟨w3.heap.size, 0, none⟩) 1 1 [y] rfl (il_one _ _) rfl (by rw [tl1.out]; omega) ((i + 1) + 1) (by rw [List.length_append, tl1.out]; rfl) ?_; intro A4 c4 w4 ho hg _; have HO4 := Lib.hid ho; have HB4 := Lib.hid (below_grown (balloc HB3.out _) hg (by have := HB3.out.size; simp; omega) (fun g hg => (P3.out.lt g hg).1)); clear ho hg)
            | fail)
          go_roundw
          case rel => exact ⟨i + 1, A4, c4, by omega, by go_num, HB4.out, .inr ⟨by omega, rfl, rfl, by rw [tn1.out LT.out, e3.out]; exact HO4.out⟩⟩
          case measure => simp [intOf]; omega
        · have hlt : i < p := by omega
          have lo := LO.out i hlt
          have e1 := Lib.hid (S1.out i hlt)
          generalize at_ l i = y at *
          have hne : ¬ y = n := by omega
          have t1 : (y == n) = false := by simp [hne]
          have t2 : decide (y = n) = false := decide_eq_false hne
          have t3 : ¬ y > n := by omega
          have t4 : decide (y > n) = false := decide_eq_false t3
          go_wp2_with (at_builtin; refine wpI rfl (.tmp 35) (.tmp 40) rfl w.heap.size (.slice A1 i c1) (tkI S i) rfl (World.ownsRow.alloc HO1.out _) (by have := HB.out.size; simp; omega) (some ⟨wr.heap.size, 0, none⟩) 1 1 [y] rfl (il_one _ _) rfl (by rw [tl.out]; omega) (i + 1) (by rw [List.length_append, tl.out]; rfl) ?_; intro A3 c3 w3 ho hg _; have HO3 := Lib.hid ho; have HB3 := Lib.hid (below_grown (balloc HB.out _) hg (by have := HB.out.size; simp; omega) (fun g hg => (HO1.out.lt g hg).1)); clear ho hg)
          go_roundw
          case rel => exact ⟨i + 1, A3, c3, by omega, by go_num, HB3.out, .inl ⟨by omega, rfl, rfl, by rw [tn.out, e1.out]; exact HO3.out⟩⟩
          case measure => simp [intOf]; omega
      · have HO1 := Lib.hid ho1
        have tl := Lib.hid (TL.out (i + 1) (by omega))
        have tn := Lib.hid (TN.out (i + 1) (by omega))
        have e3 := Lib.hid (S3.out i (by omega))
        have hi' := HI.out i (by omega) hil
        clear ho1 B
        generalize at_ l i = y at *
        have hne : ¬ y = n := by omega
        have t1 : (y == n) = false := by simp [hne]
        have t2 : decide (y = n) = false := decide_eq_false hne
        clear hi'
        go_wp2_with (at_builtin; refine wpI rfl (.tmp 35) (.tmp 40) rfl w.heap.size (.slice A1 (i + 1) c1) (tkI S (i + 1)) rfl (World.ownsRow.alloc HO1.out _) (by have := HB.out.size; simp; omega) (some ⟨wr.heap.size, 0, none⟩) 1 1 [y] rfl (il_one _ _) rfl (by rw [tl.out]; omega) ((i + 1) + 1) (by rw [List.length_append, tl.out]; rfl) ?_; intro A3 c3 w3 ho hg _; have HO3 := Lib.hid ho; have HB3 := Lib.hid (below_grown (balloc HB.out _) hg (by have := HB.out.size; simp; omega) (fun g hg => (HO1.out.lt g hg).1)); clear ho hg)
        go_roundw
        case rel => exact ⟨i + 1, A3, c3, by omega, by go_num, HB3.out, .inr ⟨by omega, rfl, rfl, by rw [tn.out, e3.out]; exact HO3.out⟩⟩
        case measure => simp [intOf]; omega
    · obtain rfl : i = l.length := by omega
      rcases hcase with ⟨hip, rfl, rfl, ho1⟩ | ⟨hip, rfl, rfl, ho1⟩
      · obtain rfl : p = l.length := by omega
        have HO1 := Lib.hid ho1
        have tl := Lib.hid (TL.out l.length (by omega))
        have tn := Lib.hid (TN.out l.length (by omega))
        clear ho1 B
        go_wp2_with (at_builtin; refine wpI rfl (.tmp 44) (.tmp 46) rfl w.heap.size (.slice A1 l.length c1) (tkI S l.length) rfl (World.ownsRow.alloc HO1.out _) (by have := HB.out.size; simp; omega) (some ⟨wr.heap.size, 0, none⟩) 1 1 [n] rfl (il_one _ _) rfl (by rw [tl.out]; omega) (l.length + 1) (by rw [List.length_append, tl.out]; rfl) ?_; intro A3 c3 w3 ho hg _; have HO3 := Lib.hid ho; have HB3 := Lib.hid (below_grown (balloc HB.out _) hg (by have := HB.out.size; simp; omega) (fun g hg => (HO1.out.lt g hg).1)); have P3 := Lib.hid (show OI w3 w.heap.size (.slice A3 (l.length + 1) c3) S from by rw [← TA.out, tn.out, S2.out]; exact ho); clear ho hg)
        go_ret2
        exact ⟨A3, c3, rfl, oi_il P3.out, by have := oi_cap P3.out; rw [SL.out] at this; exact this, HB3.out⟩
      · rw [TA.out] at ho1
        have HO1 := Lib.hid ho1
        clear ho1 B
        go_wp2_with fail
        go_ret2
        exact ⟨A1, c1, rfl, oi_il HO1.out, by have := oi_cap HO1.out; rw [SL.out] at this; exact this, HB.out⟩
set_option maxHeartbeats 4000000 in
theorem longer_has (A : Option Addr) (c : Nat) (l : List Int) (n : Int) (p : Nat) (w : World) (h : IL w A l) (hl : l.length ≤ 1000) (hp : p < l.length) (he : at_ l p = n) (hlo : ∀ k, k < p → at_ l k < n) :
    Calls Try.prog 27 #[.slice A l.length c, .int .i64 n] w fun e w' => e = .returned (.tuple #[.slice none 0 0, .bool false]) ∧ Below w.heap.size w w' := by
  have H := Lib.hid h
  have nn : (l.length : Int) ≤ 1000 := by omega
  have LO := Lib.hid hlo
  have EP := Lib.hid he
  clear h hlo he
  go_enter Try.func27, Try.ntmps27
  go_wp2_with fail
  go_loopw [6, 7, 8] (fun ov pv iv wr => ∃ i A c, i ≤ p ∧ iv = .int .i64 (i : Int) ∧ Below w.heap.size w wr ∧ pv = .bool false ∧ ov = .slice A i c ∧ OI wr w.heap.size (.slice A i c) (tkI l i)) (fun _ _ iv _ => p - (intOf iv).toNat)
  case atStart => exact ⟨0, none, 0, Nat.zero_le _, rfl, Below.refl _ _, rfl, rfl, oi_nil _ _⟩
  case round =>
    obtain ⟨i, A1, c1, hi, rfl, B, rfl, rfl, ho1⟩ := hrel
    have HB := Lib.hid B
    have HO1 := Lib.hid ho1
    have hi1 : (i : Int) < (l.length : Int) := by omega
    have hi0 : 0 ≤ (i : Int) := by omega
    obtain ⟨be, oe, rfl, hbe, hce⟩ := il_in H.out B i (by omega)
    clear ho1 B
    by_cases hlt : i < p
    · have lo := LO.out i hlt
      have tl := Lib.hid (show (tkI l i).length = i by unfold tkI; rw [List.length_take]; omega)
      have tn := Lib.hid (tkI_next (l := l) (k := i) (by omega))
      generalize at_ l i = y at *
      have hne : ¬ y = n := by omega
      have t1 : (y == n) = false := by simp [hne]
      have t2 : decide (y = n) = false := decide_eq_false hne
      have t3 : ¬ y > n := by omega
      have t4 : decide (y > n) = false := decide_eq_false t3
      go_wp2_with (at_builtin; refine wpI rfl (.tmp 35) (.tmp 40) rfl w.heap.size (.slice A1 i c1) (tkI l i) rfl (World.ownsRow.alloc HO1.out _) (by have := HB.out.size; simp; omega) (some ⟨wr.heap.size, 0, none⟩) 1 1 [y] rfl (il_one _ _) rfl (by rw [tl.out]; omega) (i + 1) (by rw [List.length_append, tl.out]; rfl) ?_; intro A3 c3 w3 ho hg _; have HO3 := Lib.hid ho; have HB3 := Lib.hid (below_grown (balloc HB.out _) hg (by have := HB.out.size; simp; omega) (fun g hg => (HO1.out.lt g hg).1)); clear ho hg)
      go_roundw
      case rel => exact ⟨i + 1, A3, c3, by omega, by go_num, HB3.out, rfl, rfl, by rw [tn.out]; exact HO3.out⟩
      case measure => simp [intOf]; omega
    · obtain rfl : i = p := by omega
      rw [EP.out] at hce
      go_wp2_with fail
      go_ret2
      exact ⟨rfl, HB.out⟩

end Go.Proofs.Ytllonfaogbdbnaa
namespace Go.Proofs.Ytllonfaogbdbnaa
open Go.ChangeShapes Go.WideShapes Go.RowKit
open Cr
theorem abv_ratq {W d p q : Int} (hd : 0 < d) (hW : 0 ≤ W) : abvB (ratq W d) (p, q) = decide (p * d < W * q) := by
  have rc := ratq_cross (n := W) (d := d) (by omega)
  have r1 := (ratq_abs (n := W) (d := d) (by omega)).2.2
  have rb := ratq_bd (n := W) (d := d) hW (Int.le_refl _) hd (Int.le_refl _)
  have a1 : absI (ratq W d).1 = (ratq W d).1 := by have := rb.1; generalize (ratq W d).1 = z at *; unfold absI; rw [if_neg (by omega)]
  have a2 : absI d = d := by unfold absI; rw [if_neg (by omega)]
  have a3 : absI W = W := by unfold absI; rw [if_neg (by omega)]
  rw [a1, a2, a3] at rc
  clear rb a1 a2 a3
  unfold abvB
  generalize ratq W d = z at *
  obtain ⟨x, y⟩ := z
  simp only at rc r1 ⊢
  apply decide_eq_decide.2
  have hy : 0 < y := by omega
  constructor
  · intro h
    have h1 := Int.mul_lt_mul_of_pos_right h hd
    have e1 : p * y * d = p * d * y := by grind
    have e2 : x * q * d = W * q * y := by rw [show x * q * d = (x * d) * q by grind, rc]; grind
    rw [e1, e2] at h1
    exact Int.lt_of_mul_lt_mul_right h1 (by omega)
  · intro h
    have h1 := Int.mul_lt_mul_of_pos_right h hy
    have e1 : p * y * d = p * d * y := by grind
    have e2 : x * q * d = W * q * y := by rw [show x * q * d = (x * d) * q by grind, rc]; grind
    rw [← e1, ← e2] at h1
    exact Int.lt_of_mul_lt_mul_right h1 (by omega)
/-- is an element of the residual above the bound? -/
def abo (M : List (List Int)) (rows cols : List Int) (p q : Int) (i j : Nat) : Bool := abvB (ratq (absI (bord M rows cols i j)) (absI (detR M rows cols))) (p, q)
theorem abo_w {M : List (List Int)} {rows cols : List Int} {p q : Int} (dz : detR M rows cols ≠ 0) (hp : 0 ≤ p) (hq : 0 < q) :
    (∃ i j : Nat, i < M.length ∧ j < (rw_ M 0).length ∧ abo M rows cols p q i j = true) ↔ abvB (ratq (wst M rows cols) (absI (detR M rows cols))) (p, q) = true := by
  have dp : 0 < absI (detR M rows cols) := by unfold absI; split <;> omega
  have w0 : 0 ≤ wst M rows cols := wsr_nn _ _ _ _ _
  rw [abv_ratq dp w0, decide_eq_true_eq]
  constructor
  · rintro ⟨i, j, hi, hj, h⟩
    unfold abo at h
    rw [abv_ratq dp (absI_nn _), decide_eq_true_eq] at h
    have g : absI (bord M rows cols i j) ≤ wst M rows cols := wsr_ge M rows cols (rw_ M 0).length hj hi
    exact Int.lt_of_lt_of_le h (Int.mul_le_mul_of_nonneg_right g (by omega))
  · intro h
    rcases wsr_at M rows cols (rw_ M 0).length M.length with e | ⟨i, j, hi, hj, e⟩
    · have e : wst M rows cols = 0 := e
      rw [e, Int.zero_mul] at h
      have := Int.mul_nonneg hp (show 0 ≤ absI (detR M rows cols) by omega)
      omega
    · refine ⟨i, j, hi, hj, ?_⟩
      have e : wst M rows cols = absI (bord M rows cols i j) := e
      unfold abo
      rw [abv_ratq dp (absI_nn _), decide_eq_true_eq, ← e]
      exact h
def SZ (w : World) (A : Option Addr) (n c : Nat) (R : Option Addr) (K cr : Nat) (C : Option Addr) (K2 cc : Nat) (d : Int) (w1 : World) : Prop := w1.cell? ⟨w.heap.size, 0, none⟩ = some (.slice A n c) ∧ w1.cell? ⟨w.heap.size, 1, none⟩ = some (.slice R K cr) ∧ w1.cell? ⟨w.heap.size, 2, none⟩ = some (.slice C K2 cc) ∧ w1.cell? ⟨w.heap.size, 3, none⟩ = some (.int .i64 d) ∧ Below w.heap.size w w1 ∧ w.heap.size < w1.heap.size
theorem sz_s {w : World} {A : Option Addr} {n c : Nat} {R : Option Addr} {K cr : Nat} {C : Option Addr} {K2 cc : Nat} {d : Int} {w1 : World} (h : SZ w A n c R K cr C K2 cc d w1) : w1.cell? ⟨w.heap.size, 0, none⟩ = some (.slice A n c) ∧ w1.cell? ⟨w.heap.size, 1, none⟩ = some (.slice R K cr) ∧ w1.cell? ⟨w.heap.size, 2, none⟩ = some (.slice C K2 cc) ∧ w1.cell? ⟨w.heap.size, 3, none⟩ = some (.int .i64 d) ∧ Below w.heap.size w w1 ∧ w.heap.size < w1.heap.size := h
theorem sz_of {w : World} {A : Option Addr} {n c : Nat} {R : Option Addr} {K cr : Nat} {C : Option Addr} {K2 cc : Nat} {d : Int} {w1 : World} (h : w1.cell? ⟨w.heap.size, 0, none⟩ = some (.slice A n c) ∧ w1.cell? ⟨w.heap.size, 1, none⟩ = some (.slice R K cr) ∧ w1.cell? ⟨w.heap.size, 2, none⟩ = some (.slice C K2 cc) ∧ w1.cell? ⟨w.heap.size, 3, none⟩ = some (.int .i64 d) ∧ Below w.heap.size w w1 ∧ w.heap.size < w1.heap.size) : SZ w A n c R K cr C K2 cc d w1 := h
theorem sz_drew {w : World} {A : Option Addr} {n c : Nat} {R : Option Addr} {K cr : Nat} {C : Option Addr} {K2 cc : Nat} {d : Int} {w1 : World} (h : SZ w A n c R K cr C K2 cc d w1) : SZ w A n c R K cr C K2 cc d w1.drew := by
  obtain ⟨h0, h1, h2, h3, hB, b0⟩ := h
  exact ⟨h0, h1, h2, h3, Below.drew hB, b0⟩
theorem sz_drewN {w : World} {A : Option Addr} {n c : Nat} {R : Option Addr} {K cr : Nat} {C : Option Addr} {K2 cc : Nat} {d : Int} {w1 : World} (h : SZ w A n c R K cr C K2 cc d w1) (kk : Nat) : SZ w A n c R K cr C K2 cc d (w1.drewN kk) := by
  obtain ⟨h0, h1, h2, h3, hB, b0⟩ := h
  exact ⟨h0, h1, h2, h3, bdrewN hB kk, b0⟩
theorem sz_bel {w : World} {A : Option Addr} {n c : Nat} {R : Option Addr} {K cr : Nat} {C : Option Addr} {K2 cc : Nat} {d : Int} {w1 : World} (h : SZ w A n c R K cr C K2 cc d w1) : Below w.heap.size w w1 := by
  obtain ⟨h0, h1, h2, h3, hB, b0⟩ := h
  exact hB
theorem sz_below {w : World} {A : Option Addr} {n c : Nat} {R : Option Addr} {K cr : Nat} {C : Option Addr} {K2 cc : Nat} {d : Int} {w1 w2 : World} (h : SZ w A n c R K cr C K2 cc d w1) (hb : Below w1.heap.size w1 w2) : SZ w A n c R K cr C K2 cc d w2 := by
  obtain ⟨h0, h1, h2, h3, hB, b0⟩ := h
  exact ⟨(hb.cell (p := ⟨w.heap.size, 0, none⟩) b0).trans h0, (hb.cell (p := ⟨w.heap.size, 1, none⟩) b0).trans h1, (hb.cell (p := ⟨w.heap.size, 2, none⟩) b0).trans h2, (hb.cell (p := ⟨w.heap.size, 3, none⟩) b0).trans h3, bstep hB hb, Nat.lt_of_lt_of_le b0 hb.size⟩
theorem sz_ws {w : World} {A : Option Addr} {n c : Nat} {R : Option Addr} {K cr : Nat} {C : Option Addr} {K2 cc : Nat} {d : Int} {w1 : World} (h : WS w A n c R K cr C K2 cc d w1) : SZ w A n c R K cr C K2 cc d w1 := by
  obtain ⟨h0, h1, h2, h3, _, _, _, _, hB, b0, _⟩ := h
  exact ⟨h0, h1, h2, h3, hB, b0⟩
theorem sz_set {w : World} {A : Option Addr} {n c : Nat} {R : Option Addr} {K cr : Nat} {C : Option Addr} {K2 cc : Nat} {d : Int} {w1 : World} (h : SZ w A n c R K cr C K2 cc d w1) (o : Nat) (v : Value) : SZ w A n c R K cr C K2 cc d (w1.setCell ⟨w.heap.size + 1, o, none⟩ v) := by
  obtain ⟨h0, h1, h2, h3, hB, b0⟩ := h
  have ne : (⟨w.heap.size + 1, o, none⟩ : Addr).block ≠ w.heap.size := by show w.heap.size + 1 ≠ w.heap.size; omega
  refine ⟨?_, ?_, ?_, ?_, hB.setCell (by show w.heap.size ≤ w.heap.size + 1; omega) v, by simpa using b0⟩
  · rw [World.cell?_setCell_far _ _ _ _ ne]; exact h0
  · rw [World.cell?_setCell_far _ _ _ _ ne]; exact h1
  · rw [World.cell?_setCell_far _ _ _ _ ne]; exact h2
  · rw [World.cell?_setCell_far _ _ _ _ ne]; exact h3
set_option maxHeartbeats 4000000 in
theorem csz_any (A R C : Option Addr) (c cr cc : Nat) (M : List (List Int)) (rows cols : List Int) (i j : Nat) (w : World) (h : ChS w A M.length (rw_ M 0).length M R C rows.length rows cols) (dz : detR M rows cols ≠ 0) (hi : i < M.length) (hj : j < (rw_ M 0).length) :
    Calls Try.prog 96 #[chv A M.length c R rows.length cr C rows.length cc (detR M rows cols), .int .i64 (i : Int), .int .i64 (j : Int)] w fun e w' => e = .returned (rtv (ratq (absI (bord M rows cols i j)) (absI (detR M rows cols)))) ∧ Below w.heap.size w w' := by
  have D6 := detC6 h
  have B6 := bord6 h (i := (i : Int)) (j := (j : Int)) (by omega) (by omega)
  have HC := Lib.hid h.cho
  have Z0 := Lib.hid (ws5_new w A M.length c R rows.length cr C rows.length cc (detR M rows cols))
  have S0 := Lib.hid (sz_ws Z0.out)
  have BO := Lib.hid (fun W (B : Below w.heap.size w W) => bord_any A R C c cr cc M.length (rw_ M 0).length rows.length (detR M rows cols) M rows cols (i : Int) (j : Int) W (cho_in HC.out B) (by omega) (by omega))
  have A1 := Lib.hid (fun W => absC_any (bord M rows cols i j) W (by omega) (by omega))
  have A2 := Lib.hid (fun W => absC_any (detR M rows cols) W (by omega) (by omega))
  have ad : absI (detR M rows cols) ≠ 0 := by unfold absI; split <;> omega
  obtain ⟨a1, a2⟩ := absI_bd D6.1 D6.2.1
  obtain ⟨b1, b2⟩ := absI_bd B6.1 B6.2.1
  have QU := Lib.hid (fun W => quo_any (absI (bord M rows cols i j)) (absI (detR M rows cols)) W ad (by omega) (by omega) (by omega) (by omega))
  obtain ⟨rr, hrr⟩ : ∃ rr, ratq (absI (bord M rows cols i j)) (absI (detR M rows cols)) = rr := ⟨_, rfl⟩
  rw [hrr] at QU ⊢
  clear hrr h dz ad D6 B6 a1 a2 b1 b2 hi hj HC
  generalize bord M rows cols i j = x at *
  generalize detR M rows cols = dd at *
  generalize absI x = ax at *
  generalize absI dd = ay at *
  go_enter Try.func96, Try.ntmps96
  go_wp2_with fail
  generalize (w.alloc (chb A M.length c R rows.length cr C rows.length cc dd)).alloc (rtc (0, 0)) = W0 at *
  go_region_held3 (fun w' => w'.cell? ⟨w.heap.size, 0, none⟩ = some (.slice A M.length c) ∧ w'.cell? ⟨w.heap.size, 1, none⟩ = some (.slice R rows.length cr) ∧ w'.cell? ⟨w.heap.size, 2, none⟩ = some (.slice C rows.length cc) ∧ w'.cell? ⟨w.heap.size, 3, none⟩ = some (.int .i64 dd) ∧ Below w.heap.size w w' ∧ w.heap.size < w'.heap.size)
    (first | with_reducible exact sz_s (sz_drew S0.out) | with_reducible exact sz_s V1.out | with_reducible exact sz_s V2.out | with_reducible exact sz_s (sz_set (sz_set V2.out _ _) _ _) | with_reducible assumption | fail)
    (first
      | (go_at_call 48; (with_reducible refine (BO.out _ (sz_bel (sz_of (by assumption)))).mono ?_); rintro e w3 ⟨rfl, hb⟩; have V1 := Lib.hid (sz_below (sz_of (by assumption)) hb); have Z1 := Lib.hid (ws5_below (ws5_drew Z0.out) hb); clear hb)
      | (go_at_call 91; (first | with_reducible refine (A1.out _).mono ?_ | with_reducible refine (A2.out _).mono ?_); rintro e w2 ⟨rfl, rfl⟩)
      | (go_at_call 47; (with_reducible refine (QU.out _).mono ?_); rintro e w4 ⟨rfl, hb⟩; have V2 := Lib.hid (sz_below (sz_of (by assumption)) hb); have Z2 := Lib.hid (ws5_below Z1.out hb); obtain ⟨_, _, _, _, r0, r1, r2, r3, _, l0, l1⟩ := ws5_s Z2.out; clear hb)
      | fail)
  all_goals
    go_wp2_with fail
    refine bodyPost_ret (v := rtv rr) (by rw [results_cellF rfl]; go_simp) rfl ⟨rfl, ?_⟩
    have hB := ws5_bel Z2.out
    (repeat' (first | exact Below.refl _ _ | refine bstep ?_ hB | refine Below.setCell ?_ (by simp <;> omega) _ | refine balloc ?_ _ | refine Below.drew ?_ | refine bdrewN ?_ _))

end Go.Proofs.Ytllonfaogbdbnaa
namespace Go.Proofs.Ytllonfaogbdbnaa
open Go.ChangeShapes Go.WideShapes Go.RowKit
open Cr
def rqv (M : List (List Int)) (r c : List Int) (x y : Nat) : Int × Int := ratq (absI (bord M r c x y)) (absI (detR M r c))
/-- a choice keeps the bound -/
def okc (M : List (List Int)) (p q : Int) (r c : List Int) : Prop := detR M r c ≠ 0 ∧ ∀ i, i < M.length → ∀ j, j < (rw_ M 0).length → abo M r c p q i j = false
theorem kc_sets {M : List (List Int)} {K : Nat} (hv : vcode M = 0) (n6 : M.length ≤ 6) (m6 : (rw_ M 0).length ≤ 6) {r c : List Int} (hr : r ∈ setsN M.length K) (hc : c ∈ setsN (rw_ M 0).length K) : kcode M r c = 0 := by
  obtain ⟨l1, s1⟩ := sets_mem n6 hr
  obtain ⟨l2, s2⟩ := sets_mem m6 hc
  exact kcode_good hv (by unfold chB; rw [s1, s2]; simp [l1, l2])
def AC (w : World) (g h : Nat) (A : Option Addr) (n c : Nat) (R : Option Addr) (K cr : Nat) (C : Option Addr) (K2 cc : Nat) (d p q : Int) (w1 : World) : Prop := w1.cell? ⟨g, 0, none⟩ = some (.slice A n c) ∧ w1.cell? ⟨g, 1, none⟩ = some (.slice R K cr) ∧ w1.cell? ⟨g, 2, none⟩ = some (.slice C K2 cc) ∧ w1.cell? ⟨g, 3, none⟩ = some (.int .i64 d) ∧ w1.cell? ⟨h, 0, none⟩ = some (.int .i64 p) ∧ w1.cell? ⟨h, 1, none⟩ = some (.int .i64 q) ∧ Below w.heap.size w w1 ∧ g < w1.heap.size ∧ h < w1.heap.size
theorem ac_s {w : World} {g h : Nat} {A : Option Addr} {n c : Nat} {R : Option Addr} {K cr : Nat} {C : Option Addr} {K2 cc : Nat} {d p q : Int} {w1 : World} (hx : AC w g h A n c R K cr C K2 cc d p q w1) : w1.cell? ⟨g, 0, none⟩ = some (.slice A n c) ∧ w1.cell? ⟨g, 1, none⟩ = some (.slice R K cr) ∧ w1.cell? ⟨g, 2, none⟩ = some (.slice C K2 cc) ∧ w1.cell? ⟨g, 3, none⟩ = some (.int .i64 d) ∧ w1.cell? ⟨h, 0, none⟩ = some (.int .i64 p) ∧ w1.cell? ⟨h, 1, none⟩ = some (.int .i64 q) ∧ Below w.heap.size w w1 ∧ g < w1.heap.size ∧ h < w1.heap.size := hx
theorem ac_of {w : World} {g h : Nat} {A : Option Addr} {n c : Nat} {R : Option Addr} {K cr : Nat} {C : Option Addr} {K2 cc : Nat} {d p q : Int} {w1 : World} (hx : w1.cell? ⟨g, 0, none⟩ = some (.slice A n c) ∧ w1.cell? ⟨g, 1, none⟩ = some (.slice R K cr) ∧ w1.cell? ⟨g, 2, none⟩ = some (.slice C K2 cc) ∧ w1.cell? ⟨g, 3, none⟩ = some (.int .i64 d) ∧ w1.cell? ⟨h, 0, none⟩ = some (.int .i64 p) ∧ w1.cell? ⟨h, 1, none⟩ = some (.int .i64 q) ∧ Below w.heap.size w w1 ∧ g < w1.heap.size ∧ h < w1.heap.size) : AC w g h A n c R K cr C K2 cc d p q w1 := hx
theorem ac_drew {w : World} {g h : Nat} {A : Option Addr} {n c : Nat} {R : Option Addr} {K cr : Nat} {C : Option Addr} {K2 cc : Nat} {d p q : Int} {w1 : World} (hx : AC w g h A n c R K cr C K2 cc d p q w1) : AC w g h A n c R K cr C K2 cc d p q w1.drew := by
  obtain ⟨h0, h1, h2, h3, h4, h5, hB, b0, b1⟩ := hx
  exact ⟨h0, h1, h2, h3, h4, h5, Below.drew hB, b0, b1⟩
theorem ac_drewN {w : World} {g h : Nat} {A : Option Addr} {n c : Nat} {R : Option Addr} {K cr : Nat} {C : Option Addr} {K2 cc : Nat} {d p q : Int} {w1 : World} (hx : AC w g h A n c R K cr C K2 cc d p q w1) (kk : Nat) : AC w g h A n c R K cr C K2 cc d p q (w1.drewN kk) := by
  obtain ⟨h0, h1, h2, h3, h4, h5, hB, b0, b1⟩ := hx
  exact ⟨h0, h1, h2, h3, h4, h5, bdrewN hB kk, b0, b1⟩
theorem ac_bel {w : World} {g h : Nat} {A : Option Addr} {n c : Nat} {R : Option Addr} {K cr : Nat} {C : Option Addr} {K2 cc : Nat} {d p q : Int} {w1 : World} (hx : AC w g h A n c R K cr C K2 cc d p q w1) : Below w.heap.size w w1 := by
  obtain ⟨h0, h1, h2, h3, h4, h5, hB, b0, b1⟩ := hx
  exact hB
theorem ac_below {w : World} {g h : Nat} {A : Option Addr} {n c : Nat} {R : Option Addr} {K cr : Nat} {C : Option Addr} {K2 cc : Nat} {d p q : Int} {w1 w2 : World} (hx : AC w g h A n c R K cr C K2 cc d p q w1) (hb : Below w1.heap.size w1 w2) : AC w g h A n c R K cr C K2 cc d p q w2 := by
  obtain ⟨h0, h1, h2, h3, h4, h5, hB, b0, b1⟩ := hx
  exact ⟨(hb.cell (p := ⟨g, 0, none⟩) b0).trans h0, (hb.cell (p := ⟨g, 1, none⟩) b0).trans h1, (hb.cell (p := ⟨g, 2, none⟩) b0).trans h2, (hb.cell (p := ⟨g, 3, none⟩) b0).trans h3, (hb.cell (p := ⟨h, 0, none⟩) b1).trans h4, (hb.cell (p := ⟨h, 1, none⟩) b1).trans h5, bstep hB hb, Nat.lt_of_lt_of_le b0 hb.size, Nat.lt_of_lt_of_le b1 hb.size⟩
theorem ac_new {w w5 : World} {h : Nat} {A : Option Addr} {n c : Nat} {R : Option Addr} {K cr : Nat} {C : Option Addr} {K2 cc : Nat} {d p q : Int} (h0 : w5.cell? ⟨h, 0, none⟩ = some (.int .i64 p)) (h1 : w5.cell? ⟨h, 1, none⟩ = some (.int .i64 q)) (hl : h < w5.heap.size) (hB : Below w.heap.size w w5) :
    AC w w5.heap.size h A n c R K cr C K2 cc d p q (w5.alloc (chb A n c R K cr C K2 cc d)) :=
  ⟨by go_simp, by go_simp, by go_simp, by go_simp, (World.cell?_alloc_lt _ _ _ hl).trans h0, (World.cell?_alloc_lt _ _ _ hl).trans h1, balloc hB _, by simp, by simp; omega⟩
theorem abo_bd {w : World} {A R C : Option Addr} {M : List (List Int)} {rows cols : List Int} (h : ChS w A M.length (rw_ M 0).length M R C rows.length rows cols) (dz : detR M rows cols ≠ 0) {p q : Int} (p0 : 0 ≤ p) (p1 : p ≤ 1000000) (q0 : 1 ≤ q) (q1 : q ≤ 1000) {i j : Nat} (hi : i < M.length) (hj : j < (rw_ M 0).length) :
    0 ≤ (ratq (absI (bord M rows cols i j)) (absI (detR M rows cols))).1 * q ∧ (ratq (absI (bord M rows cols i j)) (absI (detR M rows cols))).1 * q ≤ 9000000000000000000 ∧ 0 ≤ p * (ratq (absI (bord M rows cols i j)) (absI (detR M rows cols))).2 ∧ p * (ratq (absI (bord M rows cols i j)) (absI (detR M rows cols))).2 ≤ 9000000000000000000 := by
  have D6 := detC6 h
  have B6 := bord6 h (i := (i : Int)) (j := (j : Int)) (by omega) (by omega)
  have dp : 0 < absI (detR M rows cols) := by unfold absI; split <;> omega
  obtain ⟨b1, b2⟩ := absI_bd B6.1 B6.2.1
  by_cases z : bord M rows cols i j = 0
  · rw [z, show absI 0 = 0 from rfl, ratq_zero dp]
    simp only
    omega
  · have k5 := B6.2.2 z
    obtain ⟨d1, d2⟩ := absI_bd (D6.2.2 k5).1 (D6.2.2 k5).2
    have rb := ratq_bd (n := absI (bord M rows cols i j)) (d := absI (detR M rows cols)) b1 b2 dp d2
    have e1 := prod_bd rb.1 rb.2.1 (show 0 ≤ q by omega) q1
    have e2 := prod_bd p0 p1 rb.2.2.1 rb.2.2.2
    omega
theorem csz_k {A R C : Option Addr} {c cr cc K : Nat} {M : List (List Int)} {rows cols : List Int} {i j : Nat} {w : World} (h : ChS w A M.length (rw_ M 0).length M R C rows.length rows cols) (hK : rows.length = K) (dz : detR M rows cols ≠ 0) (hi : i < M.length) (hj : j < (rw_ M 0).length) :
    Calls Try.prog 96 #[chv A M.length c R K cr C K cc (detR M rows cols), .int .i64 (i : Int), .int .i64 (j : Int)] w fun e w' => e = .returned (rtv (rqv M rows cols i j)) ∧ Below w.heap.size w w' := by
  subst hK
  unfold rqv
  exact csz_any A R C c cr cc M rows cols i j w h dz hi hj
theorem avj_any {M : List (List Int)} {r c : List Int} {p q : Int} {x y : Nat} (bd : 0 ≤ (ratq (absI (bord M r c x y)) (absI (detR M r c))).1 * q ∧ (ratq (absI (bord M r c x y)) (absI (detR M r c))).1 * q ≤ 9000000000000000000 ∧ 0 ≤ p * (ratq (absI (bord M r c x y)) (absI (detR M r c))).2 ∧ p * (ratq (absI (bord M r c x y)) (absI (detR M r c))).2 ≤ 9000000000000000000) (w : World) :
    Calls Try.prog 61 #[rtv (rqv M r c x y), rtv (p, q)] w fun e w' => e = .returned (.bool (abo M r c p q x y)) ∧ Below w.heap.size w w' := by
  unfold rqv abo
  generalize ratq (absI (bord M r c x y)) (absI (detR M r c)) = z at *
  obtain ⟨b1, b2, b3, b4⟩ := bd
  have n : (-9000000000000000000 : Int) ≤ 0 := by decide
  exact above_any z (p, q) w (Int.le_trans n b1) b2 (Int.le_trans n b3) b4
set_option maxRecDepth 100000 in
set_option maxHeartbeats 8000000 in
theorem accepted_any (A : Option Addr) (c K : Nat) (M : List (List Int)) (p q : Int) (w : World) (hM : ML w A M) (hv : vcode M = 0) (p0 : 0 ≤ p) (p1 : p ≤ 1000000) (q0 : 1 ≤ q) (q1 : q ≤ 1000) (k6 : K ≤ 6) :
    Calls Try.prog 60 #[.slice A M.length c, .int .i64 (K : Int), rtv (p, q)] w fun e w' => Below w.heap.size w w' ∧ ((e = .returned (.tuple #[.slice none 0 0, .slice none 0 0, .bool false]) ∧ ∀ i, i < (setsN M.length K).length → ∀ j, j < (setsN (rw_ M 0).length K).length → ¬ okc M p q (rw_ (setsN M.length K) i) (rw_ (setsN (rw_ M 0).length K) j)) ∨
      ∃ R cr E ce i j, e = .returned (.tuple #[.slice R K cr, .slice E K ce, .bool true]) ∧ i < (setsN M.length K).length ∧ j < (setsN (rw_ M 0).length K).length ∧ K ≤ cr ∧ K ≤ ce ∧ IL w' R (rw_ (setsN M.length K) i) ∧ IL w' E (rw_ (setsN (rw_ M 0).length K) j) ∧ okc M p q (rw_ (setsN M.length K) i) (rw_ (setsN (rw_ M 0).length K) j)) := by
  obtain ⟨n, m, s, n1, n6, m1, m6⟩ := sq_of hv
  obtain rfl : M.length = n := s.len
  obtain rfl : (rw_ M 0).length = m := rw_len s (by omega)
  have S1 := Lib.hid (fun W => sets_any M.length K W n6 k6)
  have S2 := Lib.hid (fun W => sets_any (rw_ M 0).length K W m6 k6)
  have LR := Lib.hid (fun i (hi : i < (setsN M.length K).length) => (sets_under n6 hi).2)
  have LC := Lib.hid (fun j (hj : j < (setsN (rw_ M 0).length K).length) => (sets_under m6 hj).2)
  have AG := Lib.hid (fun W (B : Below w.heap.size w W) i j R E (hi : i < (setsN M.length K).length) (hj : j < (setsN (rw_ M 0).length K).length) (i1 : IL W R (rw_ (setsN M.length K) i)) (i2 : IL W E (rw_ (setsN (rw_ M 0).length K) j)) =>
    (show Arg W A M R E (rw_ (setsN M.length K) i) (rw_ (setsN (rw_ M 0).length K) j) from ⟨ml_in hM B, by omega, fun x hx => by rw [rw_len s hx]; omega, i1, i2, by rw [(sets_under n6 hi).2]; omega, by rw [(sets_under m6 hj).2]; omega⟩))
  have KC := Lib.hid (fun i j (hi : i < (setsN M.length K).length) (hj : j < (setsN (rw_ M 0).length K).length) => kc_sets hv n6 m6 (rw_mem6 hi) (rw_mem6 hj))
  have CO := Lib.hid (fun W (B : Below w.heap.size w W) i j R E cr ce (hi : i < (setsN M.length K).length) (hj : j < (setsN (rw_ M 0).length K).length) (i1 : IL W R (rw_ (setsN M.length K) i)) (i2 : IL W E (rw_ (setsN (rw_ M 0).length K) j)) dz =>
    choose_ok A R E c cr ce M _ _ W (AG.out W B i j R E hi hj i1 i2) (KC.out i j hi hj) dz)
  have CZ := Lib.hid (fun W (B : Below w.heap.size w W) i j R E cr ce (hi : i < (setsN M.length K).length) (hj : j < (setsN (rw_ M 0).length K).length) (i1 : IL W R (rw_ (setsN M.length K) i)) (i2 : IL W E (rw_ (setsN (rw_ M 0).length K) j)) dz =>
    choose_zero A R E c cr ce M _ _ W (AG.out W B i j R E hi hj i1 i2) (KC.out i j hi hj) dz)
  have X1 := sets_max M.length (by omega) K (by omega)
  have X2 := sets_max (rw_ M 0).length (by omega) K (by omega)
  have RL := Lib.hid (fun i (hi : i < M.length) => (rw_len s hi : (rw_ M i).length = (rw_ M 0).length))
  have H := Lib.hid hM
  have B0 := Lib.hid (bx_new w p q)
  obtain ⟨b0, o0, A0, c0, rfl, hb0, hc0, _, _⟩ := hM 0 (by omega)
  have hc0 : w.cell? ⟨b0, o0, none⟩ = some (.slice A0 (rw_ M 0).length c0) := hc0
  have HC0 := Lib.hid hc0
  have HB0 := Lib.hid hb0
  have nn : (M.length : Int) ≤ 6 := by omega
  have mm : ((rw_ M 0).length : Int) ≤ 6 := by omega
  have n0 : (0 : Int) < (M.length : Int) := by omega
  have n01 : 1 ≤ (M.length : Int) := by omega
  have kk : (K : Int) ≤ 6 := by omega
  have kk0 : 0 ≤ (K : Int) := by omega
  clear hM hv s n1 n6 m1 m6 hc0 hb0
  go_enter Try.func60, Try.ntmps60
  go_wp2_with fail
  with_reducible refine (S1.out _).mono ?_
  rintro e w2 ⟨A2, c2, rfl, hL, hb⟩
  have HL := Lib.hid hL
  have BX2 := Lib.hid (bx_below B0.out hb)
  clear hL hb
  go_wp2_with fail
  go_loopg [23] (setsN M.length K).length (fun g kv wr => ∃ i : Nat, i + g = (setsN M.length K).length ∧ kv = .int .i64 (i : Int) ∧ Below w2.heap.size w2 wr ∧ ∀ i', i' < i → ∀ j, j < (setsN (rw_ M 0).length K).length → ¬ okc M p q (rw_ (setsN M.length K) i') (rw_ (setsN (rw_ M 0).length K) j))
  case atStart => exact ⟨0, Nat.zero_add _, rfl, Below.refl _ _, fun _ h => absurd h (Nat.not_lt_zero _)⟩
  case round =>
    rename World => wo
    rename Nat => gi
    obtain ⟨i, hi, rfl, B, hno⟩ := hrel
    have NO := Lib.hid hno
    have HBO := Lib.hid B
    have BXO := Lib.hid (bx_below BX2.out B)
    have HBW := Lib.hid (bx_bel BXO.out)
    by_cases hlt : i < (setsN M.length K).length
    · have hk1 : (i : Int) < ((setsN M.length K).length : Int) := by omega
      have hk0 : 0 ≤ (i : Int) := by omega
      have X1' : ((setsN M.length K).length : Int) ≤ 64 := by omega
      obtain ⟨b1, o1, R, cr, rfl, hb1, hc1, hl1, hr1⟩ := HL.out i hlt
      rw [LR.out i hlt] at hc1 hl1
      have hca := (B.cell (p := ⟨b1, o1 + i, none⟩) hb1).trans hc1
      have hcb := (HBW.out.cell (p := ⟨b0, o0, none⟩) HB0.out).trans HC0.out
      have IR := Lib.hid (il_in hr1 B)
      have HL1 := Lib.hid hl1
      clear hno B hb1 hc1 hl1 hr1
      go_wp2_with fail
      go_step3
      go_wp2_with fail
      go_step3
      go_wp2_with fail
      with_reducible refine (S2.out _).mono ?_
      rintro e w3 ⟨A3, c3, rfl, hL, hb⟩
      have HL3 := Lib.hid hL
      have BX3 := Lib.hid (bx_below BXO.out hb)
      have IR3 := Lib.hid (il_in IR.out hb)
      have B23 := Lib.hid (bstep HBO.out hb)
      clear hL hb hca hcb IR HBO BXO HBW
      go_wp2_with fail
      go_loopg [34] (setsN (rw_ M 0).length K).length (fun g kv wi => ∃ j : Nat, j + g = (setsN (rw_ M 0).length K).length ∧ kv = .int .i64 (j : Int) ∧ Below w3.heap.size w3 wi ∧ ∀ j', j' < j → ¬ okc M p q (rw_ (setsN M.length K) i) (rw_ (setsN (rw_ M 0).length K) j'))
      case atStart => exact ⟨0, Nat.zero_add _, rfl, Below.refl _ _, fun _ h => absurd h (Nat.not_lt_zero _)⟩
      case round =>
        rename World => wi
        rename Nat => gj
        obtain ⟨j, hj, rfl, B, hnj⟩ := hrel
        have NJ := Lib.hid hnj
        have BI := Lib.hid B
        have BXI := Lib.hid (bx_below BX3.out B)
        have B2I := Lib.hid (bstep B23.out B)
        by_cases hltj : j < (setsN (rw_ M 0).length K).length
        · have hj1 : (j : Int) < ((setsN (rw_ M 0).length K).length : Int) := by omega
          have hj0 : 0 ≤ (j : Int) := by omega
          have X2' : ((setsN (rw_ M 0).length K).length : Int) ≤ 64 := by omega
          obtain ⟨b3, o3, E, ce, rfl, hb3, hc3, hl3, hr3⟩ := HL3.out j hltj
          rw [LC.out j hltj] at hc3 hl3
          have hcc := (B.cell (p := ⟨b3, o3 + j, none⟩) hb3).trans hc3
          have IRi := Lib.hid (il_in IR3.out B)
          have IEi := Lib.hid (il_in hr3 B)
          have HL3' := Lib.hid hl3
          have NJ1 := Lib.hid (fun (h : ¬ okc M p q (rw_ (setsN M.length K) i) (rw_ (setsN (rw_ M 0).length K) j)) j' (hj' : j' < j + 1) => (show ¬ okc M p q (rw_ (setsN M.length K) i) (rw_ (setsN (rw_ M 0).length K) j') from if e : j' = j then e ▸ h else NJ.out j' (by omega)))
          by_cases dz : detR M (rw_ (setsN M.length K) i) (rw_ (setsN (rw_ M 0).length K) j) = 0
          · have CZj := Lib.hid (CZ.out wi (bx_bel BXI.out) i j R E cr ce hlt hltj IRi.out IEi.out dz)
            rw [LR.out i hlt, LC.out j hltj] at CZj
            have ND := Lib.hid (NJ1.out (fun h => h.1 dz))
            clear hnj B hb3 hc3 hl3 hr3 dz
            go_wp2_with fail
            with_reducible refine (CZj.out).mono ?_
            rintro e w5 ⟨rfl, hb⟩
            have BI5 := Lib.hid (balloc (bstep BI.out hb) (chb none 0 0 none 0 0 none 0 0 0))
            clear hb
            obtain ⟨g, rfl⟩ : ∃ g, gj = g + 1 := ⟨gj - 1, by omega⟩
            go_wp2_with fail
            go_roundg g
            case rel => exact ⟨j + 1, by omega, by go_num, BI5.out, ND.out⟩
            case measure => omega
          · have COj := Lib.hid (CO.out wi (bx_bel BXI.out) i j R E cr ce hlt hltj IRi.out IEi.out dz)
            rw [LR.out i hlt, LC.out j hltj] at COj
            have CSj := Lib.hid (fun W (B : Below wi.heap.size wi W) x y (hx : x < M.length) (hy : y < (rw_ M 0).length) =>
              csz_k (c := c) (cr := cr) (cc := ce) (chs_of (AG.out W (bstep (bx_bel BXI.out) B) i j R E hlt hltj (il_in IRi.out B) (il_in IEi.out B)) (KC.out i j hlt hltj)) (LR.out i hlt) dz hx hy)
            have AVj := Lib.hid (fun W (x y : Nat) (hx : x < M.length) (hy : y < (rw_ M 0).length) => (show Calls Try.prog 61 #[rtv (rqv M (rw_ (setsN M.length K) i) (rw_ (setsN (rw_ M 0).length K) j) x y), rtv (p, q)] W fun e w' => e = .returned (.bool (abo M (rw_ (setsN M.length K) i) (rw_ (setsN (rw_ M 0).length K) j) p q x y)) ∧ Below W.heap.size W w' from by
              exact avj_any (abo_bd (chs_of (AG.out wi (bx_bel BXI.out) i j R E hlt hltj IRi.out IEi.out) (KC.out i j hlt hltj)) dz p0 p1 q0 q1 hx hy) W))
            have OKI := Lib.hid (fun (h : ∀ x, x < M.length → ∀ y, y < (rw_ M 0).length → abo M (rw_ (setsN M.length K) i) (rw_ (setsN (rw_ M 0).length K) j) p q x y = false) => (show okc M p q (rw_ (setsN M.length K) i) (rw_ (setsN (rw_ M 0).length K) j) from ⟨dz, h⟩))
            have NOK := Lib.hid (fun x y (hx : x < M.length) (hy : y < (rw_ M 0).length) (h : abo M (rw_ (setsN M.length K) i) (rw_ (setsN (rw_ M 0).length K) j) p q x y = true) => NJ1.out (fun (k : okc M p q (rw_ (setsN M.length K) i) (rw_ (setsN (rw_ M 0).length K) j)) => by have := k.2 x hx y hy; rw [h] at this; cases this))
            clear hnj B hb3 hc3 hl3 hr3 dz
            generalize detR M (rw_ (setsN M.length K) i) (rw_ (setsN (rw_ M 0).length K) j) = dd at *
            generalize rqv M (rw_ (setsN M.length K) i) (rw_ (setsN (rw_ M 0).length K) j) = rq at *
            generalize abo M (rw_ (setsN M.length K) i) (rw_ (setsN (rw_ M 0).length K) j) p q = ab at *
            go_wp2_with fail
            with_reducible refine (COj.out).mono ?_
            rintro e w5 ⟨rfl, hb⟩
            have BI5 := Lib.hid hb
            have BX5 := Lib.hid (bx_below BXI.out hb)
            have AC0 := Lib.hid (by
              obtain ⟨z0, z1, _, z2⟩ := bx_s BX5.out
              exact ac_new (w := wi) (A := some ⟨b0, o0, none⟩) (n := M.length) (c := c) (R := R) (K := K) (cr := cr) (C := E) (K2 := K) (cc := ce) (d := dd) z0 z1 z2 hb)
            clear hb
            go_wp2_with fail
            go_loopg [49] M.length (fun g kv wr => ∃ x : Nat, x + g = M.length ∧ kv = .int .i64 (x : Int) ∧ AC wi w5.heap.size w.heap.size (some ⟨b0, o0, none⟩) M.length c R K cr E K ce dd p q wr ∧ ∀ x', x' < x → ∀ y, y < (rw_ M 0).length → ab x' y = false)
            case atStart => exact ⟨0, Nat.zero_add _, rfl, AC0.out, fun _ h => absurd h (Nat.not_lt_zero _)⟩
            case round =>
              rename World => wx
              rename Nat => gx
              clear AC0
              obtain ⟨x, hx, rfl, hA, hno⟩ := hrel
              have HA := Lib.hid hA
              have NX := Lib.hid hno
              by_cases hxl : x < M.length
              · have hx1 : (x : Int) < (M.length : Int) := by omega
                have hx0 : 0 ≤ (x : Int) := by omega
                obtain ⟨b', o', Rx, cx, he, hbx, hcx, _, _⟩ := H.out x hxl
                simp only [Option.some.injEq, Addr.mk.injEq, and_true] at he
                obtain ⟨rfl, rfl⟩ := he
                rw [RL.out x hxl] at hcx
                have hcax := ((bstep (bx_bel BXI.out) (ac_bel hA)).cell (p := ⟨b0, o0 + x, none⟩) hbx).trans hcx
                clear hA hno hbx hcx
                go_wp2_with fail
                clear hcax
                go_loopg [56] (rw_ M 0).length (fun g kv wr => ∃ y : Nat, y + g = (rw_ M 0).length ∧ kv = .int .i64 (y : Int) ∧ AC wi w5.heap.size w.heap.size (some ⟨b0, o0, none⟩) M.length c R K cr E K ce dd p q wr ∧ ∀ y', y' < y → ab x y' = false)
                case atStart => exact ⟨0, Nat.zero_add _, rfl, HA.out, fun _ h => absurd h (Nat.not_lt_zero _)⟩
                case round =>
                  rename Nat => gy
                  clear HA
                  obtain ⟨y, hy, rfl, hA, hno⟩ := hrel
                  have HA := Lib.hid hA
                  have NY := Lib.hid hno
                  clear hA hno
                  by_cases hyl : y < (rw_ M 0).length
                  · have hy1 : (y : Int) < ((rw_ M 0).length : Int) := by omega
                    have hy0 : 0 ≤ (y : Int) := by omega
                    have CSk := Lib.hid (fun W B => CSj.out W B x y hxl hyl)
                    have AVk := Lib.hid (fun W => AVj.out W x y hxl hyl)
                    go_wp2_with fail
                    cases hab : ab x y with
                    | false =>
                      rw [hab] at AVk
                      have NY1 := Lib.hid (fun y' (hy' : y' < y + 1) => (show ab x y' = false from if e : y' = y then e ▸ hab else NY.out y' (by omega)))
                      clear hab
                      go_region_held3 (fun w' => w'.cell? ⟨w5.heap.size, 0, none⟩ = some (.slice (some ⟨b0, o0, none⟩) M.length c) ∧ w'.cell? ⟨w5.heap.size, 1, none⟩ = some (.slice R K cr) ∧ w'.cell? ⟨w5.heap.size, 2, none⟩ = some (.slice E K ce) ∧ w'.cell? ⟨w5.heap.size, 3, none⟩ = some (.int .i64 dd) ∧ w'.cell? ⟨w.heap.size, 0, none⟩ = some (.int .i64 p) ∧ w'.cell? ⟨w.heap.size, 1, none⟩ = some (.int .i64 q) ∧ Below wi.heap.size wi w' ∧ w5.heap.size < w'.heap.size ∧ w.heap.size < w'.heap.size)
                        (first | with_reducible exact ac_s (ac_drew HA.out) | with_reducible exact ac_s V1.out | with_reducible exact ac_s V2.out | with_reducible assumption | fail)
                        (first
                          | (go_at_call 96; (with_reducible refine (CSk.out _ (ac_bel (ac_of (by assumption)))).mono ?_); rintro e w6 ⟨rfl, hb⟩; have V1 := Lib.hid (ac_below (ac_of (by assumption)) hb); clear hb)
                          | (go_at_call 61; (with_reducible refine (AVk.out _).mono ?_); rintro e w7 ⟨rfl, hb⟩; have V2 := Lib.hid (ac_below (ac_of (by assumption)) hb); clear hb)
                          | fail)
                      all_goals
                        obtain ⟨g, rfl⟩ : ∃ g, gy = g + 1 := ⟨gy - 1, by omega⟩
                        go_wp2_with fail
                        go_roundg g
                        case rel => exact ⟨y + 1, by omega, by go_num, (by first | exact V2.out | exact V1.out), NY1.out⟩
                        case measure => omega
                    | true =>
                      rw [hab] at AVk
                      have ND := Lib.hid (NOK.out x y hxl hyl hab)
                      clear hab
                      go_region_held3 (fun w' => w'.cell? ⟨w5.heap.size, 0, none⟩ = some (.slice (some ⟨b0, o0, none⟩) M.length c) ∧ w'.cell? ⟨w5.heap.size, 1, none⟩ = some (.slice R K cr) ∧ w'.cell? ⟨w5.heap.size, 2, none⟩ = some (.slice E K ce) ∧ w'.cell? ⟨w5.heap.size, 3, none⟩ = some (.int .i64 dd) ∧ w'.cell? ⟨w.heap.size, 0, none⟩ = some (.int .i64 p) ∧ w'.cell? ⟨w.heap.size, 1, none⟩ = some (.int .i64 q) ∧ Below wi.heap.size wi w' ∧ w5.heap.size < w'.heap.size ∧ w.heap.size < w'.heap.size)
                        (first | with_reducible exact ac_s (ac_drew HA.out) | with_reducible exact ac_s V1.out | with_reducible exact ac_s V2.out | with_reducible assumption | fail)
                        (first
                          | (go_at_call 96; (with_reducible refine (CSk.out _ (ac_bel (ac_of (by assumption)))).mono ?_); rintro e w6 ⟨rfl, hb⟩; have V1 := Lib.hid (ac_below (ac_of (by assumption)) hb); clear hb)
                          | (go_at_call 61; (with_reducible refine (AVk.out _).mono ?_); rintro e w7 ⟨rfl, hb⟩; have V2 := Lib.hid (ac_below (ac_of (by assumption)) hb); clear hb)
                          | fail)
                      all_goals
                        obtain ⟨g, rfl⟩ : ∃ g, gj = g + 1 := ⟨gj - 1, by omega⟩
                        have B9 := Lib.hid (bstep BI.out (by first | exact ac_bel V2.out | exact ac_bel V1.out))
                        go_wp2_with fail
                        go_roundg g
                        case rel => exact ⟨j + 1, by omega, by go_num, B9.out, ND.out⟩
                        case measure => omega
                  · obtain rfl : y = (rw_ M 0).length := by omega
                    have NX1 := Lib.hid (fun x' (hx' : x' < x + 1) => (show ∀ y, y < (rw_ M 0).length → ab x' y = false from if e : x' = x then e ▸ NY.out else NX.out x' (by omega)))
                    obtain ⟨g, rfl⟩ : ∃ g, gx = g + 1 := ⟨gx - 1, by omega⟩
                    go_wp2_with fail
                    go_roundg g
                    case rel => exact ⟨x + 1, by omega, by go_num, HA.out, NX1.out⟩
                    case measure => omega
              · obtain rfl : x = M.length := by omega
                have BF := ac_bel hA
                have OK := OKI.out NX.out
                clear hA hno
                go_wp2_with fail
                try rw [Exit.noGoto_ret]
                go_ret3
                exact ⟨bstep (bx_bel BXI.out) BF, .inr ⟨R, cr, E, ce, i, j, rfl, hlt, hltj, HL1.out, HL3'.out, il_in IRi.out BF, il_in IEi.out BF, OK⟩⟩
        · obtain rfl : j = (setsN (rw_ M 0).length K).length := by omega
          have NI := Lib.hid (fun i' (hi' : i' < i + 1) => (show ∀ j, j < (setsN (rw_ M 0).length K).length → ¬ okc M p q (rw_ (setsN M.length K) i') (rw_ (setsN (rw_ M 0).length K) j) from if e : i' = i then e ▸ NJ.out else NO.out i' (by omega)))
          clear hnj B
          obtain ⟨g, rfl⟩ : ∃ g, gi = g + 1 := ⟨gi - 1, by omega⟩
          go_wp2_with fail
          rw [Exit.noGoto_normal]
          go_wp2_with fail
          go_roundg g
          case rel => exact ⟨i + 1, by omega, by go_num, B2I.out, NI.out⟩
          case measure => omega
    · obtain rfl : i = (setsN M.length K).length := by omega
      go_wp2_with fail
      go_ret3
      exact ⟨bx_bel BXO.out, .inl ⟨rfl, hno⟩⟩

end Go.Proofs.Ytllonfaogbdbnaa
namespace Go.Proofs.Ytllonfaogbdbnaa
open Go.ChangeShapes Go.WideShapes Go.RowKit
open Cr
/-- a choice of so many rows keeps the bound -/
def hit (M : List (List Int)) (p q : Int) (K : Nat) : Prop := ∃ i j, i < (setsN M.length K).length ∧ j < (setsN (rw_ M 0).length K).length ∧ okc M p q (rw_ (setsN M.length K) i) (rw_ (setsN (rw_ M 0).length K) j)
/-- the smallest number of rows of such a choice -/
def few (M : List (List Int)) (p q : Int) (K : Nat) : Prop := hit M p q K ∧ ∀ k, k < K → ¬ hit M p q k
theorem few_one {M : List (List Int)} {p q : Int} {K L : Nat} (h : few M p q K) (k : few M p q L) : K = L := by
  rcases Nat.lt_trichotomy K L with e | e | e
  · exact absurd h.1 (k.2 K e)
  · exact e
  · exact absurd k.1 (h.2 L e)
theorem rk_pos {M : List (List Int)} {n m : Nat} (z : 0 < gv M n m 0 (-1)) : ∀ k, 0 < gv M n m (rk M n m k) (-1)
  | 0 => z
  | k + 1 => by
    unfold rk
    split
    · assumption
    · exact rk_pos z k
theorem rk_top {M : List (List Int)} {n m : Nat} : ∀ {k j : Nat}, rk M n m k < j → j ≤ k → ¬ 0 < gv M n m j (-1)
  | 0, j, h, h2 => by omega
  | k + 1, j, h, h2 => by
    unfold rk at h
    split at h
    · omega
    · rename_i ng
      by_cases e : j = k + 1
      · rw [e]; exact ng
      · exact rk_top h (by omega)
theorem mem_at {L : List (List Int)} {r : List Int} (h : r ∈ L) : ∃ i, i < L.length ∧ rw_ L i = r := by
  obtain ⟨i, hi, e⟩ := List.mem_iff_getElem.1 h
  exact ⟨i, hi, by rw [← e]; show L.getD i [] = _; simp [List.getD, hi]⟩
/-- with as many rows as the rank, a choice leaves nothing -/
theorem hit_rank {M : List (List Int)} (hv : vcode M = 0) {p q : Int} (p0 : 0 ≤ p) : ∃ K, K ≤ M.length ∧ K ≤ (rw_ M 0).length ∧ hit M p q K := by
  obtain ⟨n, m, s, n1, n6, m1, m6⟩ := sq_of hv
  obtain rfl : M.length = n := s.len
  obtain rfl : (rw_ M 0).length = m := rw_len s (by omega)
  obtain ⟨s1, s2⟩ := sd_le M.length (rw_ M 0).length
  have z := gv_zero (M := M) n6 m6
  have le := rk_le (M := M) (n := M.length) (m := (rw_ M 0).length) (sd M.length (rw_ M 0).length)
  have pos := rk_pos z (sd M.length (rw_ M 0).length)
  have top := fun j => rk_top (M := M) (n := M.length) (m := (rw_ M 0).length) (k := sd M.length (rw_ M 0).length) (j := j)
  generalize rk M M.length (rw_ M 0).length (sd M.length (rw_ M 0).length) = K at *
  refine ⟨K, by omega, by omega, ?_⟩
  rcases gv_at (M := M) (n := M.length) (m := (rw_ M 0).length) (q := K) with e | ⟨r, c, hr, hc, e⟩
  · omega
  · obtain ⟨i, hi, e1⟩ := mem_at hr
    obtain ⟨j, hj, e2⟩ := mem_at hc
    refine ⟨i, j, hi, hj, ?_⟩
    rw [e1, e2]
    have dz : detR M r c ≠ 0 := fun z => by rw [z] at e; rw [e] at pos; exact absurd pos (by decide)
    refine ⟨dz, fun x hx y hy => ?_⟩
    have b0 : absI (bord M r c x y) = 0 := by
      rcases bord_le n6 m6 hr hc hx hy with b | ⟨q1, q2, b⟩
      · rw [b]; rfl
      · have t := top (K + 1) (by omega) (by unfold sd; split <;> omega)
        have := absI_nn (bord M r c x y)
        omega
    have dp : 0 < absI (detR M r c) := by unfold absI; split <;> omega
    unfold abo
    rw [b0, abv_ratq dp (Int.le_refl _)]
    have := Int.mul_nonneg p0 (show 0 ≤ absI (detR M r c) by omega)
    simp; omega

end Go.Proofs.Ytllonfaogbdbnaa
namespace Go.Proofs.Ytllonfaogbdbnaa
open Go.ChangeShapes Go.WideShapes Go.RowKit
open Cr
theorem bnd_of {p q : Int} (h : bndB p q = true) : 0 ≤ p ∧ p ≤ 1000000 ∧ 1 ≤ q ∧ q ≤ 1000 := by
  unfold bndB at h
  simp only [Bool.and_eq_true] at h
  have a := inr_iff.1 h.1.1
  have b := inr_iff.1 h.1.2
  exact ⟨b.1, b.2, a.1, a.2⟩
theorem comp_v (A : Option Addr) (c : Nat) (M : List (List Int)) (p q : Int) (w : World) (hM : ML w A M) (ln : M.length ≤ 1000) (wd : ∀ i, i < M.length → (rw_ M i).length ≤ 1000) (hv : vcode M ≠ 0) : Calls Try.prog 22 #[.slice A M.length c, rtv (p, q)] w fun e w' => e = .returned (.tuple #[.slice none 0 0, .slice none 0 0, .int .i64 (vcode M)]) ∧ Below w.heap.size w w' := by
  have CV := Lib.hid (fun W (B : Below w.heap.size w W) => val6_any A c M W (ml_in hM B) ln wd)
  have X0 := Lib.hid (bx_new w p q)
  clear hM ln wd
  generalize vcode M = e at *
  have t1 : (e != 0) = true := by simp [hv]
  clear hv
  go_enter Try.func22, Try.ntmps22
  go_wp2_with fail
  with_reducible refine (CV.out _ (bx_bel X0.out)).mono ?_
  rintro e w2 ⟨rfl, rfl⟩
  go_wp2_with fail
  go_ret3
  exact ⟨rfl, bx_bel X0.out⟩
theorem comp_b (A : Option Addr) (c : Nat) (M : List (List Int)) (p q : Int) (w : World) (hM : ML w A M) (ln : M.length ≤ 1000) (wd : ∀ i, i < M.length → (rw_ M i).length ≤ 1000) (hv : vcode M = 0) (hb : bndB p q = false) : Calls Try.prog 22 #[.slice A M.length c, rtv (p, q)] w fun e w' => e = .returned (.tuple #[.slice none 0 0, .slice none 0 0, .int .i64 1]) ∧ Below w.heap.size w w' := by
  have CV := Lib.hid (fun W (B : Below w.heap.size w W) => val6_any A c M W (ml_in hM B) ln wd)
  have IB := Lib.hid (fun W => isb_any p q W)
  rw [hv] at CV
  rw [hb] at IB
  have X0 := Lib.hid (bx_new w p q)
  obtain ⟨x0, x1, _, x2⟩ := bx_s X0.out
  clear hM ln wd hv hb
  go_enter Try.func22, Try.ntmps22
  go_wp2_with fail
  with_reducible refine (CV.out _ (bx_bel X0.out)).mono ?_
  rintro e w2 ⟨rfl, rfl⟩
  go_wp2_with fail
  with_reducible refine (IB.out _).mono ?_
  rintro e w3 ⟨rfl, hb⟩
  have X3 := Lib.hid (bx_below X0.out hb)
  clear hb
  go_wp2_with fail
  go_ret3
  exact ⟨rfl, bx_bel X3.out⟩
set_option maxHeartbeats 2000000 in
theorem comp_ok (A : Option Addr) (c : Nat) (M : List (List Int)) (p q : Int) (w : World) (hM : ML w A M) (ln : M.length ≤ 1000) (wd : ∀ i, i < M.length → (rw_ M i).length ≤ 1000) (hv : vcode M = 0) (hb : bndB p q = true) : Calls Try.prog 22 #[.slice A M.length c, rtv (p, q)] w fun e w' => ∃ R cr E ce K i j, e = .returned (.tuple #[.slice R K cr, .slice E K ce, .int .i64 0]) ∧ Below w.heap.size w w' ∧ few M p q K ∧ K ≤ 6 ∧ i < (setsN M.length K).length ∧ j < (setsN (rw_ M 0).length K).length ∧ K ≤ cr ∧ K ≤ ce ∧ IL w' R (rw_ (setsN M.length K) i) ∧ IL w' E (rw_ (setsN (rw_ M 0).length K) j) ∧ okc M p q (rw_ (setsN M.length K) i) (rw_ (setsN (rw_ M 0).length K) j) := by
  have CV := Lib.hid (fun W (B : Below w.heap.size w W) => val6_any A c M W (ml_in hM B) ln wd)
  have IB := Lib.hid (fun W => isb_any p q W)
  obtain ⟨p0, p1, q0, q1⟩ := bnd_of hb
  have AC := Lib.hid (fun W (B : Below w.heap.size w W) K (hk : K ≤ 6) => accepted_any A c K M p q W (ml_in hM B) hv p0 p1 q0 q1 hk)
  obtain ⟨K0, k1, _, hK0⟩ := hit_rank hv (p := p) (q := q) p0
  have n6 : M.length ≤ 6 := by
    obtain ⟨n, m, s, _, n6, _, _⟩ := sq_of hv
    rw [s.len]; exact n6
  have k06 : K0 ≤ 6 := by omega
  have HK := Lib.hid hK0
  rw [hv] at CV
  rw [hb] at IB
  have X0 := Lib.hid (bx_new w p q)
  obtain ⟨x0, x1, _, x2⟩ := bx_s X0.out
  clear hM ln wd hv hb p0 p1 q0 q1 hK0 k1 n6
  go_enter Try.func22, Try.ntmps22
  go_wp2_with fail
  with_reducible refine (CV.out _ (bx_bel X0.out)).mono ?_
  rintro e w2 ⟨rfl, rfl⟩
  go_wp2_with fail
  with_reducible refine (IB.out _).mono ?_
  rintro e w3 ⟨rfl, hb⟩
  have X3 := Lib.hid (bx_below X0.out hb)
  clear hb
  go_wp2_with fail
  go_loopw [8] (fun kv wr => ∃ k : Nat, k ≤ K0 ∧ kv = .int .i64 (k : Int) ∧ BX w p q wr ∧ ∀ k', k' < k → ¬ hit M p q k') (fun kv _ => K0 - (intOf kv).toNat)
  case atStart => exact ⟨0, Nat.zero_le _, rfl, X3.out, fun _ h => absurd h (Nat.not_lt_zero _)⟩
  case round =>
    clear X3 x0 x1 x2
    obtain ⟨k, hk, rfl, hX, hno⟩ := hrel
    have HX := Lib.hid hX
    have NO := Lib.hid hno
    have kk : (k : Int) ≤ 6 := by omega
    have kk0 : 0 ≤ (k : Int) := by omega
    have ACk := Lib.hid (AC.out wr (bx_bel HX.out) k (by omega))
    obtain ⟨x0, x1, _, x2⟩ := bx_s HX.out
    clear hX hno
    go_wp2_with fail
    with_reducible refine ACk.out.mono ?_
    rintro e w5 ⟨hb, h⟩
    have X5 := Lib.hid (bx_below HX.out hb)
    clear hb x0 x1 x2
    rcases h with ⟨rfl, hn⟩ | ⟨R, cr, E, ce, i, j, rfl, h1, h2, h3, h4, h5, h6, h7⟩
    · have nh : ¬ hit M p q k := fun ⟨i, j, hi, hj, h⟩ => hn i hi j hj h
      have ne : k < K0 := by
        rcases Nat.lt_or_ge k K0 with l | l
        · exact l
        · exact absurd ((show k = K0 by omega) ▸ HK.out) nh
      have NI := Lib.hid (fun k' (hk' : k' < k + 1) => (show ¬ hit M p q k' from if e : k' = k then e ▸ nh else NO.out k' (by omega)))
      clear hn nh
      go_wp2_with fail
      go_roundw
      case rel => exact ⟨k + 1, by omega, by go_num, X5.out, NI.out⟩
      case measure => simp [intOf]; omega
    · have FW : few M p q k := ⟨⟨i, j, h1, h2, h7⟩, NO.out⟩
      have FWH := Lib.hid FW
      have H1 := Lib.hid h1
      have H2 := Lib.hid h2
      have H3 := Lib.hid h3
      have H4 := Lib.hid h4
      have H5 := Lib.hid h5
      have H6 := Lib.hid h6
      have H7 := Lib.hid h7
      clear FW h1 h2 h3 h4 h5 h6 h7
      go_wp2_with fail
      go_ret3
      exact ⟨R, cr, E, ce, k, i, j, rfl, bx_bel X5.out, FWH.out, by omega, H1.out, H2.out, H3.out, H4.out, H5.out, H6.out, H7.out⟩

end Go.Proofs.Ytllonfaogbdbnaa
namespace Go.Proofs.Ytllonfaogbdbnaa
open Go.ChangeShapes Go.WideShapes Go.RowKit
open Cr
theorem chk_okc {M : List (List Int)} {r c : List Int} {p q : Int} (kc : kcode M r c = 0) (hb : bndB p q = true) : chk M r c p q = 0 ↔ okc M p q r c := by
  obtain ⟨p0, _, q0, _⟩ := bnd_of hb
  unfold chk
  by_cases dz : detR M r c = 0
  · have dv : (dvz M r c).2 = 11 := by unfold dvz; rw [if_pos kc, if_pos dz]
    have ew : (wrs M r c).2 = 11 := by unfold wrs; rw [if_neg (by rw [dv]; decide)]; exact dv
    rw [if_neg (by rw [ew]; decide), ew]
    exact ⟨fun h => absurd h (by decide), fun h => absurd dz h.1⟩
  · have dv : (dvz M r c).2 = 0 := by unfold dvz; rw [if_pos kc, if_neg dz]
    have ew : wrs M r c = (ratq (wst M r c) (absI (detR M r c)), 0) := if_pos dv
    have aw := abo_w (M := M) (rows := r) (cols := c) (p := p) (q := q) dz p0 (by omega)
    rw [ew, if_pos rfl, if_pos hb]
    cases h : abvB (ratq (wst M r c) (absI (detR M r c))) (p, q) with
    | true =>
      rw [h] at aw
      obtain ⟨i, j, hi, hj, e⟩ := aw.2 rfl
      rw [if_pos rfl]
      exact ⟨fun h => absurd h (by decide), fun k => by have := k.2 i hi j hj; rw [e] at this; cases this⟩
    | false =>
      rw [h] at aw
      rw [if_neg (by decide)]
      refine ⟨fun _ => ⟨dz, fun i hi j hj => ?_⟩, fun _ => rfl⟩
      cases e : abo M r c p q i j with
      | false => rfl
      | true => exact absurd (aw.1 ⟨i, j, hi, hj, e⟩) (by decide)
def VQ (w : World) (x1 y1 : Nat) (R : Option Addr) (cr x3 y3 : Nat) (E : Option Addr) (ce k g : Nat) (p q : Int) (w1 : World) : Prop := w1.cell? ⟨x1, y1, none⟩ = some (.slice R k cr) ∧ w1.cell? ⟨x3, y3, none⟩ = some (.slice E k ce) ∧ w1.cell? ⟨g, 0, none⟩ = some (.int .i64 p) ∧ w1.cell? ⟨g, 1, none⟩ = some (.int .i64 q) ∧ Below w.heap.size w w1 ∧ x1 < w1.heap.size ∧ x3 < w1.heap.size ∧ g < w1.heap.size
theorem vq_s {w : World} {x1 y1 : Nat} {R : Option Addr} {cr x3 y3 : Nat} {E : Option Addr} {ce k g : Nat} {p q : Int} {w1 : World} (h : VQ w x1 y1 R cr x3 y3 E ce k g p q w1) : w1.cell? ⟨x1, y1, none⟩ = some (.slice R k cr) ∧ w1.cell? ⟨x3, y3, none⟩ = some (.slice E k ce) ∧ w1.cell? ⟨g, 0, none⟩ = some (.int .i64 p) ∧ w1.cell? ⟨g, 1, none⟩ = some (.int .i64 q) ∧ Below w.heap.size w w1 ∧ x1 < w1.heap.size ∧ x3 < w1.heap.size ∧ g < w1.heap.size := h
theorem vq_of {w : World} {x1 y1 : Nat} {R : Option Addr} {cr x3 y3 : Nat} {E : Option Addr} {ce k g : Nat} {p q : Int} {w1 : World} (h : w1.cell? ⟨x1, y1, none⟩ = some (.slice R k cr) ∧ w1.cell? ⟨x3, y3, none⟩ = some (.slice E k ce) ∧ w1.cell? ⟨g, 0, none⟩ = some (.int .i64 p) ∧ w1.cell? ⟨g, 1, none⟩ = some (.int .i64 q) ∧ Below w.heap.size w w1 ∧ x1 < w1.heap.size ∧ x3 < w1.heap.size ∧ g < w1.heap.size) : VQ w x1 y1 R cr x3 y3 E ce k g p q w1 := h
theorem vq_drew {w : World} {x1 y1 : Nat} {R : Option Addr} {cr x3 y3 : Nat} {E : Option Addr} {ce k g : Nat} {p q : Int} {w1 : World} (h : VQ w x1 y1 R cr x3 y3 E ce k g p q w1) : VQ w x1 y1 R cr x3 y3 E ce k g p q w1.drew := by
  obtain ⟨h0, h1, h2, h3, hB, b0, b1, b2⟩ := h
  exact ⟨h0, h1, h2, h3, Below.drew hB, b0, b1, b2⟩
theorem vq_drewN {w : World} {x1 y1 : Nat} {R : Option Addr} {cr x3 y3 : Nat} {E : Option Addr} {ce k g : Nat} {p q : Int} {w1 : World} (h : VQ w x1 y1 R cr x3 y3 E ce k g p q w1) (kk : Nat) : VQ w x1 y1 R cr x3 y3 E ce k g p q (w1.drewN kk) := by
  obtain ⟨h0, h1, h2, h3, hB, b0, b1, b2⟩ := h
  exact ⟨h0, h1, h2, h3, bdrewN hB kk, b0, b1, b2⟩
theorem vq_bel {w : World} {x1 y1 : Nat} {R : Option Addr} {cr x3 y3 : Nat} {E : Option Addr} {ce k g : Nat} {p q : Int} {w1 : World} (h : VQ w x1 y1 R cr x3 y3 E ce k g p q w1) : Below w.heap.size w w1 := by
  obtain ⟨h0, h1, h2, h3, hB, b0, b1, b2⟩ := h
  exact hB
theorem vq_below {w : World} {x1 y1 : Nat} {R : Option Addr} {cr x3 y3 : Nat} {E : Option Addr} {ce k g : Nat} {p q : Int} {w1 w2 : World} (h : VQ w x1 y1 R cr x3 y3 E ce k g p q w1) (hb : Below w1.heap.size w1 w2) : VQ w x1 y1 R cr x3 y3 E ce k g p q w2 := by
  obtain ⟨h0, h1, h2, h3, hB, b0, b1, b2⟩ := h
  exact ⟨(hb.cell (p := ⟨x1, y1, none⟩) b0).trans h0, (hb.cell (p := ⟨x3, y3, none⟩) b1).trans h1, (hb.cell (p := ⟨g, 0, none⟩) b2).trans h2, (hb.cell (p := ⟨g, 1, none⟩) b2).trans h3, bstep hB hb, Nat.lt_of_lt_of_le b0 hb.size, Nat.lt_of_lt_of_le b1 hb.size, Nat.lt_of_lt_of_le b2 hb.size⟩
end Go.Proofs.Ytllonfaogbdbnaa
namespace Go.Proofs.Ytllonfaogbdbnaa
open Go.ChangeShapes Go.WideShapes Go.RowKit
open Cr
theorem comp_all (A : Option Addr) (c : Nat) (M : List (List Int)) (p q : Int) (w : World) (hM : ML w A M) (ln : M.length ≤ 1000) (wd : ∀ i, i < M.length → (rw_ M i).length ≤ 1000) :
    Calls Try.prog 22 #[.slice A M.length c, rtv (p, q)] w fun e w' => ∃ R' K cr' E' K2 ce' e', e = .returned (.tuple #[.slice R' K cr', .slice E' K2 ce', .int .i64 e']) ∧ Below w.heap.size w w' ∧
      (e' = 0 → ∀ W, Below w'.heap.size w' W → Calls Try.prog 23 #[.slice A M.length c, .slice R' K cr', .slice E' K2 ce', rtv (p, q)] W fun e w2 => e = .returned (.int .i64 0) ∧ Below W.heap.size W w2) := by
  by_cases hv : vcode M = 0
  · cases hb : bndB p q with
    | false =>
      refine (comp_b A c M p q w hM ln wd hv hb).mono ?_
      rintro e w' ⟨rfl, h⟩
      exact ⟨_, _, _, _, _, _, _, rfl, h, fun e => absurd e (by decide)⟩
    | true =>
      obtain ⟨n, m, s, n1, n6, m1, m6⟩ := sq_of hv
      obtain rfl : M.length = n := s.len
      obtain rfl : (rw_ M 0).length = m := rw_len s (by omega)
      refine (comp_ok A c M p q w hM ln wd hv hb).mono ?_
      rintro e w' ⟨R', cr', E', ce', K, i, j, rfl, hB, hf, k6, h1, h2, h3, h4, i1, i2, ok⟩
      refine ⟨R', K, cr', E', K, ce', 0, rfl, hB, fun _ W B => ?_⟩
      have h := checkP_any A R' E' c cr' ce' M (rw_ (setsN M.length K) i) (rw_ (setsN (rw_ M 0).length K) j) p q W ⟨ml_in (ml_in hM hB) B, ln, wd, il_in i1 B, il_in i2 B, by rw [(sets_under n6 h1).2]; omega, by rw [(sets_under m6 h2).2]; omega⟩
      rw [(chk_okc (kc_sets hv n6 m6 (rw_mem6 h1) (rw_mem6 h2)) hb).2 ok, (sets_under n6 h1).2, (sets_under m6 h2).2] at h
      exact h
  · refine (comp_v A c M p q w hM ln wd hv).mono ?_
    rintro e w' ⟨rfl, h⟩
    exact ⟨_, _, _, _, _, _, _, rfl, h, fun e => absurd e hv⟩
/-- the sanity check's matrix and choice, behind two blocks -/
theorem kn_arg2 (w : World) (o1 o2 : Obj) : Arg (((((((w.alloc o1).alloc o2).alloc (.cells #[.int .i64 2, .int .i64 1] 3)).alloc (.cells #[.int .i64 1, .int .i64 1] 3)).alloc (.cells #[.slice (some ⟨w.heap.size + 2, 0, none⟩) 2 2, .slice (some ⟨w.heap.size + 3, 0, none⟩) 2 2] 37)).alloc (.cells #[.int .i64 0, .int .i64 1] 3)).alloc (.cells #[.int .i64 0, .int .i64 1] 3))
    (some ⟨w.heap.size + 4, 0, none⟩) [[2, 1], [1, 1]] (some ⟨w.heap.size + 5, 0, none⟩) (some ⟨w.heap.size + 6, 0, none⟩) [0, 1] [0, 1] := by
  refine ⟨fun i hi => ?_, by decide, by decide, fun k hk => ?_, fun k hk => ?_, by decide, by decide⟩
  · match i, hi with
    | 0, _ => exact ⟨w.heap.size + 4, 0, some ⟨w.heap.size + 2, 0, none⟩, 2, rfl, by simp, by go_simp; rfl, by decide, fun k hk => match k, hk with
      | 0, _ => ⟨w.heap.size + 2, 0, rfl, by simp <;> omega, by go_simp; rfl⟩
      | 1, _ => ⟨w.heap.size + 2, 0, rfl, by simp <;> omega, by go_simp; rfl⟩⟩
    | 1, _ => exact ⟨w.heap.size + 4, 0, some ⟨w.heap.size + 3, 0, none⟩, 2, rfl, by simp, by go_simp; rfl, by decide, fun k hk => match k, hk with
      | 0, _ => ⟨w.heap.size + 3, 0, rfl, by simp <;> omega, by go_simp; rfl⟩
      | 1, _ => ⟨w.heap.size + 3, 0, rfl, by simp <;> omega, by go_simp; rfl⟩⟩
  · match k, hk with
    | 0, _ => exact ⟨w.heap.size + 5, 0, rfl, by simp <;> omega, by go_simp; rfl⟩
    | 1, _ => exact ⟨w.heap.size + 5, 0, rfl, by simp <;> omega, by go_simp; rfl⟩
  · match k, hk with
    | 0, _ => exact ⟨w.heap.size + 6, 0, rfl, by simp <;> omega, by go_simp; rfl⟩
    | 1, _ => exact ⟨w.heap.size + 6, 0, rfl, by simp <;> omega, by go_simp; rfl⟩
theorem kn_mnr : mnr [[2, 1], [1, 1]] [0, 1] [0, 1] = (1, 0) := by decide +kernel
theorem mnr_0 {M : List (List Int)} {rows cols : List Int} (h : kcode M rows cols = 0) : mnr M rows cols = (detR M rows cols, 0) := if_pos h
theorem mnr_1 {M : List (List Int)} {rows cols : List Int} (h : kcode M rows cols ≠ 0) : mnr M rows cols = (0, kcode M rows cols) := if_neg h
theorem resd_0 {M : List (List Int)} {rows cols : List Int} (k : kcode M rows cols = 0) (dz : detR M rows cols ≠ 0) {i j : Nat} (hi : i < M.length) (hj : j < (rw_ M 0).length) : resd M rows cols i j = (ratq (bord M rows cols i j) (detR M rows cols), 0) := by
  have z : (dvz M rows cols).2 = 0 := by unfold dvz; rw [if_pos k, if_neg dz]
  unfold resd
  rw [if_pos z, inr_iff.2 (show 0 ≤ (i : Int) ∧ (i : Int) ≤ M.length - 1 by omega), inr_iff.2 (show 0 ≤ (j : Int) ∧ (j : Int) ≤ (rw_ M 0).length - 1 by omega)]
  rfl
def TS (w : World) (R : Option Addr) (k cr : Nat) (C : Option Addr) (l cc : Nat) (X : Option Addr) (m cx : Nat) (p q : Int) (w1 : World) : Prop := w1.cell? ⟨w.heap.size, 0, none⟩ = some (.slice R k cr) ∧ w1.cell? ⟨w.heap.size, 1, none⟩ = some (.slice C l cc) ∧ w1.cell? ⟨w.heap.size, 2, none⟩ = some (.slice X m cx) ∧ w1.cell? ⟨(w.heap.size + 1), 0, none⟩ = some (.int .i64 p) ∧ w1.cell? ⟨(w.heap.size + 1), 1, none⟩ = some (.int .i64 q) ∧ Below w.heap.size w w1 ∧ w.heap.size < w1.heap.size ∧ (w.heap.size + 1) < w1.heap.size
theorem ts_s {w : World} {R : Option Addr} {k cr : Nat} {C : Option Addr} {l cc : Nat} {X : Option Addr} {m cx : Nat} {p q : Int} {w1 : World} (h : TS w R k cr C l cc X m cx p q w1) : w1.cell? ⟨w.heap.size, 0, none⟩ = some (.slice R k cr) ∧ w1.cell? ⟨w.heap.size, 1, none⟩ = some (.slice C l cc) ∧ w1.cell? ⟨w.heap.size, 2, none⟩ = some (.slice X m cx) ∧ w1.cell? ⟨(w.heap.size + 1), 0, none⟩ = some (.int .i64 p) ∧ w1.cell? ⟨(w.heap.size + 1), 1, none⟩ = some (.int .i64 q) ∧ Below w.heap.size w w1 ∧ w.heap.size < w1.heap.size ∧ (w.heap.size + 1) < w1.heap.size := h
theorem ts_of {w : World} {R : Option Addr} {k cr : Nat} {C : Option Addr} {l cc : Nat} {X : Option Addr} {m cx : Nat} {p q : Int} {w1 : World} (h : w1.cell? ⟨w.heap.size, 0, none⟩ = some (.slice R k cr) ∧ w1.cell? ⟨w.heap.size, 1, none⟩ = some (.slice C l cc) ∧ w1.cell? ⟨w.heap.size, 2, none⟩ = some (.slice X m cx) ∧ w1.cell? ⟨(w.heap.size + 1), 0, none⟩ = some (.int .i64 p) ∧ w1.cell? ⟨(w.heap.size + 1), 1, none⟩ = some (.int .i64 q) ∧ Below w.heap.size w w1 ∧ w.heap.size < w1.heap.size ∧ (w.heap.size + 1) < w1.heap.size) : TS w R k cr C l cc X m cx p q w1 := h
theorem ts_drew {w : World} {R : Option Addr} {k cr : Nat} {C : Option Addr} {l cc : Nat} {X : Option Addr} {m cx : Nat} {p q : Int} {w1 : World} (h : TS w R k cr C l cc X m cx p q w1) : TS w R k cr C l cc X m cx p q w1.drew := by
  obtain ⟨h0, h1, h2, h3, h4, hB, b0, b1⟩ := h
  exact ⟨h0, h1, h2, h3, h4, Below.drew hB, b0, b1⟩
theorem ts_drewN {w : World} {R : Option Addr} {k cr : Nat} {C : Option Addr} {l cc : Nat} {X : Option Addr} {m cx : Nat} {p q : Int} {w1 : World} (h : TS w R k cr C l cc X m cx p q w1) (kk : Nat) : TS w R k cr C l cc X m cx p q (w1.drewN kk) := by
  obtain ⟨h0, h1, h2, h3, h4, hB, b0, b1⟩ := h
  exact ⟨h0, h1, h2, h3, h4, bdrewN hB kk, b0, b1⟩
theorem ts_bel {w : World} {R : Option Addr} {k cr : Nat} {C : Option Addr} {l cc : Nat} {X : Option Addr} {m cx : Nat} {p q : Int} {w1 : World} (h : TS w R k cr C l cc X m cx p q w1) : Below w.heap.size w w1 := by
  obtain ⟨h0, h1, h2, h3, h4, hB, b0, b1⟩ := h
  exact hB
theorem ts_below {w : World} {R : Option Addr} {k cr : Nat} {C : Option Addr} {l cc : Nat} {X : Option Addr} {m cx : Nat} {p q : Int} {w1 w2 : World} (h : TS w R k cr C l cc X m cx p q w1) (hb : Below w1.heap.size w1 w2) : TS w R k cr C l cc X m cx p q w2 := by
  obtain ⟨h0, h1, h2, h3, h4, hB, b0, b1⟩ := h
  exact ⟨(hb.cell (p := ⟨w.heap.size, 0, none⟩) b0).trans h0, (hb.cell (p := ⟨w.heap.size, 1, none⟩) b0).trans h1, (hb.cell (p := ⟨w.heap.size, 2, none⟩) b0).trans h2, (hb.cell (p := ⟨(w.heap.size + 1), 0, none⟩) b1).trans h3, (hb.cell (p := ⟨(w.heap.size + 1), 1, none⟩) b1).trans h4, bstep hB hb, Nat.lt_of_lt_of_le b0 hb.size, Nat.lt_of_lt_of_le b1 hb.size⟩
theorem ts_new (w : World) (R : Option Addr) (k cr : Nat) (C : Option Addr) (l cc : Nat) (X : Option Addr) (m cx : Nat) (p q : Int) : TS w R k cr C l cc X m cx p q ((w.alloc (.cells #[.slice R k cr, .slice C l cc, .slice X m cx] 54)).alloc (rtc (p, q))) := ⟨by go_simp, by go_simp, by go_simp, by go_simp, by go_simp, balloc (balloc (Below.refl _ _) _) _, by simp <;> omega, by simp⟩
def PX (w : World) (b o : Nat) (y : Int) (b2 o2 : Nat) (z1 z2 : Int) (w1 : World) : Prop := w1.cell? ⟨b, o, none⟩ = some (.int .i64 y) ∧ w1.cell? ⟨b2, o2, none⟩ = some (.int .i64 z1) ∧ w1.cell? ⟨b2, (o2 + 1), none⟩ = some (.int .i64 z2) ∧ Below w.heap.size w w1 ∧ b < w1.heap.size ∧ b2 < w1.heap.size
theorem px_s {w : World} {b o : Nat} {y : Int} {b2 o2 : Nat} {z1 z2 : Int} {w1 : World} (h : PX w b o y b2 o2 z1 z2 w1) : w1.cell? ⟨b, o, none⟩ = some (.int .i64 y) ∧ w1.cell? ⟨b2, o2, none⟩ = some (.int .i64 z1) ∧ w1.cell? ⟨b2, (o2 + 1), none⟩ = some (.int .i64 z2) ∧ Below w.heap.size w w1 ∧ b < w1.heap.size ∧ b2 < w1.heap.size := h
theorem px_of {w : World} {b o : Nat} {y : Int} {b2 o2 : Nat} {z1 z2 : Int} {w1 : World} (h : w1.cell? ⟨b, o, none⟩ = some (.int .i64 y) ∧ w1.cell? ⟨b2, o2, none⟩ = some (.int .i64 z1) ∧ w1.cell? ⟨b2, (o2 + 1), none⟩ = some (.int .i64 z2) ∧ Below w.heap.size w w1 ∧ b < w1.heap.size ∧ b2 < w1.heap.size) : PX w b o y b2 o2 z1 z2 w1 := h
theorem px_drew {w : World} {b o : Nat} {y : Int} {b2 o2 : Nat} {z1 z2 : Int} {w1 : World} (h : PX w b o y b2 o2 z1 z2 w1) : PX w b o y b2 o2 z1 z2 w1.drew := by
  obtain ⟨h0, h1, h2, hB, b0, b1⟩ := h
  exact ⟨h0, h1, h2, Below.drew hB, b0, b1⟩
theorem px_drewN {w : World} {b o : Nat} {y : Int} {b2 o2 : Nat} {z1 z2 : Int} {w1 : World} (h : PX w b o y b2 o2 z1 z2 w1) (kk : Nat) : PX w b o y b2 o2 z1 z2 (w1.drewN kk) := by
  obtain ⟨h0, h1, h2, hB, b0, b1⟩ := h
  exact ⟨h0, h1, h2, bdrewN hB kk, b0, b1⟩
theorem px_bel {w : World} {b o : Nat} {y : Int} {b2 o2 : Nat} {z1 z2 : Int} {w1 : World} (h : PX w b o y b2 o2 z1 z2 w1) : Below w.heap.size w w1 := by
  obtain ⟨h0, h1, h2, hB, b0, b1⟩ := h
  exact hB
theorem px_below {w : World} {b o : Nat} {y : Int} {b2 o2 : Nat} {z1 z2 : Int} {w1 w2 : World} (h : PX w b o y b2 o2 z1 z2 w1) (hb : Below w1.heap.size w1 w2) : PX w b o y b2 o2 z1 z2 w2 := by
  obtain ⟨h0, h1, h2, hB, b0, b1⟩ := h
  exact ⟨(hb.cell (p := ⟨b, o, none⟩) b0).trans h0, (hb.cell (p := ⟨b2, o2, none⟩) b1).trans h1, (hb.cell (p := ⟨b2, (o2 + 1), none⟩) b1).trans h2, bstep hB hb, Nat.lt_of_lt_of_le b0 hb.size, Nat.lt_of_lt_of_le b1 hb.size⟩

end Go.Proofs.Ytllonfaogbdbnaa
namespace Go.Proofs.Ytllonfaogbdbnaa
open Go.ChangeShapes Go.WideShapes Go.RowKit
open Cr
theorem tdiv_bd {n d B : Int} (h : -B ≤ n ∧ n ≤ B) : -B ≤ n.tdiv d ∧ n.tdiv d ≤ B := by
  have h1 : (n.tdiv d).natAbs = n.natAbs / d.natAbs := Int.natAbs_tdiv n d
  have h2 := Nat.div_le_self n.natAbs d.natAbs
  omega

theorem lon_all (A : Option Addr) (c : Nat) (l : List Int) (n N : Int) (w : World) (h : IL w A l) (hl : l.length ≤ 1000) (hs : setB l N = true) :
    Calls Try.prog 27 #[.slice A l.length c, .int .i64 n] w fun e w' => ∃ A' n' c', e = .returned (.tuple #[.slice A' n' c', .bool (!l.contains n)]) ∧ Below w.heap.size w w' ∧ (l.contains n = false → ∃ p, Plc l n p ∧ n' = l.length + 1 ∧ IL w' A' (insI l p n)) := by
  cases hc : l.contains n with
  | true =>
    obtain ⟨p, h1, h2, h3⟩ := set_found hs hc
    refine (longer_has A c l n p w h hl h1 h2 h3).mono ?_
    rintro e w' ⟨rfl, hb⟩
    exact ⟨_, _, _, rfl, hb, fun e => by cases e⟩
  | false =>
    obtain ⟨p, hp⟩ := set_place hs hc
    refine (longer_any A c l n p w h hl hp).mono ?_
    rintro e w' ⟨A', c', rfl, h1, _, hb⟩
    exact ⟨_, _, _, rfl, hb, fun _ => ⟨p, hp, rfl, h1⟩⟩
theorem min_all (A : Option Addr) (c : Nat) (M : List (List Int)) (rows cols : List Int) (i j : Nat) (w : World) (A4 : Option Addr) (n4 c4 : Nat) (A5 : Option Addr) (n5 c5 : Nat) {R C : Option Addr} (h : Arg w A M R C rows cols) (kc : kcode M rows cols = 0) (c1 : rows.contains (i : Int) = false) (c2 : cols.contains (j : Int) = false) (hi : i < M.length) (hj : j < (rw_ M 0).length)
    (g4 : ∃ p, Plc rows (i : Int) p ∧ n4 = rows.length + 1 ∧ IL w A4 (insI rows p (i : Int))) (g5 : ∃ p, Plc cols (j : Int) p ∧ n5 = cols.length + 1 ∧ IL w A5 (insI cols p (j : Int))) :
    ∃ v, (Calls Try.prog 21 #[.slice A M.length c, .slice A4 n4 c4, .slice A5 n5 c5] w fun e w' => e = .returned (.tuple #[.int .i64 v, .int .i64 0]) ∧ Below w.heap.size w w') ∧ (v = 0 ↔ bord M rows cols (i : Int) (j : Int) = 0) := by
  obtain ⟨p, p1, rfl, p2⟩ := g4
  obtain ⟨q, q1, rfl, q2⟩ := g5
  obtain ⟨hv, hc⟩ := kcode_cases kc
  obtain ⟨ur, uc, hl⟩ := ch_under kc
  unfold chB at hc
  simp only [Bool.and_eq_true, decide_eq_true_eq] at hc
  have s1 := insI_set hc.1.2 p1 (n := (i : Int)) (by omega)
  have s2 := insI_set hc.2 q1 (n := (j : Int)) (by omega)
  have e1 := insI_len (n := (i : Int)) p1.le
  have e2 := insI_len (n := (j : Int)) q1.le
  have k2 : kcode M (insI rows p i) (insI cols q j) = 0 := kcode_good hv (chB_4 (by rw [e1, e2, hl]) s1 s2)
  have t := minorP_any A A4 A5 c c4 c5 M (insI rows p i) (insI cols q j) w ⟨h.mat, h.len, h.wid, p2, q2, by rw [e1]; have := (under_of hc.1.2).2; obtain ⟨n', m', sq, _, n6, _, _⟩ := sq_of hv; have := sq.len; omega, by rw [e2]; have := (under_of hc.1.2).2; obtain ⟨n', m', sq, _, n6, _, _⟩ := sq_of hv; have := sq.len; omega⟩
  rw [mnr_0 k2, e1, e2] at t
  refine ⟨_, t, ?_⟩
  have b := bord_ins (i := (i : Int)) (j := (j : Int)) hl c1 c2 p1.le q1.le (M := M)
  constructor
  · intro e
    have e : detR M (insI rows p (i : Int)) (insI cols q (j : Int)) = 0 := e
    rw [e] at b
    exact absI_z b
  · intro e
    rw [e] at b
    exact absI_z b.symm

end Go.Proofs.Ytllonfaogbdbnaa
