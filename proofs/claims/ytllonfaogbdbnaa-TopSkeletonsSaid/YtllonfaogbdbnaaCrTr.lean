/-
  The transposed matrix: its errors, determinants and residuals; the contract of Transpose.
-/
import Derived.Test.YtllonfaogbdbnaaCr23
import Derived.Test.YtllonfaogbdbnaaCrT
namespace Go.Proofs.Ytllonfaogbdbnaa
open Go.ChangeShapes Go.WideShapes Go.RowKit
open Cr
/-- the columns as rows -/
def tr (M : List (List Int)) : List (List Int) := (List.range (rw_ M 0).length).map fun j => (List.range M.length).map fun i => at_ (rw_ M i) j
theorem tr_len (M : List (List Int)) : (tr M).length = (rw_ M 0).length := by unfold tr; simp
theorem tr_row (M : List (List Int)) {j : Nat} (hj : j < (rw_ M 0).length) : rw_ (tr M) j = (List.range M.length).map fun i => at_ (rw_ M i) j := by
  show ((List.range (rw_ M 0).length).map fun j => (List.range M.length).map fun i => at_ (rw_ M i) j).getD j [] = _
  rw [List.getD_eq_getElem?_getD, List.getElem?_map, List.getElem?_range hj]
  rfl
theorem tr_rlen (M : List (List Int)) {j : Nat} (hj : j < (rw_ M 0).length) : (rw_ (tr M) j).length = M.length := by rw [tr_row M hj]; simp
theorem tr_at (M : List (List Int)) {i j : Nat} (hi : i < M.length) (hj : j < (rw_ M 0).length) : at_ (rw_ (tr M) j) i = at_ (rw_ M i) j := by
  rw [tr_row M hj]; unfold at_; simp [List.getD, hi]
theorem tr_ent (M : List (List Int)) {i j : Int} (hi : 0 ≤ i ∧ i < M.length) (hj : 0 ≤ j ∧ j < (rw_ M 0).length) : ent (tr M) j i = ent M i j := tr_at M (i := i.toNat) (j := j.toNat) (by omega) (by omega)
theorem tr_sq {n m : Nat} {M : List (List Int)} (q : Sq n m M) (h : 0 < n) : Sq m n (tr M) := by
  have hm : (rw_ M 0).length = m := rw_len q h
  have hn := q.len
  refine ⟨by rw [tr_len, hm], fun r hr => ?_, fun r hr x hx => ?_⟩
  · unfold tr at hr
    obtain ⟨j, _, rfl⟩ := List.mem_map.1 hr
    simp [hn]
  · unfold tr at hr
    obtain ⟨j, hj, rfl⟩ := List.mem_map.1 hr
    obtain ⟨i, hi, rfl⟩ := List.mem_map.1 hx
    exact q.at (by have := List.mem_range.1 hi; omega) (by have := List.mem_range.1 hj; omega)
theorem vcode_sq {n m : Nat} {M : List (List Int)} (q : Sq n m M) (h1 : 1 ≤ n) (h2 : n ≤ 6) (h3 : 1 ≤ m) (h4 : m ≤ 6) : vcode M = 0 := by
  have hn := q.len
  refine vcode_good (inr_iff.2 (by omega)) (rowsB_good fun k hk => ?_)
  have l := rw_len q (i := k) (by omega)
  refine rowB_4 (by rw [l, rw_len q (by omega)]) (inr_iff.2 (by omega)) (allB_good fun a ha => inr_iff.2 ?_)
  exact q.at (by omega) (by omega)
theorem tr_vcode {M : List (List Int)} (h : vcode M = 0) : vcode (tr M) = 0 := by
  obtain ⟨n, m, q, h1, h2, h3, h4⟩ := sq_of h
  exact vcode_sq (tr_sq q (by omega)) h3 h4 h1 h2
theorem tr_zero {M : List (List Int)} (h : vcode M = 0) : (rw_ (tr M) 0).length = M.length := by
  obtain ⟨n, m, q, h1, h2, h3, h4⟩ := sq_of h
  exact tr_rlen M (by rw [rw_len q (by omega)]; omega)
theorem under_mem {l : List Int} {n : Nat} (h : Under l n) {x : Int} (hx : x ∈ l) : 0 ≤ x ∧ x < n := by
  obtain ⟨k, hk, rfl⟩ := List.getElem_of_mem hx
  have := h k hk
  have e : at_ l k = l[k] := by unfold at_; simp [List.getD, hk]
  rw [e] at this
  exact this
theorem tr_det {M : List (List Int)} {rows cols : List Int} (ur : Under rows M.length) (uc : Under cols (rw_ M 0).length) (hl : cols.length = rows.length) : detR (tr M) cols rows = detR M rows cols := by
  rw [detR_D, detR_D, ← D_trans (ent M) rows.length rows cols rfl hl]
  exact D_congr _ _ fun j hj k hk => tr_ent M (ur k hk) (under_mem uc hj)
theorem tr_chB {M : List (List Int)} (h : vcode M = 0) (rows cols : List Int) : chB (tr M) cols rows = chB M rows cols := by
  unfold chB
  rw [tr_len, tr_zero h, show decide (cols.length = rows.length) = decide (rows.length = cols.length) by simp only [eq_comm]]
  cases decide (rows.length = cols.length) <;> cases setB rows M.length <;> cases setB cols (rw_ M 0).length <;> rfl
theorem tr_kcode {M : List (List Int)} (h : vcode M = 0) (rows cols : List Int) : kcode (tr M) cols rows = kcode M rows cols := by
  unfold kcode
  rw [if_pos h, if_pos (tr_vcode h), tr_chB h]
theorem ch_under {M : List (List Int)} {rows cols : List Int} (h : kcode M rows cols = 0) : Under rows M.length ∧ Under cols (rw_ M 0).length ∧ cols.length = rows.length := by
  obtain ⟨_, hc⟩ := kcode_cases h
  unfold chB at hc
  simp only [Bool.and_eq_true, decide_eq_true_eq] at hc
  exact ⟨(under_of hc.1.2).1, (under_of hc.2).1, hc.1.1.symm⟩
theorem tr_dvz {M : List (List Int)} (h : vcode M = 0) (rows cols : List Int) : dvz (tr M) cols rows = dvz M rows cols := by
  unfold dvz
  rw [tr_kcode h]
  by_cases k : kcode M rows cols = 0
  · obtain ⟨ur, uc, hl⟩ := ch_under k
    rw [if_pos k, if_pos k, tr_det ur uc hl]
  · rw [if_neg k, if_neg k]
theorem tr_bord {M : List (List Int)} {rows cols : List Int} (k : kcode M rows cols = 0) {i j : Int} (hi : 0 ≤ i ∧ i < M.length) (hj : 0 ≤ j ∧ j < (rw_ M 0).length) : bord (tr M) cols rows j i = bord M rows cols i j := by
  obtain ⟨ur, uc, hl⟩ := ch_under k
  unfold bord
  rw [tr_det (under_app ur hi) (under_app uc hj) (by rw [List.length_append, List.length_append, hl]; rfl), Bool.or_comm]
theorem tr_resd {M : List (List Int)} (h : vcode M = 0) (rows cols : List Int) (i j : Int) : resd (tr M) cols rows j i = resd M rows cols i j := by
  unfold resd
  rw [tr_dvz h, tr_len, tr_zero h]
  by_cases z : (dvz M rows cols).2 = 0
  · obtain ⟨k, _, _⟩ := dvz_ok z
    obtain ⟨ur, uc, hl⟩ := ch_under k
    rw [if_pos z, if_pos z, Bool.and_comm]
    cases e : (inr i 0 (M.length - 1) && inr j 0 ((rw_ M 0).length - 1)) with
    | false => rfl
    | true =>
      simp only [Bool.and_eq_true] at e
      have e1 := inr_iff.1 e.1
      have e2 := inr_iff.1 e.2
      rw [tr_bord k (by omega) (by omega), tr_det ur uc hl]
  · rw [if_neg z, if_neg z]
/-- what holds while the columns are collected; L: how many numbers of each are there, T: their own values -/
structure Tn (w wi : World) (S : List (List Int)) (L : Nat → Nat) (T : Nat → Value) : Prop where
  bel : Below w.heap.size w wi
  lt : w.heap.size < wi.heap.size
  top : wi.rowIs w.heap.size 37 S.length T
  own : ∀ i, i < S.length → OI wi (w.heap.size + 1) (T i) ((rw_ S i).take (L i))
  ne : ∀ i j, i < S.length → j < S.length → i ≠ j → (T i).ownBlock = none ∨ (T i).ownBlock ≠ (T j).ownBlock
theorem tn_start (w : World) (S : List (List Int)) : Tn w (w.alloc (.cells (madeCells #[.slice none 0 0] S.length) 37)) S (fun _ => 0) (fun _ => .slice none 0 0) :=
  ⟨balloc (Below.refl _ _) _, by simp, World.rowIs_made w _ S.length 37, fun i _ => by rw [List.take_zero]; exact oi_nil _ _, fun _ _ _ _ _ => .inl rfl⟩
theorem tn_step {w wi w2 : World} {S : List (List Int)} {j : Nat} {L : Nat → Nat} {T : Nat → Value} (h : Tn w wi S L T) (o : Obj) (hj : j < S.length) (hl : L j < (rw_ S j).length) {v' : Value}
    (hown : OI w2 (w.heap.size + 1) v' ((rw_ S j).take (L j) ++ [at_ (rw_ S j) (L j)])) (hgr : (wi.alloc o).grownBy w2 (T j).ownBlock) (hob : v'.ownBlock = (T j).ownBlock ∨ v'.ownBlock = some (wi.alloc o).heap.size) :
    Tn w (w2.setCell ⟨w.heap.size, j, none⟩ v') S (fun i => if i = j then L j + 1 else L i) (fun i => if i = j then v' else T i) := by
  have hsz : (wi.alloc o).heap.size = wi.heap.size + 1 := by simp
  have hlt := h.lt
  have cur := h.own j hj
  have hN : w2.heap[w.heap.size]? = (wi.alloc o).heap[w.heap.size]? := hgr.block _ (by omega) (fun e => oi_far cur (Nat.lt_succ_self w.heap.size) e.symm)
  have hs2 := hgr.size
  refine ⟨?_, by simp; omega, ((h.top.alloc o).of_block hN).set j v', fun i hi => ?_, fun i k hi hk hik => ?_⟩
  · refine Below.setCell (below_grown (balloc h.bel o) hgr (by omega) fun g hg => ?_) (Nat.le_refl _) _
    have := (cur.lt g hg).1
    omega
  · by_cases e : i = j
    · subst e
      rw [if_pos rfl, if_pos rfl]
      have e : (rw_ S i).take (L i + 1) = (rw_ S i).take (L i) ++ [at_ (rw_ S i) (L i)] := by
        rw [List.take_succ_eq_append_getElem hl]
        unfold at_
        simp [List.getD, hl]
      rw [e]
      exact oi_set hown (oi_far hown (Nat.lt_succ_self _)) _
    · rw [if_neg e, if_neg e]
      exact oi_set (World.ownsRow.kept (World.ownsRow.alloc (h.own i hi) o) hgr (h.ne i j hi hj e)) (oi_far (h.own i hi) (Nat.lt_succ_self _)) _
  · have fresh : ∀ a, a < S.length → (T a).ownBlock ≠ some (wi.alloc o).heap.size := fun a ha e2 => by
      have := ((h.own a ha).lt _ e2).2
      omega
    show (if i = j then v' else T i).ownBlock = none ∨ (if i = j then v' else T i).ownBlock ≠ (if k = j then v' else T k).ownBlock
    by_cases e : i = j
    · subst e
      rw [if_pos rfl, if_neg (fun e => hik e.symm)]
      rcases hob with e' | e'
      · rw [e']; exact h.ne i k hi hk hik
      · exact .inr (by rw [e']; exact fun e2 => fresh k hk e2.symm)
    · rw [if_neg e]
      by_cases e3 : k = j
      · subst e3
        rw [if_pos rfl]
        rcases h.ne i k hi hk hik with e4 | e4
        · exact .inl e4
        · rcases hob with e' | e'
          · exact .inr (by rw [e']; exact e4)
          · exact .inr (by rw [e']; exact fresh i hi)
      · rw [if_neg e3]; exact h.ne i k hi hk hik
theorem tn_all {w wi : World} {S : List (List Int)} {L : Nat → Nat} {T : Nat → Value} (h : Tn w wi S L T) (hL : ∀ i, i < S.length → (rw_ S i).length ≤ L i) : ML wi (some ⟨w.heap.size, 0, none⟩) S := fun i hi => by
  have y := h.own i hi
  rw [List.take_of_length_le (hL i hi)] at y
  obtain ⟨A, c, e, hl⟩ := oi_slice y
  have z := h.top.cell hi
  rw [e] at z y
  exact ⟨w.heap.size, 0, A, c, rfl, h.lt, by rw [Nat.zero_add]; exact z, hl, oi_il y⟩
theorem tn_L (i j k : Nat) : (if i = j then (if j < j then k + 1 else k) + 1 else if i < j then k + 1 else k) = if i < j + 1 then k + 1 else k := by
  by_cases e : i = j
  · subst e; rw [if_pos rfl, if_neg (Nat.lt_irrefl i), if_pos (by omega)]
  · rw [if_neg e]
    by_cases e2 : i < j
    · rw [if_pos e2, if_pos (by omega)]
    · rw [if_neg e2, if_neg (by omega)]
theorem tn_congr {w wi : World} {S : List (List Int)} {L L' : Nat → Nat} {T : Nat → Value} (h : Tn w wi S L T) (e : ∀ i, i < S.length → L i = L' i) : Tn w wi S L' T :=
  ⟨h.bel, h.lt, h.top, fun i hi => by rw [← e i hi]; exact h.own i hi, h.ne⟩
end Go.Proofs.Ytllonfaogbdbnaa
