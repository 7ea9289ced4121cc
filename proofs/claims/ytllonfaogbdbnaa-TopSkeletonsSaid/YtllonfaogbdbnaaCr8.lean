/-
  The contract of without (a matrix without a column).
-/
import Derived.Test.YtllonfaogbdbnaaCr7
import Derived.IntWalk
namespace Go.Proofs.Ytllonfaogbdbnaa
open Go.ChangeShapes Go.WideShapes Go.RowKit
open Cr
/-- what holds when k rows are made -/
structure Wt (w wr : World) (M : List (List Int)) (m j k : Nat) : Prop where
  bel : Below w.heap.size w wr
  size : wr.heap.size = w.heap.size + 1 + k
  top : wr.rowIs w.heap.size 37 M.length (fun i => if i < k then .slice (some ⟨w.heap.size + 1 + i, 0, none⟩) m m else .slice none 0 0)
  done : ∀ i, i < k → Bl wr (w.heap.size + 1 + i) ((rw_ M i).eraseIdx j)
theorem wt_start (w : World) (M : List (List Int)) (m j : Nat) : Wt w (w.alloc (.cells (madeCells #[.slice none 0 0] M.length) 37)) M m j 0 :=
  ⟨balloc (Below.refl _ _) _, by simp, (World.rowIs_made w _ M.length 37).congr (fun i _ => by simp), fun i hi => absurd hi (Nat.not_lt_zero i)⟩
theorem copy_row (m j : Nat) (r : List Int) (hr : r.length = m + 1) (hj : j ≤ m) :
    splice (splice (vals (List.replicate m 0)) 0 (vals (r.take j))) j (vals (r.drop (j + 1))) = vals (r.eraseIdx j) := by
  have h1 : (r.take j).length = j := by rw [List.length_take]; omega
  have h2 : (r.drop (j + 1)).length = m - j := by rw [List.length_drop]; omega
  have e : splice (vals (List.replicate m 0)) 0 (vals (r.take j)) = vals (r.take j) ++ (vals (List.replicate m 0)).drop j := by
    unfold splice; simp [len_vals, h1]
  rw [e]
  unfold splice
  have l1 : (vals (r.take j)).length = j := by rw [len_vals, h1]
  have l3 : ((vals (List.replicate m 0)).drop j).length = m - j := by rw [List.length_drop, len_vals, List.length_replicate]
  have e2 : List.drop (j + (vals (r.drop (j + 1))).length) (vals (r.take j) ++ (vals (List.replicate m 0)).drop j) = [] := List.drop_eq_nil_of_le (by rw [List.length_append, l1, l3, len_vals, h2]; omega)
  rw [List.take_left' l1, e2, List.append_nil, List.eraseIdx_eq_take_drop_succ]
  unfold vals
  rw [List.map_append]
/-- what holds when the row k lies there, and its cells are cs -/
structure Ws (w W : World) (M : List (List Int)) (m j k : Nat) (cs : List Value) : Prop where
  bel : Below w.heap.size w W
  size : W.heap.size = w.heap.size + 1 + k + 1
  top : W.rowIs w.heap.size 37 M.length (fun i => if i < k + 1 then .slice (some ⟨w.heap.size + 1 + i, 0, none⟩) m m else .slice none 0 0)
  done : ∀ i, i < k → Bl W (w.heap.size + 1 + i) ((rw_ M i).eraseIdx j)
  cur : W.heap[w.heap.size + 1 + k]? = some (.cells cs.toArray 3 (0, 0))
theorem ws_start {w wr : World} {M : List (List Int)} {m j k : Nat} (h : Wt w wr M m j k) :
    Ws w ((wr.alloc (.cells (madeCells #[.int .i64 0] m) 3)).setCell ⟨w.heap.size, k, none⟩ (.slice (some ⟨w.heap.size + 1 + k, 0, none⟩) m m)) M m j k (vals (List.replicate m 0)) := by
  refine ⟨(balloc h.bel _).setCell (Nat.le_refl _) _, by simp [h.size], ((h.top.alloc _).set k _).congr (fun i _ => ?_), fun i hi => bl_set (bl_alloc (h.done i hi) _) (by show w.heap.size + 1 + i ≠ w.heap.size; omega) _, ?_⟩
  · by_cases e : i = k
    · subst e; simp
    · rw [if_neg e]
      by_cases hlt : i < k
      · rw [if_pos hlt, if_pos (by omega)]
      · rw [if_neg hlt, if_neg (by omega)]
  · rw [Below.heap_setCell _ _ _ _ (by show w.heap.size + 1 + k ≠ w.heap.size; omega)]
    rw [← h.size, heap_alloc_new]
    congr 2
    apply Array.ext'
    rw [toList_madeCells_one]
    simp [vals]
theorem ws_keep {w W W' : World} {M : List (List Int)} {m j k : Nat} {cs cs' : List Value} (h : Ws w W M m j k cs) (hb : Below (w.heap.size + 1 + k) W W') (hs : W'.heap.size = W.heap.size) (hc : W'.heap[w.heap.size + 1 + k]? = some (.cells cs'.toArray 3 (0, 0))) : Ws w W' M m j k cs' :=
  ⟨h.bel.trans (hb.mono (by omega)), hs.trans h.size, h.top.of_block (hb.block _ (by omega)), fun i hi => bl_block (h.done i hi) (hb.block _ (by omega)), hc⟩
theorem ws_done {w W : World} {M : List (List Int)} {m j k : Nat} (h : Ws w W M m j k (vals ((rw_ M k).eraseIdx j))) : Wt w W M m j (k + 1) :=
  ⟨h.bel, by rw [h.size]; omega, h.top, fun i hi => by
    by_cases e : i = k
    · subst e; exact h.cur
    · exact h.done i (by omega)⟩
theorem cs_eq {w W : World} {M : List (List Int)} {m j k : Nat} {cs cs' : List Value} (h : Ws w W M m j k cs) (e : cs = cs') : Ws w W M m j k cs' := e ▸ h
theorem rw_cut (M : List (List Int)) (j : Nat) {i : Nat} (hi : i < M.length) : rw_ (cut M j) i = (rw_ M i).eraseIdx j := by
  unfold rw_ cut; simp [List.getD, hi]
theorem wt_done {w wr : World} {M : List (List Int)} {m j : Nat} (hr : ∀ i, i < M.length → (rw_ M i).length = m + 1) (hj : j ≤ m) (h : Wt w wr M m j M.length) : ML wr (some ⟨w.heap.size, 0, none⟩) (cut M j) := fun i hi => by
  have hi' : i < M.length := by unfold cut at hi; rw [List.length_map] at hi; exact hi
  have e := rw_cut M j hi'
  have l : ((rw_ M i).eraseIdx j).length = m := by rw [List.length_eraseIdx, hr i hi', if_pos (by omega)]; rfl
  have c := h.top.cell hi'
  rw [if_pos hi'] at c
  exact ⟨w.heap.size, 0, some ⟨w.heap.size + 1 + i, 0, none⟩, m, rfl, h.top.lt, by rw [e, l, Nat.zero_add]; exact c, by rw [e, l]; exact Nat.le_refl _, by rw [e]; exact bl_il (h.done i hi')⟩
/-- copy into a row of the call's own, as one step of a region that draws: the heap stays as large as it was -/
theorem step_copy_size {P : Program} {ops : Array Oper} {o : Oper} {a : Act} {w : World} {K : Act → World → Prop} {Q : Exit → Act → World → Prop} {E : Prop} (hgd : o.guard = none) (d s : Operand) (dT sT : TypeId)
    (ho : o.op = .call { callee := .builtin .copy, args := #[d, s], argTypes := #[dT, sT] }) (elem : TypeId) (hu : P.underlying dT = some (.slice elem)) (hsz : (P.info? elem).map (·.size) = some 1)
    (dp sp : Option Addr) (dLen dCap sLen sCap : Nat) (hd : a.eval d = .slice dp dLen dCap) (hs : a.eval s = .slice sp sLen sCap)
    (g off : Nat) (cur : List Value) (t : TypeId) (hg : w.heap[g]? = some (.cells cur.toArray t (0, 0))) (cs : List Value) (hn : cs.length = Nat.min sLen dLen)
    (hpos : 0 < cs.length → dp = some ⟨g, off, none⟩ ∧ ∃ ad, sp = some ad ∧ ∀ j v, cs[j]? = some v → w.cell? (ad.add j) = some v)
    (hfit : off + cs.length ≤ cur.length) (h1 : ∀ v ∈ cs, v.oneCell' = true)
    (h : ∀ w', Hid (w'.heap[g]? = some (.cells (splice cur off cs).toArray t (0, 0))) → Hid (Below g w w') → Hid (w'.heap.size = w.heap.size) → K (a.put o.dst (goInt cs.length)) w') :
    if Region.wanted o (yielded ops a.tmps) = true then Oper.wp P o a w K Q else E := by
  have hw : Region.wanted o (yielded ops a.tmps) = true := by simp [Region.wanted, hgd]
  rw [if_pos hw]
  by_cases h0 : cs.length = 0
  · obtain rfl : cs = [] := List.eq_nil_of_length_eq_zero h0
    have hrun := run_copy_none (P := P) w dT sT o.type elem dp sp dLen dCap sLen sCap hu hsz (by simpa using hn.symm)
    unfold Oper.wp
    simp [execOp, ho, resolve, invoke, builtin, hd, hs, hrun, Result.andThen]
    exact h w (show _ = _ by simpa [splice] using hg) (Below.refl _ _) (rfl : w.heap.size = w.heap.size)
  · obtain ⟨rfl, ad, rfl, hsrc⟩ := hpos (by omega)
    have hrun := run_copy_row (P := P) w dT sT o.type elem g off dLen dCap ad sLen sCap cur.toArray t cs hu hsz hg hn hsrc (by simpa using hfit) h1
    unfold Oper.wp
    simp [execOp, ho, resolve, invoke, builtin, hd, hs, hrun, Result.andThen]
    exact h _ (show _ = _ by simpa [splice] using setRow_heap w g _ _ t _ hg) (below_setRow (Below.refl _ _) (Nat.le_refl _) _) (show _ = _ by simp [World.setRow])
theorem below_of_drew {B : Nat} {w w1 : World} (h : Below B w.drew w1) : Below B w w1 := ⟨h.os, h.tape, h.output, h.size, h.block⟩
theorem szI : (Try.prog.info? 3).map (·.size) = some 1 := by kernel_rfl
theorem src_of {w : World} {A : Option Addr} {l : List Int} (h : IL w A l) (hp : 0 < (vals l).length) : ∃ ad, A = some ad ∧ ∀ j v, (vals l)[j]? = some v → w.cell? (ad.add j) = some v := by
  rw [len_vals] at hp
  obtain ⟨b, o, rfl, hb, hc⟩ := h 0 hp
  refine ⟨_, rfl, fun j v hv => ?_⟩
  have hj : j < l.length := by
    rcases Nat.lt_or_ge j l.length with h | h
    · exact h
    · rw [List.getElem?_eq_none (by rw [len_vals]; exact h)] at hv; cases hv
  rw [vals_get l hj] at hv
  injection hv with hv
  subst hv
  obtain ⟨b', o', he, _, hc'⟩ := h j hj
  simp only [Option.some.injEq, Addr.mk.injEq, and_true] at he
  obtain ⟨rfl, rfl⟩ := he
  have e : (⟨b, o, none⟩ : Addr).add j = ⟨b, o + j, none⟩ := by
    unfold Addr.add
    split
    · rename_i e; subst e; rfl
    · rfl
  rw [e]; exact hc'
set_option maxHeartbeats 1000000 in
theorem wo_any (A : Option Addr) (c m j : Nat) (M : List (List Int)) (w : World) (h : ML w A M) (hn : M.length ≤ 1000) (hr : ∀ i, i < M.length → (rw_ M i).length = m + 1) (hm : m ≤ 1000) (hj : j ≤ m) :
    Calls Try.prog 112 #[.slice A M.length c, .int .i64 (j : Int)] w fun e w' => ∃ A', e = .returned (.slice A' M.length M.length) ∧ ML w' A' (cut M j) ∧ Below w.heap.size w w' := by
  have H := Lib.hid h
  have HR := Lib.hid hr
  have ST := Lib.hid (wt_start w M m j)
  clear h hr
  have hmk22 := run_make_row' (P := Try.prog) 36 37 (.slice none 0 0) 24 Try.underlying36 infoL rfl .i64 .i64 M.length (by omega) (by omega)
  have hmk23 := run_make_row' (P := Try.prog) 37 3 (.int .i64 0) 8 Try.underlying37 infoI rfl .i64 .i64 m (by omega) (by omega)
  obtain ⟨n, hnn⟩ : ∃ n, M.length = n := ⟨_, rfl⟩
  rw [hnn] at hmk22 hn ⊢
  have NN := Lib.hid hnn
  clear hnn
  have hn' : (n : Int) ≤ 1000 := by omega
  have hm' : (m : Int) ≤ 1000 := by omega
  go_enter Try.func112, Try.ntmps112
  go_wp2
  clear hmk22
  go_loopw [13] (fun kv wr => ∃ k : Nat, k ≤ n ∧ kv = .int .i64 k ∧ Wt w wr M m j k) (fun kv _ => n - (intOf kv).toNat)
  case atStart => exact ⟨0, Nat.zero_le _, rfl, by rw [← NN.out]; exact ST.out⟩
  case round =>
    obtain ⟨k, hk, rfl, hW⟩ := hrel
    by_cases hlt : k < n
    · have hk1 : (k : Int) < (n : Int) := by omega
      have hk0 : 0 ≤ (k : Int) := by omega
      have hsize := hW.size
      obtain ⟨b, o, A1, c1, rfl, hb, hc0, hl1, hr1⟩ := H.out k (by rw [NN.out]; exact hlt)
      rw [HR.out k (by rw [NN.out]; exact hlt)] at hc0 hl1
      have hc1 : wr.cell? ⟨b, o + k, none⟩ = some (.slice A1 (m + 1) c1) := (hW.bel.cell (p := ⟨b, o + k, none⟩) hb).trans hc0
      have ho := fun ob => (hW.top.alloc ob).cell (by rw [NN.out]; exact hlt : k < M.length)
      have ho2 := fun ob => (hW.top.alloc ob).frozen k
      have WS := Lib.hid (ws_start hW)
      have HR1 := Lib.hid (il_in hr1 WS.out.bel)
      have HL := HR.out k (by rw [NN.out]; exact hlt)
      generalize hrow : rw_ M k = r at *
      have CR := Lib.hid (copy_row m j r HL hj)
      have L1 : (r.take j).length = j := by rw [List.length_take]; omega
      have L2 : (r.drop (j + 1)).length = m - j := by rw [List.length_drop]; omega
      have L1 := Lib.hid L1
      have L2 := Lib.hid L2
      have HL := Lib.hid HL
      clear hW hc0
      go_wp2
      generalize World.setCell _ _ _ = W at *
      have T1 : W.cell? ⟨w.heap.size, k, none⟩ = some (.slice (some ⟨w.heap.size + 1 + k, 0, none⟩) m m) := by
        have := WS.out.top.cell (by rw [NN.out]; exact hlt : k < M.length)
        simpa using this
      clear ho ho2 hsize hmk23 hc1
      have hj1 : 0 ≤ (j : Int) := by omega
      have hj2 : (j : Int) ≤ (c1 : Int) := by omega
      go_region_law (refine step_copy_size rfl (.tmp 28) (.tmp 31) _ _ rfl _ Try.underlying37 szI (some ⟨w.heap.size + 1 + k, 0, none⟩) A1 m m j c1 rfl rfl (w.heap.size + 1 + k) 0 (vals (List.replicate m 0)) _ WS.out.cur (vals (r.take j)) (by rw [len_vals, L1.out]; exact (Nat.min_eq_left hj).symm) (fun hp => ⟨rfl, src_of (il_take HR1.out j) hp⟩) (by rw [len_vals, len_vals, L1.out]; simp; omega) vals_one ?_; intro w2 hg2 hb2 hs2)
      have WS2 := Lib.hid (ws_keep WS.out (below_of_drew hb2.out) hs2.out hg2.out)
      have T2 : w2.cell? ⟨w.heap.size, k, none⟩ = some (.slice (some ⟨w.heap.size + 1 + k, 0, none⟩) m m) := (hb2.out.cell (p := ⟨w.heap.size, k, none⟩) (by show w.heap.size < _; omega)).trans T1
      have HR2 := Lib.hid (il_in hr1 WS2.out.bel)
      clear T1 WS HR1 hg2 hb2 hs2
      have hj3 : (j : Int) ≤ (m : Int) := by omega
      have hj4 : (j : Int) + 1 ≤ (m : Int) + 1 := by omega
      have hj5 : IntKind.i64.wrap ((j : Int) + 1) = (j : Int) + 1 := IntWalk.i64_in _ (by omega)
      have hj6 : 0 ≤ (j : Int) + 1 := by omega
      have hj7 : ((j : Int) + 1).toNat = j + 1 := by omega
      go_wp2
      have E1 := Lib.hid (fun (hp : 0 < (vals (r.drop (j + 1))).length) => (by rw [len_vals, L2.out] at hp; rw [cutA_some (by omega), Nat.zero_add] : cutA (some ⟨w.heap.size + 1 + k, 0, none⟩) j m = some ⟨w.heap.size + 1 + k, j, none⟩))
      have E2 := Lib.hid (show j + (vals (r.drop (j + 1))).length ≤ (splice (vals (List.replicate m 0)) 0 (vals (r.take j))).length by
        rw [length_splice _ _ _ (by rw [len_vals, len_vals, L1.out]; simp; omega), len_vals, len_vals, L2.out, List.length_replicate]; omega)
      go_region_law (refine step_copy_size rfl (.tmp 38) (.tmp 42) _ _ rfl _ Try.underlying37 szI (cutA (some ⟨w.heap.size + 1 + k, 0, none⟩) j m) (cutA A1 (j + 1) c1) (m - j) (m - j) (m - j) (c1 - (j + 1)) rfl rfl (w.heap.size + 1 + k) j (splice (vals (List.replicate m 0)) 0 (vals (r.take j))) _ WS2.out.cur (vals (r.drop (j + 1))) (by rw [len_vals, L2.out]; exact (Nat.min_self _).symm) (fun hp => ⟨E1.out hp, src_of (il_drop HR2.out (by rw [HL.out]; exact hl1) (j + 1)) hp⟩) E2.out vals_one ?_; intro w3 hg3 hb3 hs3)
      have WS3 := Lib.hid (ws_keep WS2.out (below_of_drew hb3.out) hs3.out hg3.out)
      have FIN := Lib.hid (ws_done (cs_eq WS3.out (CR.out.trans (by rw [hrow]))))
      clear T2 WS2 HR2 hg3 hb3 hs3
      go_wp2
      go_roundw
      case rel => exact ⟨k + 1, by omega, by go_num, FIN.out⟩
      case measure => simp [intOf]; omega
    · obtain rfl : k = n := by omega
      have FIN := Lib.hid (wt_done (w := w) (wr := wr) (M := M) (m := m) (j := j) (fun i hi => HR.out i (by rw [NN.out] at *; exact hi)) hj)
      go_wp2
      go_ret
      exact ⟨_, rfl, FIN.out (by rw [NN.out]; exact hW), hW.bel⟩

end Go.Proofs.Ytllonfaogbdbnaa
