/-
  The contract of minor.
-/
import Derived.Test.YtllonfaogbdbnaaCr10
namespace Go.Proofs.Ytllonfaogbdbnaa
open Go.ChangeShapes Go.WideShapes Go.RowKit
open Cr
/-- what holds when k rows of the submatrix are there, and l numbers of the next; T: the rows' own values -/
structure Mn (w wi : World) (S : List (List Int)) (k l : Nat) (T : Nat → Value) : Prop where
  bel : Below w.heap.size w wi
  lt : w.heap.size < wi.heap.size
  top : wi.rowIs w.heap.size 37 S.length T
  done : ∀ i, i < k → OI wi (w.heap.size + 1) (T i) (rw_ S i)
  cur : OI wi (w.heap.size + 1) (T k) ((rw_ S k).take l)
  rest : ∀ i, k < i → T i = .slice none 0 0
  ne : ∀ i, i < k → (T i).ownBlock = none ∨ (T i).ownBlock ≠ (T k).ownBlock
theorem frozen_alloc_lt (w : World) (o : Obj) (p : Addr) (h : p.block < w.heap.size) : (w.alloc o).frozen? p = w.frozen? p := World.frozen?_of_block (w := w) (Below.heap_alloc w o p.block h)
theorem grown_of_drew {w w1 : World} {r : Option Nat} (h : w.drew.grownBy w1 r) : w.grownBy w1 r := ⟨h.os, h.tape, h.output, h.size, h.block⟩
theorem mn_start (w : World) (S : List (List Int)) : Mn w (w.alloc (.cells (madeCells #[.slice none 0 0] S.length) 37)) S 0 0 (fun _ => .slice none 0 0) :=
  ⟨balloc (Below.refl _ _) _, by simp, World.rowIs_made w _ S.length 37, fun i hi => absurd hi (Nat.not_lt_zero i), by rw [List.take_zero]; exact oi_nil _ _, fun _ _ => rfl, fun i hi => absurd hi (Nat.not_lt_zero i)⟩
theorem mn_next {w wi : World} {S : List (List Int)} {k l : Nat} {T : Nat → Value} (h : Mn w wi S k l T) (hl : (rw_ S k).length ≤ l) : Mn w wi S (k + 1) 0 T := by
  refine ⟨h.bel, h.lt, h.top, fun i hi => ?_, ?_, fun i hi => h.rest i (by omega), fun i hi => ?_⟩
  · by_cases e : i = k
    · subst e
      have := h.cur
      rw [List.take_of_length_le hl] at this
      exact this
    · exact h.done i (by omega)
  · rw [List.take_zero, h.rest (k + 1) (by omega)]
    exact oi_nil _ _
  · rw [h.rest (k + 1) (by omega)]
    show (T i).ownBlock = none ∨ (T i).ownBlock ≠ none
    cases (T i).ownBlock <;> simp
theorem oi_far {w : World} {base : Nat} {v : Value} {l : List Int} (h : OI w base v l) {g : Nat} (hg : g < base) : v.ownBlock ≠ some g := fun e => by
  have := (h.lt g e).1
  omega
theorem mn_step {w wi w2 : World} {S : List (List Int)} {k l : Nat} {T : Nat → Value} (h : Mn w wi S k l T) (o : Obj) (hl : l < (rw_ S k).length) {v' : Value}
    (hown : OI w2 (w.heap.size + 1) v' ((rw_ S k).take l ++ [at_ (rw_ S k) l])) (hgr : (wi.alloc o).grownBy w2 (T k).ownBlock) (hob : v'.ownBlock = (T k).ownBlock ∨ v'.ownBlock = some (wi.alloc o).heap.size) :
    Mn w (w2.setCell ⟨w.heap.size, k, none⟩ v') S k (l + 1) (fun i => if i = k then v' else T i) := by
  have hsz : (wi.alloc o).heap.size = wi.heap.size + 1 := by simp
  have hlt := h.lt
  have hN : w2.heap[w.heap.size]? = (wi.alloc o).heap[w.heap.size]? := hgr.block _ (by omega) (fun e => oi_far h.cur (Nat.lt_succ_self w.heap.size) e.symm)
  have hs2 := hgr.size
  refine ⟨?_, by simp; omega, ((h.top.alloc o).of_block hN).set k v', fun i hi => ?_, ?_, fun i hi => ?_, fun i hi => ?_⟩
  · refine Below.setCell (below_grown (balloc h.bel o) hgr (by omega) fun g hg => ?_) (Nat.le_refl _) _
    have := (h.cur.lt g hg).1
    omega
  · rw [if_neg (by omega)]
    refine oi_set (World.ownsRow.kept (World.ownsRow.alloc (h.done i hi) o) hgr (h.ne i hi)) (oi_far (h.done i hi) (Nat.lt_succ_self _)) _
  · rw [if_pos rfl]
    have e : (rw_ S k).take (l + 1) = (rw_ S k).take l ++ [at_ (rw_ S k) l] := by
      rw [List.take_succ_eq_append_getElem hl]
      unfold at_
      simp [List.getD, hl]
    rw [e]
    exact oi_set hown (oi_far hown (Nat.lt_succ_self _)) _
  · rw [if_neg (by omega)]; exact h.rest i hi
  · show (if i = k then v' else T i).ownBlock = none ∨ (if i = k then v' else T i).ownBlock ≠ (if k = k then v' else T k).ownBlock
    rw [if_neg (by omega), if_pos rfl]
    rcases h.ne i hi with e | e
    · exact .inl e
    · rcases hob with e' | e'
      · exact .inr (by rw [e']; exact e)
      · refine .inr fun e2 => ?_
        rw [e'] at e2
        have := ((h.done i hi).lt _ e2).2
        omega
theorem mn_all {w wi : World} {S : List (List Int)} {l : Nat} {T : Nat → Value} (h : Mn w wi S S.length l T) : ML wi (some ⟨w.heap.size, 0, none⟩) S := fun i hi => by
  obtain ⟨A, c, e, hl⟩ := oi_slice (h.done i hi)
  have z := h.top.cell hi
  have y := h.done i hi
  rw [e] at z y
  exact ⟨w.heap.size, 0, A, c, rfl, h.lt, by rw [Nat.zero_add]; exact z, hl, oi_il y⟩
theorem sub_len (M : List (List Int)) (rows cols : List Int) : (sub M rows cols).length = rows.length := by unfold sub; simp
theorem sub_row (M : List (List Int)) (rows cols : List Int) {k : Nat} (hk : k < rows.length) : rw_ (sub M rows cols) k = cols.map fun j => ent M (at_ rows k) j := by
  unfold sub rw_ at_; simp [List.getD, hk]
/-- all numbers of the list are below n -/
def Under (l : List Int) (n : Nat) : Prop := ∀ k, k < l.length → 0 ≤ at_ l k ∧ at_ l k < n
theorem sub_sq {n m : Nat} {M : List (List Int)} (q : Sq n m M) {rows cols : List Int} (hr : Under rows n) (hc : Under cols m) : Sq rows.length cols.length (sub M rows cols) := by
  refine ⟨sub_len M rows cols, fun r h => ?_, fun r h x hx => ?_⟩
  · unfold sub at h
    obtain ⟨i, _, rfl⟩ := List.mem_map.1 h
    simp
  · unfold sub at h
    obtain ⟨i, hi, rfl⟩ := List.mem_map.1 h
    obtain ⟨j, hj, rfl⟩ := List.mem_map.1 hx
    obtain ⟨a, ha, rfl⟩ := List.getElem_of_mem hi
    obtain ⟨b, hb, rfl⟩ := List.getElem_of_mem hj
    have h1 := hr a ha
    have h2 := hc b hb
    have e1 : at_ rows a = rows[a] := by unfold at_; simp [List.getD, ha]
    have e2 : at_ cols b = cols[b] := by unfold at_; simp [List.getD, hb]
    rw [e1] at h1
    rw [e2] at h2
    unfold ent
    exact q.at (by omega) (by omega)
set_option maxHeartbeats 4000000 in
theorem minor_any (A R C : Option Addr) (c cr cc n m K : Nat) (M : List (List Int)) (rows cols : List Int) (w : World) (hM : ML w A M) (q : Sq n m M) (hR : IL w R rows) (hC : IL w C cols) (ur : Under rows n) (uc : Under cols m) (kr : rows.length = K) (kc : cols.length = K) (h7 : K ≤ 7) :
    Calls Try.prog 58 #[.slice A n c, .slice R K cr, .slice C K cc] w fun e w' => e = .returned (.int .i64 (detR M rows cols)) ∧ Below w.heap.size w w' := by
  have ST := Lib.hid (mn_start w (sub M rows cols))
  rw [sub_len, kr] at ST
  have SQ := Lib.hid (sub_sq q ur uc)
  rw [kr, kc] at SQ
  have DS := Lib.hid (det_sub M rows cols)
  rw [kr] at DS
  have SL := Lib.hid ((sub_len M rows cols).trans kr)
  have SR := Lib.hid (fun k (hk : k < K) => sub_row M rows cols (k := k) (by omega))
  have HM := Lib.hid hM
  have HR := Lib.hid hR
  have HC := Lib.hid hC
  have Q := Lib.hid q
  have UR := Lib.hid ur
  have UC := Lib.hid uc
  have KR := Lib.hid kr
  have KC := Lib.hid kc
  have DT := Lib.hid (fun A W (h : ML W A (sub M rows cols)) => det_any K A K (sub M rows cols) W h7 SQ.out h (Nat.le_refl _))
  rw [DS.out] at DT
  have hmk22 := run_make_row' (P := Try.prog) 36 37 (.slice none 0 0) 24 Try.underlying36 infoL rfl .i64 .i64 K (by omega) (by omega)
  clear hM hR hC q ur uc kr kc SQ DS
  have hK' : (K : Int) ≤ 7 := by omega
  generalize sub M rows cols = S at *
  go_enter Try.func58, Try.ntmps58
  go_wp2_with fail
  clear hmk22
  go_loopw [17] (fun kv wr => ∃ k T, k ≤ K ∧ kv = .int .i64 (k : Int) ∧ Mn w wr S k 0 T) (fun kv _ => K - (intOf kv).toNat)
  case atStart => exact ⟨0, _, Nat.zero_le _, rfl, ST.out⟩
  case round =>
    obtain ⟨k, T, hk, rfl, hW⟩ := hrel
    by_cases hlt : k < K
    · have hk1 : (k : Int) < (K : Int) := by omega
      have hk0 : 0 ≤ (k : Int) := by omega
      obtain ⟨br, or, rfl, hbr, hcr0⟩ := HR.out k (by rw [KR.out]; exact hlt)
      have hcr := (hW.bel.cell (p := ⟨br, or + k, none⟩) hbr).trans hcr0
      have HCR := Lib.hid hcr0
      have u1 := UR.out k (by rw [KR.out]; exact hlt)
      have SRk := Lib.hid (SR.out k hlt)
      clear hcr0
      obtain ⟨ri, hri⟩ : ∃ ri : Nat, at_ rows k = (ri : Int) := ⟨(at_ rows k).toNat, by omega⟩
      rw [hri] at hcr u1 SRk
      have HRI := Lib.hid hri
      clear hri
      obtain ⟨ba, oa, Ar, ca, rfl, hba, hca0, hla, hra0⟩ := HM.out ri (by rw [Q.out.len]; omega)
      rw [rw_len Q.out (by omega)] at hca0 hla
      have HCA := Lib.hid hca0
      have HRA := Lib.hid hra0
      clear hca0 hra0
      have HW := Lib.hid hW
      clear hW
      go_wp2_with fail
      go_loopw [24] (fun lv wr => ∃ l T, l ≤ K ∧ lv = .int .i64 (l : Int) ∧ Mn w wr S k l T) (fun lv _ => K - (intOf lv).toNat)
      case atStart => exact ⟨0, T, Nat.zero_le _, rfl, HW.out⟩
      case round =>
        clear HW hcr
        obtain ⟨l, T', hl, rfl, hW⟩ := hrel
        by_cases hll : l < K
        · have hl1 : (l : Int) < (K : Int) := by omega
          have hl0 : 0 ≤ (l : Int) := by omega
          obtain ⟨bc, oc, rfl, hbc, hcc0⟩ := HC.out l (by rw [KC.out]; exact hll)
          have hcc := (hW.bel.cell (p := ⟨bc, oc + l, none⟩) hbc).trans hcc0
          have u2 := UC.out l (by rw [KC.out]; exact hll)
          clear hcc0
          obtain ⟨cj, hcj⟩ : ∃ cj : Nat, at_ cols l = (cj : Int) := ⟨(at_ cols l).toNat, by omega⟩
          rw [hcj] at hcc u2
          have hca := (hW.bel.cell (p := ⟨ba, oa + ri, none⟩) hba).trans HCA.out
          obtain ⟨be, oe, rfl, hbe, hce0⟩ := HRA.out cj (by rw [rw_len Q.out (by omega)]; omega)
          have hce := (hW.bel.cell (p := ⟨be, oe + cj, none⟩) hbe).trans hce0
          have len : (rw_ S k).length = K := by rw [SRk.out, List.length_map, KC.out]
          have ex : at_ (rw_ S k) l = at_ (rw_ M ri) cj := by
            rw [SRk.out, at_map _ _ _ (by rw [KC.out]; exact hll), hcj]
            unfold ent
            simp only [Int.toNat_natCast]
            rfl
          rw [← ex] at hce
          have hcell := hW.top.cell (by rw [SL.out]; exact hlt : k < S.length)
          have hfr := hW.top.frozen k
          have hNlt := hW.lt
          have hsz := hW.bel.size
          have tl : ((rw_ S k).take l).length = l := by rw [List.length_take, len]; omega
          obtain ⟨A2, c2, e2, hl2⟩ := oi_slice hW.cur
          rw [tl] at e2 hl2
          rw [e2] at hcell
          have OWN := Lib.hid (e2 ▸ hW.cur)
          have XL := Lib.hid (show ((rw_ S k).take l ++ [at_ (rw_ S k) l]).length = l + 1 by rw [List.length_append, tl]; rfl)
          have TL := Lib.hid tl
          have LEN := Lib.hid len
          have E2 := Lib.hid e2
          have HW := Lib.hid hW
          have b1 : br < wr.heap.size := by omega
          have b2 : ba < wr.heap.size := by omega
          have b3 : bc < wr.heap.size := by omega
          have b4 : be < wr.heap.size := by omega
          obtain ⟨u21, u22⟩ := u2
          obtain ⟨u11, u12⟩ := u1
          clear hW hce0 hcj ex len tl e2
          go_wp2_with fail
          go_region_law (refine stepI rfl (.tmp 33) (.tmp 41) rfl (w.heap.size + 1) (.slice A2 l c2) ((rw_ S k).take l) rfl (World.ownsRow.alloc OWN.out _) (by simp; omega) (some ⟨wr.heap.size, 0, none⟩) 1 1 [at_ (rw_ S k) l] rfl (il_one _ _) rfl (by rw [TL.out]; omega) (l + 1) XL.out ?_; intro A3 c3 w2 ho hg hb; have HO := Lib.hid ho; have HG := Lib.hid hg; have HBO := Lib.hid hb; have c2' : w2.cell? ⟨w.heap.size, k, none⟩ = some (.slice A2 l c2) := (World.grownBy.cell_far hg ⟨w.heap.size, k, none⟩ (by simp; omega) (oi_far OWN.out (Nat.lt_succ_self _)).symm).trans ((World.cell?_alloc_lt _ _ _ hNlt).trans hcell); have f2' : w2.frozen? ⟨w.heap.size, k, none⟩ = false := (World.grownBy.frozen_far hg ⟨w.heap.size, k, none⟩ (by simp; omega) (oi_far OWN.out (Nat.lt_succ_self _)).symm).trans ((frozen_alloc_lt _ _ _ hNlt).trans hfr); clear ho hg hb)
          all_goals
            have FIN := Lib.hid (mn_step HW.out _ (by rw [LEN.out]; exact hll) HO.out (by rw [E2.out]; exact grown_of_drew HG.out) (by rw [E2.out]; exact HBO.out))
            go_wp2_with fail
            go_roundw
            case rel => exact ⟨l + 1, _, by omega, by go_num, FIN.out⟩
            case measure => simp [intOf]; omega
        · obtain rfl : l = K := by omega
          have len : (rw_ S k).length = l := by rw [SRk.out, List.length_map, KC.out]
          go_wp2_with fail
          go_roundw
          case rel => exact ⟨k + 1, T', by omega, by go_num, mn_next hW (by omega)⟩
          case measure => simp [intOf]; omega
    · obtain rfl : k = K := by omega
      have FIN := mn_all (SL.out ▸ hW)
      have HB := Lib.hid hW.bel
      clear hW
      go_wp2_with fail
      with_reducible refine (DT.out _ _ FIN).mono ?_
      rintro e w2 ⟨rfl, hb2⟩
      go_wp2_with fail
      go_ret
      exact ⟨rfl, bstep HB.out hb2⟩

end Go.Proofs.Ytllonfaogbdbnaa
