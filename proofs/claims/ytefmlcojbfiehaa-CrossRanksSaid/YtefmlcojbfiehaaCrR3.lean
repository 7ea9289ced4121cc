/-
  Transpose's result can be written; the rank of the transposed matrix.
-/
import Derived.Test.YtefmlcojbfiehaaCrR2
namespace Go.Proofs.Ytefmlcojbfiehaa
open Go.ChangeShapes Go.WideShapes Go.RowKit
open Cr
set_option maxHeartbeats 4000000 in
theorem transP_tn (A : Option Addr) (c : Nat) (M : List (List Int)) (w : World) (h : ML w A M) (hv : vcode M = 0) :
    Calls Try.prog 25 #[.slice A M.length c] w fun e w' => ∃ T, e = .returned (.tuple #[.slice (some ⟨w.heap.size, 0, none⟩) (rw_ M 0).length (rw_ M 0).length, .int .i64 0]) ∧ Tn w w' (tr M) (fun _ => M.length) T := by
  obtain ⟨n, m, q, n1, n6, m1, m6⟩ := sq_of hv
  obtain rfl : M.length = n := q.len
  have hm : (rw_ M 0).length = m := rw_len q (by omega)
  have CV := Lib.hid (fun W (B : Below w.heap.size w W) => val6_any A c M W (ml_in h B) (by omega) (fun i hi => by rw [rw_len q hi]; omega))
  rw [hv] at CV
  have H := Lib.hid h
  have Q := Lib.hid q
  have ST := Lib.hid (tn_start w (tr M))
  have SL := Lib.hid (show (tr M).length = m by rw [tr_len, hm])
  have SR := Lib.hid (fun j (hj : j < m) => tr_rlen M (j := j) (by omega))
  have SA := Lib.hid (fun i j (hi : i < M.length) (hj : j < m) => tr_at M (i := i) (j := j) hi (by omega))
  rw [hm]
  rw [SL.out] at ST
  obtain ⟨b, o, A0, c0, rfl, hb0, hc0, hl0, hr0⟩ := h 0 (by omega)
  rw [hm] at hc0
  have hc0 : w.cell? ⟨b, o, none⟩ = some (.slice A0 m c0) := hc0
  have hmk := run_make_row' (P := Try.prog) 22 23 (.slice none 0 0) 24 Try.underlying22 infoL rfl .i64 .i64 m (by omega) (by omega)
  have x0 : (0 : Int) < (M.length : Int) := by omega
  have x1 : (M.length : Int) ≤ 6 := by omega
  have x2 : (m : Int) ≤ 6 := by omega
  clear h hv q hl0 hr0 hm
  generalize tr M = S at *
  go_enter Try.func25, Try.ntmps25
  go_wp2_with fail
  with_reducible refine (CV.out _ (Below.refl _ _)).mono ?_
  rintro e w2 ⟨rfl, rfl⟩
  go_wp2_with fail
  clear hmk hc0
  go_loopw [22] (fun kv wr => ∃ k T, k ≤ M.length ∧ kv = .int .i64 (k : Int) ∧ Tn w wr S (fun _ => k) T) (fun kv _ => M.length - (intOf kv).toNat)
  case atStart => exact ⟨0, _, Nat.zero_le _, rfl, ST.out⟩
  case round =>
    obtain ⟨k, T, hk, rfl, hW⟩ := hrel
    by_cases hlt : k < M.length
    · have hk1 : (k : Int) < (M.length : Int) := by omega
      have hk0 : 0 ≤ (k : Int) := by omega
      obtain ⟨b', o', A1, c1, he, hb, hc1, hl1, hr1⟩ := H.out k hlt
      simp only [Option.some.injEq, Addr.mk.injEq, and_true] at he
      obtain ⟨rfl, rfl⟩ := he
      rw [rw_len Q.out hlt] at hc1
      have hca := (hW.bel.cell (p := ⟨b, o + k, none⟩) hb).trans hc1
      have HR1 := Lib.hid hr1
      have HL1 := Lib.hid (rw_len Q.out hlt)
      have HW := Lib.hid hW
      clear hW hc1 hl1 hr1
      go_wp2_with fail
      clear hca
      go_loopw [28] (fun jv wr => ∃ j T, j ≤ m ∧ jv = .int .i64 (j : Int) ∧ Tn w wr S (fun i => if i < j then k + 1 else k) T) (fun jv _ => m - (intOf jv).toNat)
      case atStart => exact ⟨0, T, Nat.zero_le _, rfl, tn_congr HW.out fun i _ => by rw [if_neg (Nat.not_lt_zero i)]⟩
      case round =>
        clear HW
        obtain ⟨j, T', hj, rfl, hW⟩ := hrel
        by_cases hjl : j < m
        · have hj1 : (j : Int) < (m : Int) := by omega
          have hj0 : 0 ≤ (j : Int) := by omega
          obtain ⟨be, oe, rfl, hbe, hce0⟩ := HR1.out j (by rw [HL1.out]; exact hjl)
          have hce := (hW.bel.cell (p := ⟨be, oe + j, none⟩) hbe).trans hce0
          have hjS : j < S.length := by rw [SL.out]; exact hjl
          have ex := SA.out k j hlt hjl
          rw [← ex] at hce
          have hcell := hW.top.cell hjS
          have hfr := hW.top.frozen j
          have hNlt := hW.lt
          have hsz := hW.bel.size
          have cur := hW.own j hjS
          have ek : (if j < j then k + 1 else k) = k := if_neg (Nat.lt_irrefl j)
          rw [ek] at cur
          have len := SR.out j hjl
          have tl : ((rw_ S j).take k).length = k := by rw [List.length_take, len]; omega
          obtain ⟨A2, c2, e2, hl2⟩ := oi_slice cur
          rw [tl] at e2 hl2
          rw [e2] at hcell
          have OWN := Lib.hid (e2 ▸ cur)
          have XL := Lib.hid (show ((rw_ S j).take k ++ [at_ (rw_ S j) k]).length = k + 1 by rw [List.length_append, tl]; rfl)
          have TL := Lib.hid tl
          have LEN := Lib.hid len
          have E2 := Lib.hid e2
          have EK := Lib.hid ek
          have HW := Lib.hid hW
          have b4 : be < wr.heap.size := by omega
          clear hW hce0 ex len tl e2 cur ek
          go_wp2_with (at_builtin; refine wpI rfl (.tmp 38) (.tmp 40) rfl (w.heap.size + 1) (.slice A2 k c2) ((rw_ S j).take k) rfl (World.ownsRow.alloc OWN.out _) (by simp; omega) (some ⟨wr.heap.size, 0, none⟩) 1 1 [at_ (rw_ S j) k] rfl (il_one _ _) rfl (by rw [TL.out]; omega) (k + 1) XL.out ?_; intro A3 c3 w2 ho hg hb; have HO := Lib.hid ho; have HG := Lib.hid hg; have HBO := Lib.hid hb; have c2' : w2.cell? ⟨w.heap.size, j, none⟩ = some (.slice A2 k c2) := (World.grownBy.cell_far hg ⟨w.heap.size, j, none⟩ (by simp; omega) (oi_far OWN.out (Nat.lt_succ_self _)).symm).trans ((World.cell?_alloc_lt _ _ _ hNlt).trans hcell); have f2' : w2.frozen? ⟨w.heap.size, j, none⟩ = false := (World.grownBy.frozen_far hg ⟨w.heap.size, j, none⟩ (by simp; omega) (oi_far OWN.out (Nat.lt_succ_self _)).symm).trans ((frozen_alloc_lt _ _ _ hNlt).trans hfr); clear ho hg hb)
          have FIN := Lib.hid (tn_step HW.out (.cells #[.int .i64 (at_ (rw_ S j) k)] 3) hjS (by rw [EK.out, LEN.out]; exact hlt) (by rw [EK.out]; exact HO.out) (by rw [E2.out]; exact HG.out) (by rw [E2.out]; exact HBO.out))
          go_roundw
          case rel => exact ⟨j + 1, _, by omega, by go_num, tn_congr FIN.out fun i _ => tn_L i j k⟩
          case measure => simp [intOf]; omega
        · obtain rfl : j = m := by omega
          go_wp2_with fail
          go_roundw
          case rel => exact ⟨k + 1, T', by omega, by go_num, tn_congr hW fun i hi => by rw [if_pos (by rw [SL.out] at hi; exact hi)]⟩
          case measure => simp [intOf]; omega
    · obtain rfl : k = M.length := by omega
      have HW := Lib.hid hW
      clear hW
      go_wp2_with fail
      go_ret2
      exact ⟨T, rfl, HW.out⟩
theorem allG_base {f : Nat → Nat → Int} {m : Nat} {b : Int} : ∀ {n : Nat}, b ≤ allG f m n b
  | 0 => Int.le_refl _
  | n + 1 => Int.le_trans (allG_base (n := n)) (rowG_ge (f := f n) (m := m) (j := 0)).1
theorem rowG_at {f : Nat → Int} {b : Int} : ∀ {m : Nat}, rowG f m b = b ∨ ∃ j, j < m ∧ rowG f m b = f j
  | 0 => .inl rfl
  | m + 1 => by
    unfold rowG mx
    split
    · exact .inr ⟨m, by omega, rfl⟩
    · rcases rowG_at (f := f) (b := b) (m := m) with e | ⟨j, hj, e⟩
      · exact .inl e
      · exact .inr ⟨j, by omega, e⟩
theorem allG_at {f : Nat → Nat → Int} {m : Nat} {b : Int} : ∀ {n : Nat}, allG f m n b = b ∨ ∃ i j, i < n ∧ j < m ∧ allG f m n b = f i j
  | 0 => .inl rfl
  | n + 1 => by
    rcases rowG_at (f := f n) (b := allG f m n b) (m := m) with e | ⟨j, hj, e⟩
    · rcases allG_at (f := f) (m := m) (b := b) (n := n) with e' | ⟨i, j, hi, hj, e'⟩
      · exact .inl (by unfold allG; rw [e, e'])
      · exact .inr ⟨i, j, by omega, hj, by unfold allG; rw [e, e']⟩
    · exact .inr ⟨n, j, by omega, hj, by unfold allG; exact e⟩
theorem gv_at {M : List (List Int)} {n m q : Nat} : gv M n m q (-1) = -1 ∨ ∃ r c, r ∈ setsN n q ∧ c ∈ setsN m q ∧ gv M n m q (-1) = absI (detR M r c) := by
  rcases allG_at (f := fa M n m q) (m := (setsN m q).length) (b := -1) (n := (setsN n q).length) with e | ⟨i, j, hi, hj, e⟩
  · exact .inl e
  · exact .inr ⟨_, _, rw_mem6 hi, rw_mem6 hj, e⟩
theorem tr_gv {M : List (List Int)} (hv : vcode M = 0) (q : Nat) : gv (tr M) (rw_ M 0).length M.length q (-1) = gv M M.length (rw_ M 0).length q (-1) := by
  obtain ⟨n, m, s, n1, n6, m1, m6⟩ := sq_of hv
  obtain rfl : M.length = n := s.len
  obtain rfl : (rw_ M 0).length = m := rw_len s (by omega)
  apply Int.le_antisymm
  · rcases gv_at (M := tr M) (n := (rw_ M 0).length) (m := M.length) (q := q) with e | ⟨r, c, hr, hc, e⟩
    · rw [e]; exact allG_base
    · obtain ⟨l1, s1⟩ := sets_mem m6 hr
      obtain ⟨l2, s2⟩ := sets_mem n6 hc
      rw [e, tr_det (under_of s2).1 (under_of s1).1 (by omega)]
      exact gv_ge hc hr
  · rcases gv_at (M := M) (n := M.length) (m := (rw_ M 0).length) (q := q) with e | ⟨r, c, hr, hc, e⟩
    · rw [e]; exact allG_base
    · obtain ⟨l1, s1⟩ := sets_mem n6 hr
      obtain ⟨l2, s2⟩ := sets_mem m6 hc
      rw [e, ← tr_det (under_of s1).1 (under_of s2).1 (by omega)]
      exact gv_ge hc hr
theorem tr_rk {M : List (List Int)} (hv : vcode M = 0) : ∀ k, rk (tr M) (rw_ M 0).length M.length k = rk M M.length (rw_ M 0).length k
  | 0 => rfl
  | k + 1 => by
    unfold rk
    rw [tr_gv hv, tr_rk hv k]
theorem sd_comm (n m : Nat) : sd n m = sd m n := by unfold sd; split <;> split <;> omega
theorem tr_rkc {M : List (List Int)} (hv : vcode M = 0) : rkc (tr M) = rkc M := by
  rw [rkc_0 hv, rkc_0 (tr_vcode hv), tr_len, tr_zero hv, tr_rk hv, sd_comm]
/-- the block and the room of a slice -/
def rB : Value → Nat
  | .slice (some a) _ _ => a.block
  | _ => 0
def cB : Value → Nat
  | .slice _ _ c => c
  | _ => 0
/-- a matrix in memory that can be written -/
def WT (w0 : World) (g m n : Nat) (r cR : Nat → Nat) (wr : World) : Prop :=
  Below w0.heap.size w0 wr ∧ ∀ x, x < m → wr.cell? ⟨g, x, none⟩ = some (.slice (some ⟨r x, 0, none⟩) n (cR x)) ∧ w0.heap.size ≤ r x ∧ r x ≠ g ∧ ∀ y, y < n → (∃ u, wr.cell? ⟨r x, y, none⟩ = some u) ∧ wr.frozen? ⟨r x, y, none⟩ = false
theorem wt_store {w0 : World} {g m n : Nat} {r cR : Nat → Nat} {wr : World} (h : WT w0 g m n r cR wr) {x : Nat} (hx : x < m) (y : Nat) (v : Value) : WT w0 g m n r cR (wr.setCell ⟨r x, y, none⟩ v) := by
  obtain ⟨hb, h1⟩ := h
  obtain ⟨x1, x2, x3, x4⟩ := h1 x hx
  refine ⟨hb.setCell x2 v, fun x' hx' => ?_⟩
  obtain ⟨y1, y2, y3, y4⟩ := h1 x' hx'
  refine ⟨?_, y2, y3, fun y' hy' => ⟨?_, ?_⟩⟩
  · rw [World.cell?_setCell_far _ _ _ _ x3]; exact y1
  · obtain ⟨u, hu⟩ := (y4 y' hy').1
    by_cases e : (⟨r x, y, none⟩ : Addr) = ⟨r x', y', none⟩
    · rw [e]; exact ⟨_, World.cell?_setCell_same _ _ _ hu⟩
    · exact ⟨u, by rw [World.cell?_setCell_other (h := e)]; exact hu⟩
  · rw [World.frozen?_setCell]; exact (y4 y' hy').2
theorem wt_in {w0 : World} {g m n : Nat} {r cR : Nat → Nat} {wr w2 : World} (h : WT w0 g m n r cR wr) (hb : Below wr.heap.size wr w2) : WT w0 g m n r cR w2 := by
  obtain ⟨h0, h1⟩ := h
  refine ⟨bstep h0 hb, fun x hx => ?_⟩
  obtain ⟨y1, y2, y3, y4⟩ := h1 x hx
  refine ⟨(hb.cell (World.block_lt_of_cell? _ _ y1)).trans y1, y2, y3, fun y hy => ?_⟩
  obtain ⟨⟨u, hu⟩, hf⟩ := y4 y hy
  exact ⟨⟨u, (hb.cell (World.block_lt_of_cell? _ _ hu)).trans hu⟩, (hb.frozen (World.block_lt_of_cell? _ _ hu)).trans hf⟩
theorem wt_tn {w0 wi : World} {S : List (List Int)} {n : Nat} {T : Nat → Value} (h : Tn w0 wi S (fun _ => n) T) (hn : 0 < n) (hr : ∀ i, i < S.length → (rw_ S i).length = n) :
    WT w0 w0.heap.size S.length n (fun x => rB (T x)) (fun x => cB (T x)) wi := by
  refine ⟨h.bel, fun x hx => ?_⟩
  have own := h.own x hx
  have top := h.top.cell hx
  have len : ((rw_ S x).take n).length = n := by rw [List.length_take, hr x hx]; omega
  rcases oi_form own with ⟨g, c, e, hl, hb⟩ | ⟨_, e⟩
  · rw [len] at e
    rw [e] at top own
    have e1 : rB (T x) = g := by rw [e]; rfl
    have e2 : cB (T x) = c := by rw [e]; rfl
    show wi.cell? _ = some (.slice (some ⟨rB (T x), 0, none⟩) n (cB (T x))) ∧ w0.heap.size ≤ rB (T x) ∧ rB (T x) ≠ w0.heap.size ∧ ∀ y, y < n → (∃ u, wi.cell? ⟨rB (T x), y, none⟩ = some u) ∧ wi.frozen? ⟨rB (T x), y, none⟩ = false
    rw [e1, e2]
    refine ⟨top, by omega, by omega, fun y hy => ⟨?_, ?_⟩⟩
    · have il := oi_il own
      obtain ⟨b, o, he, _, hc⟩ := il y (by rw [len]; exact hy)
      simp only [Option.some.injEq, Addr.mk.injEq, and_true] at he
      obtain ⟨rfl, rfl⟩ := he
      rw [Nat.zero_add] at hc
      exact ⟨_, hc⟩
    · have own' : wi.ownsRow (w0.heap.size + 1) 3 1 (.slice (some ⟨g, 0, none⟩) n c) ((rw_ S x).take n).length (vals ((rw_ S x).take n)) := own
      rw [len] at own'
      exact own'.frozenAt y
  · rw [e] at len; simp at len; omega

end Go.Proofs.Ytefmlcojbfiehaa
