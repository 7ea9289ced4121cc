/-
  The contracts of Copy, Same and Transpose in the document's answer.
-/
import Derived.Test.YtefmlcojbfiehaaCrR1
import Derived.Test.YtefmlcojbfiehaaCrTr
import Derived.Test.YtefmlcojbfiehaaCrP2
namespace Go.Proofs.Ytefmlcojbfiehaa
open Go.ChangeShapes Go.WideShapes Go.RowKit
open Cr
/-- the first rows, the first numbers -/
def tkM (M : List (List Int)) (k : Nat) : List (List Int) := M.take k
def tkI (l : List Int) (k : Nat) : List Int := l.take k
theorem tkM_next {M : List (List Int)} {k : Nat} (h : k < M.length) : tkM M (k + 1) = tkM M k ++ [rw_ M k] := by
  unfold tkM
  rw [List.take_succ_eq_append_getElem h]
  have e : rw_ M k = M[k] := by show M.getD k [] = _; simp [List.getD, h]
  rw [e]
theorem tkI_next {l : List Int} {k : Nat} (h : k < l.length) : tkI l (k + 1) = tkI l k ++ [at_ l k] := take_next h
theorem tkM_le (M : List (List Int)) (k : Nat) : (tkM M k).length ≤ k := by unfold tkM; rw [List.length_take]; omega
theorem tkI_le (l : List Int) (k : Nat) : (tkI l k).length ≤ k := by unfold tkI; rw [List.length_take]; omega
theorem tkM_all {M : List (List Int)} {k : Nat} (h : M.length = k) : tkM M k = M := List.take_of_length_le (by omega)
theorem tkI_all {l : List Int} {k : Nat} (h : l.length = k) : tkI l k = l := List.take_of_length_le (by omega)
set_option maxHeartbeats 2000000 in
theorem mcopy_any (A : Option Addr) (c : Nat) (M : List (List Int)) (w : World) (hM : ML w A M) (ln : M.length ≤ 1000) (wd : ∀ i, i < M.length → (rw_ M i).length ≤ 1000) :
    Calls Try.prog 22 #[.slice A M.length c] w fun e w' => ∃ A' c', e = .returned (.slice A' M.length c') ∧ M.length ≤ c' ∧ ML w' A' M ∧ Below w.heap.size w w' := by
  have H := Lib.hid hM
  have WD := Lib.hid wd
  have nn : (M.length : Int) ≤ 1000 := by omega
  clear hM wd
  go_enter Try.func22, Try.ntmps22
  go_wp2_with fail
  go_loopw [3, 4] (fun av kv wr => ∃ k A c, k ≤ M.length ∧ kv = .int .i64 (k : Int) ∧ av = .slice A (tkM M k).length c ∧ OLL wr w.heap.size (.slice A (tkM M k).length c) (tkM M k) ∧ (tkM M k).length ≤ c ∧ Below w.heap.size w wr) (fun _ kv _ => M.length - (intOf kv).toNat)
  case atStart => exact ⟨0, none, 0, Nat.zero_le _, rfl, rfl, oll_nil _ _, Nat.le_refl _, Below.refl _ _⟩
  case round =>
    rename World => wo
    obtain ⟨k, A2, c2, hk, rfl, rfl, ho, hc2, B⟩ := hrel
    have HO := Lib.hid ho
    have HB := Lib.hid B
    by_cases hlt : k < M.length
    · have hk1 : (k : Int) < (M.length : Int) := by omega
      have hk0 : 0 ≤ (k : Int) := by omega
      obtain ⟨b, o, R, cr, rfl, hb, hc1, hl1, hr1⟩ := H.out k hlt
      have hca := (B.cell (p := ⟨b, o + k, none⟩) hb).trans hc1
      have HR := Lib.hid (il_in hr1 B)
      have RL := WD.out k hlt
      have TL : (tkM M k).length ≤ 1000 := by have := tkM_le M k; omega
      have TN := Lib.hid (tkM_next hlt)
      have LA := Lib.hid (show (tkM M k ++ [rw_ M k]).length = (tkM M k).length + 1 by simp)
      have M0 := Lib.hid (oi_made wo)
      have hb' : b < wo.heap.size := Nat.lt_of_lt_of_le hb B.size
      have bnd : ([] : List Int).length + (rw_ M k).length ≤ 1000000 := by simp; omega
      clear ho B hc1 hr1 hc2 hl1 RL
      have BND := Lib.hid bnd
      clear bnd
      go_wp2_with (first
        | (at_builtin; refine wpI rfl (.tmp 12) (.tmp 16) rfl wo.heap.size (.slice (some ⟨wo.heap.size, 0, none⟩) 0 0) [] rfl M0.out (by simp) R (rw_ M k).length cr (rw_ M k) rfl (il_alloc HR.out _) rfl BND.out (rw_ M k).length rfl ?_; intro A3 c3 w2 ho3 hg3 _; have HO3 := Lib.hid ho3; have HB3 := Lib.hid (below_grown (balloc (Below.refl _ _) _) hg3 (by simp) (fun g hg => (M0.out.lt g hg).1)); clear ho3 hg3)
        | (at_builtin; refine wpL rfl (.tmp 11) (.tmp 18) rfl w.heap.size (.slice A2 (tkM M k).length c2) (tkM M k) rfl (oll_alloc (oll_below HO.out HB3.out) _) (by have := HB3.out.size; have := HB.out.size; simp; omega) ⟨w2.heap.size, 0, none⟩ 1 rfl A3 (rw_ M k).length c3 (rw_ M k) (cell_one _ _ _) rfl (oi_cap HO3.out) (il_in (oi_il HO3.out) (balloc (Below.refl _ _) _)) (oll_out HO.out (Nat.le_refl _) HO3.out) (by omega) ?_; intro A4 c4 w3 ho hg hcap; have HO4 := Lib.hid ho; have HC4 := Lib.hid hcap; have HB4 := Lib.hid (below_grown (balloc (bstep HB.out HB3.out) _) hg (by have := HB3.out.size; have := HB.out.size; simp; omega) (fun g hg => (oll_lt HO.out g hg).1)); clear ho hg hcap))
      go_roundw
      case rel => exact ⟨k + 1, A4, c4, by omega, by go_num, by rw [TN.out, LA.out], by rw [TN.out, LA.out]; exact HO4.out, by rw [TN.out, LA.out]; exact HC4.out, HB4.out⟩
      case measure => simp [intOf]; omega
    · obtain rfl : k = M.length := by omega
      have e3 : tkM M M.length = M := tkM_all rfl
      rw [e3] at ho hc2 ⊢
      go_wp2_with fail
      go_ret
      exact ⟨A2, c2, rfl, hc2, oll_ml ho, B⟩
set_option maxHeartbeats 2000000 in
theorem msame_any (A B : Option Addr) (c d : Nat) (M : List (List Int)) (w : World) (hA : ML w A M) (hB : ML w B M) (ln : M.length ≤ 1000) (wd : ∀ i, i < M.length → (rw_ M i).length ≤ 1000) :
    Calls Try.prog 27 #[.slice A M.length c, .slice B M.length d] w fun e w' => e = .returned (.bool true) ∧ Below w.heap.size w w' := by
  have HA := Lib.hid hA
  have HB := Lib.hid hB
  have SI := Lib.hid (fun W i R E cr ce (hi : i < M.length) (h1 : IL W R (rw_ M i)) (h2 : IL W E (rw_ M i)) => same_ints R E cr ce (rw_ M i) W h1 h2 (wd i hi))
  have nn : (M.length : Int) ≤ 1000 := by omega
  clear hA hB wd
  go_enter Try.func27, Try.ntmps27
  go_wp2_with fail
  go_loopw [5] (fun kv wr => ∃ k : Nat, k ≤ M.length ∧ kv = .int .i64 (k : Int) ∧ Below w.heap.size w wr) (fun kv _ => M.length - (intOf kv).toNat)
  case atStart => exact ⟨0, Nat.zero_le _, rfl, Below.refl _ _⟩
  case round =>
    rename World => wo
    obtain ⟨k, hk, rfl, Bw⟩ := hrel
    have BW := Lib.hid Bw
    by_cases hlt : k < M.length
    · have hk1 : (k : Int) < (M.length : Int) := by omega
      have hk0 : 0 ≤ (k : Int) := by omega
      obtain ⟨b1, o1, R, cr, rfl, hb1, hc1, _, hr1⟩ := ml_in HA.out Bw k hlt
      obtain ⟨b3, o3, E, ce, rfl, hb3, hc3, _, hr3⟩ := ml_in HB.out Bw k hlt
      have VT0 := Lib.hid (vt_of (w := wo) (w1 := wo) (x1 := b1) (y1 := o1 + k) (x3 := b3) (y3 := o3 + k) (R := R) (cr := cr) (E := E) (ce := ce) (q := (rw_ M k).length) ⟨hc1, hc3, Below.refl _ _, hb1, hb3⟩)
      have SIk := Lib.hid (fun W (B : Below wo.heap.size wo W) => SI.out W k R E cr ce hlt (il_in hr1 B) (il_in hr3 B))
      clear Bw hb1 hb3 hr1 hr3 hc1 hc3
      go_wp2_with fail
      go_region_held3 (fun w' => w'.cell? ⟨b1, (o1 + k), none⟩ = some (.slice R (rw_ M k).length cr) ∧ w'.cell? ⟨b3, (o3 + k), none⟩ = some (.slice E (rw_ M k).length ce) ∧ Below wo.heap.size wo w' ∧ b1 < w'.heap.size ∧ b3 < w'.heap.size)
        (first | with_reducible exact vt_s (vt_drew VT0.out) | with_reducible exact vt_s V1.out | fail)
        (first
          | (go_at_call 49; (with_reducible refine (SIk.out _ (vt_bel (vt_of (by assumption)))).mono ?_); rintro e w2 ⟨rfl, hb⟩; have V1 := Lib.hid (vt_below (vt_of (by assumption)) hb); clear hb)
          | fail)
      all_goals
        go_wp2_with fail
        go_roundw
        case rel => exact ⟨k + 1, by omega, by go_num, bstep BW.out (vt_bel V1.out)⟩
        case measure => simp [intOf]; omega
    · obtain rfl : k = M.length := by omega
      go_wp2_with fail
      go_ret
      exact ⟨rfl, Bw⟩
set_option maxHeartbeats 4000000 in
theorem rtransP_ok (A : Option Addr) (c : Nat) (M : List (List Int)) (w : World) (h : ML w A M) (hv : vcode M = 0) :
    Calls Try.prog 26 #[.slice A M.length c] w fun e w' => ∃ A' c', e = .returned (.tuple #[.slice A' (tr M).length c', .int .i64 0]) ∧ ML w' A' (tr M) ∧ Below w.heap.size w w' := by
  obtain ⟨n, m, q, n1, n6, m1, m6⟩ := sq_of hv
  obtain rfl : M.length = n := q.len
  have hm : (rw_ M 0).length = m := rw_len q (by omega)
  have CV := Lib.hid (fun W (B : Below w.heap.size w W) => rval6_any A c M W (ml_in h B) (by omega) (fun i hi => by rw [rw_len q hi]; omega))
  rw [hv] at CV
  have H := Lib.hid h
  have Q := Lib.hid q
  have SL := Lib.hid (show (tr M).length = m by rw [tr_len, hm])
  have SR := Lib.hid (fun j (hj : j < m) => tr_rlen M (j := j) (by omega))
  have SA := Lib.hid (fun i j (hi : i < M.length) (hj : j < m) => tr_at M (i := i) (j := j) hi (by omega))
  obtain ⟨b, o, A0, c0, rfl, hb0, hc0, hl0, hr0⟩ := h 0 (by omega)
  rw [hm] at hc0
  have hc0 : w.cell? ⟨b, o, none⟩ = some (.slice A0 m c0) := hc0
  have HC0 := Lib.hid hc0
  have HB0 := Lib.hid hb0
  have x0 : (0 : Int) < (M.length : Int) := by omega
  have x01 : 1 ≤ (M.length : Int) := by omega
  have x02 : 0 < M.length := by omega
  have x1 : (M.length : Int) ≤ 6 := by omega
  have x2 : (m : Int) ≤ 6 := by omega
  clear h hv q hl0 hr0 hm hc0 hb0
  generalize tr M = S at *
  go_enter Try.func26, Try.ntmps26
  go_wp2_with fail
  with_reducible refine (CV.out _ (Below.refl _ _)).mono ?_
  rintro e w2 ⟨rfl, hb⟩
  have HB := Lib.hid hb
  clear hb
  go_wp2_with fail
  go_loopw [5, 6] (fun av kv wr => ∃ j A c, j ≤ m ∧ kv = .int .i64 (j : Int) ∧ av = .slice A (tkM S j).length c ∧ OLL wr w.heap.size (.slice A (tkM S j).length c) (tkM S j) ∧ Below w.heap.size w wr) (fun _ kv _ => m - (intOf kv).toNat)
  case atStart => exact ⟨0, none, 0, Nat.zero_le _, rfl, rfl, oll_nil _ _, HB.out⟩
  case round =>
    clear HB
    rename World => wo
    obtain ⟨j, A2, c2, hj, rfl, rfl, ho, B⟩ := hrel
    have HO := Lib.hid ho
    have HB := Lib.hid B
    have hz0 := (B.cell (p := ⟨b, o, none⟩) HB0.out).trans HC0.out
    by_cases hjl : j < m
    · have hj1 : (j : Int) < (m : Int) := by omega
      have hj0 : 0 ≤ (j : Int) := by omega
      have hjS : j < S.length := by rw [SL.out]; exact hjl
      have TN := Lib.hid (tkM_next hjS)
      have LA := Lib.hid (show (tkM S j ++ [rw_ S j]).length = (tkM S j).length + 1 by simp)
      have TL : (tkM S j).length ≤ 1000 := by have := tkM_le S j; omega
      have LEN := Lib.hid (SR.out j hjl)
      clear ho B
      go_wp2_with fail
      go_loopw [7, 8] (fun sv iv wi => ∃ i A1 c1, i ≤ M.length ∧ iv = .int .i64 (i : Int) ∧ sv = .slice A1 (tkI (rw_ S j) i).length c1 ∧ OI wi wo.heap.size (.slice A1 (tkI (rw_ S j) i).length c1) (tkI (rw_ S j) i) ∧ Below wo.heap.size wo wi) (fun _ iv _ => M.length - (intOf iv).toNat)
      case atStart => exact ⟨0, none, 0, Nat.zero_le _, rfl, rfl, oi_nil _ _, Below.refl _ _⟩
      case round =>
        obtain ⟨i, A1, c1, hi, rfl, rfl, ho1, B1⟩ := hrel
        have HO1 := Lib.hid ho1
        have HB1 := Lib.hid B1
        by_cases hil : i < M.length
        · have hi1 : (i : Int) < (M.length : Int) := by omega
          have hi0 : 0 ≤ (i : Int) := by omega
          have BW := bstep HB.out B1
          obtain ⟨b', o', R, cr, he, hb, hc1, _, hr1⟩ := H.out i hil
          simp only [Option.some.injEq, Addr.mk.injEq, and_true] at he
          obtain ⟨rfl, rfl⟩ := he
          rw [rw_len Q.out hil] at hc1
          have hca := (BW.cell (p := ⟨b, o + i, none⟩) hb).trans hc1
          obtain ⟨be, oe, rfl, hbe, hce0⟩ := hr1 j (by rw [rw_len Q.out hil]; exact hjl)
          have hce := (BW.cell (p := ⟨be, oe + j, none⟩) hbe).trans hce0
          rw [← SA.out i j hil hjl] at hce
          have TN1 := Lib.hid (tkI_next (l := rw_ S j) (k := i) (by rw [LEN.out]; exact hil))
          have LN := Lib.hid (show (tkI (rw_ S j) i ++ [at_ (rw_ S j) i]).length = (tkI (rw_ S j) i).length + 1 by simp)
          have LB : (tkI (rw_ S j) i).length ≤ 1000 := by have := tkI_le (rw_ S j) i; omega
          clear ho1 B1 BW hc1 hr1 hce0 hb hbe
          go_wp2_with (at_builtin; refine wpI rfl (.tmp 28) (.tmp 36) rfl wo.heap.size (.slice A1 (tkI (rw_ S j) i).length c1) (tkI (rw_ S j) i) rfl (World.ownsRow.alloc HO1.out _) (by have := HB1.out.size; simp; omega) (some ⟨wr.heap.size, 0, none⟩) 1 1 [at_ (rw_ S j) i] rfl (il_one _ _) rfl (by omega) ((tkI (rw_ S j) i).length + 1) LN.out ?_; intro A3 c3 w3 ho hg _; have HO3 := Lib.hid ho; have HB3 := Lib.hid (below_grown (balloc HB1.out _) hg (by have := HB1.out.size; simp; omega) (fun g hg => (HO1.out.lt g hg).1)); clear ho hg)
          go_roundw
          case rel => exact ⟨i + 1, A3, c3, by omega, by go_num, by rw [TN1.out, LN.out], by rw [TN1.out, LN.out]; exact HO3.out, HB3.out⟩
          case measure => simp [intOf]; omega
        · obtain rfl : i = M.length := by omega
          have e3 : tkI (rw_ S j) M.length = rw_ S j := tkI_all LEN.out
          rw [e3] at HO1 ⊢
          clear ho1 B1 e3
          go_wp2_with (at_builtin; refine wpL rfl (.tmp 38) (.tmp 40) rfl w.heap.size (.slice A2 (tkM S j).length c2) (tkM S j) rfl (oll_alloc (oll_below HO.out HB1.out) _) (by have := HB1.out.size; have := HB.out.size; simp; omega) ⟨wr.heap.size, 0, none⟩ 1 rfl A1 (rw_ S j).length c1 (rw_ S j) (cell_one _ _ _) rfl (oi_cap HO1.out) (il_in (oi_il HO1.out) (balloc (Below.refl _ _) _)) (oll_out HO.out (Nat.le_refl _) HO1.out) (by omega) ?_; intro A3 c3 w3 ho hg _; have HO3 := Lib.hid ho; have HB3 := Lib.hid (below_grown (balloc (bstep HB.out HB1.out) _) hg (by have := HB1.out.size; have := HB.out.size; simp; omega) (fun g hg => (oll_lt HO.out g hg).1)); clear ho hg)
          go_roundw
          case rel => exact ⟨j + 1, A3, c3, by omega, by go_num, by rw [TN.out, LA.out], by rw [TN.out, LA.out]; exact HO3.out, HB3.out⟩
          case measure => simp [intOf]; omega
    · obtain rfl : j = m := by omega
      have e3 : tkM S j = S := tkM_all SL.out
      rw [e3] at ho ⊢
      go_wp2_with fail
      go_ret2
      exact ⟨A2, c2, rfl, oll_ml ho, B⟩
theorem rtransP_err (A : Option Addr) (c : Nat) (M : List (List Int)) (w : World) (h : ML w A M) (hn : M.length ≤ 1000) (hr : ∀ i, i < M.length → (rw_ M i).length ≤ 1000) (hv : vcode M ≠ 0) :
    Calls Try.prog 26 #[.slice A M.length c] w fun e w' => e = .returned (.tuple #[.slice none 0 0, .int .i64 (vcode M)]) ∧ Below w.heap.size w w' := by
  have CV := Lib.hid (rval6_any A c M w h hn hr)
  clear h hn hr
  generalize vcode M = e at *
  have t1 : (e != 0) = true := by simp [hv]
  have t2 : (e == 0) = false := by simp [hv]
  clear hv
  go_enter Try.func26, Try.ntmps26
  go_wp2_with fail
  with_reducible refine CV.out.mono ?_
  rintro e w2 ⟨rfl, hb⟩
  go_wp2_with fail
  go_ret2
  exact ⟨rfl, hb⟩

end Go.Proofs.Ytefmlcojbfiehaa
