/-
  The contracts of the document's has and bordered.
-/
import Derived.Test.YtllonfaogbdbnaaCr17
namespace Go.Proofs.Ytllonfaogbdbnaa
open Go.ChangeShapes Go.WideShapes Go.RowKit
open Cr
theorem cont_hit {l : List Int} {x : Int} {k : Nat} (h : k < l.length) (e : at_ l k = x) : l.contains x = true := by
  rw [List.contains_iff_mem]
  have : at_ l k = l[k] := by unfold at_; simp [List.getD, h]
  rw [← e, this]
  exact List.getElem_mem h
theorem cont_not {l : List Int} {x : Int} (h : ∀ k, k < l.length → at_ l k ≠ x) : l.contains x = false := by
  rw [Bool.eq_false_iff]
  intro c
  rw [List.contains_iff_mem] at c
  obtain ⟨k, hk, e⟩ := List.getElem_of_mem c
  refine h k hk ?_
  unfold at_; simp [List.getD, hk, e]
set_option maxHeartbeats 400000 in
theorem has_any (A : Option Addr) (c : Nat) (l : List Int) (x : Int) (w : World) (h : IL w A l) (hn : l.length ≤ 1000000) : Calls Try.prog 90 #[.slice A l.length c, .int .i64 x] w fun e w' => e = .returned (.bool (l.contains x)) ∧ w = w' := by
  obtain ⟨res, hres⟩ : ∃ res, l.contains x = res := ⟨_, rfl⟩
  have RES := Lib.hid hres
  have H := Lib.hid h
  have HIT := Lib.hid (fun k (hk : k < l.length) => cont_hit (x := x) hk)
  have NOT := Lib.hid (cont_not (l := l) (x := x))
  rw [hres]
  clear hres h
  obtain ⟨n, hnn⟩ : ∃ n, l.length = n := ⟨_, rfl⟩
  rw [hnn] at HIT NOT hn ⊢
  have NN := Lib.hid hnn
  clear hnn
  have hn' : (n : Int) ≤ 1000000 := by omega
  go_enter Try.func90, Try.ntmps90
  go_wp2
  go_loop [5] (fun kv => ∃ k : Nat, k ≤ n ∧ kv = .int .i64 k ∧ (∀ i, i < k → at_ l i ≠ x)) (fun kv => n - (intOf kv).toNat)
  case atStart => exact ⟨0, Nat.zero_le _, rfl, fun i hi => absurd hi (Nat.not_lt_zero i)⟩
  case round =>
    obtain ⟨k, hk, rfl, good⟩ := hrel
    have G := Lib.hid good
    clear good
    by_cases hlt : k < n
    · obtain ⟨b, o, rfl, hb, hc⟩ := H.out k (by rw [NN.out]; exact hlt)
      have hk1 : (k : Int) < (n : Int) := by omega
      have HITk := Lib.hid (HIT.out k hlt)
      have GS := Lib.hid (fun (z : at_ l k ≠ x) i (hi : i < k + 1) => if c : i < k then G.out i c else by rw [show i = k by omega]; exact z)
      generalize at_ l k = y at *
      by_cases e : y = x
      · have hf : res = true := by rw [← RES.out]; exact HITk.out e
        subst hf
        subst e
        go_wp2
        go_ret
        exact ⟨rfl, rfl⟩
      · have t1 : (y == x) = false := by simp [e]
        have GS := Lib.hid (GS.out e)
        clear e
        go_wp2
        go_round
        case rel => exact ⟨k + 1, by omega, by go_num, GS.out⟩
        case measure => simp [intOf]; omega
    · obtain rfl : k = n := by omega
      have hf : res = false := by rw [← RES.out]; exact NOT.out G.out
      subst hf
      go_wp2
      go_ret
      exact ⟨rfl, rfl⟩
set_option maxHeartbeats 2000000 in
theorem rbord_any (A R C : Option Addr) (c cr cc n m K : Nat) (M : List (List Int)) (rows cols : List Int) (i j : Int) (w : World) (h : Cho w A n m M R C K rows cols) (hi : 0 ≤ i ∧ i < n) (hj : 0 ≤ j ∧ j < m) :
    Calls Try.prog 50 #[.slice A n c, .slice R K cr, .slice C K cc, .int .i64 i, .int .i64 j] w fun e w' => e = .returned (.int .i64 (bord M rows cols i j)) ∧ Below w.heap.size w w' := by
  have H := Lib.hid h
  clear h
  cases hr : rows.contains i with
  | true =>
    rw [bord_1 hr]
    have C1 := Lib.hid (fun W (B : Below w.heap.size w W) => (hr ▸ has_any R cr rows i W (il_in H.out.rowsI B) (by rw [H.out.kr]; have := H.out.h6; omega) : Calls Try.prog 90 #[.slice R rows.length cr, .int .i64 i] W fun e w' => e = .returned (.bool true) ∧ W = w'))
    rw [H.out.kr] at C1
    clear hr
    go_enter Try.func50, Try.ntmps50
    go_wp2_with fail
    with_reducible refine (C1.out _ (Below.refl _ _)).mono ?_
    rintro e w2 ⟨rfl, rfl⟩
    go_wp2_with fail
    go_ret
    exact ⟨rfl, Below.refl _ _⟩
  | false =>
    have C1 := Lib.hid (fun W (B : Below w.heap.size w W) => (hr ▸ has_any R cr rows i W (il_in H.out.rowsI B) (by rw [H.out.kr]; have := H.out.h6; omega) : Calls Try.prog 90 #[.slice R rows.length cr, .int .i64 i] W fun e w' => e = .returned (.bool false) ∧ W = w'))
    rw [H.out.kr] at C1
    cases hc : cols.contains j with
    | true =>
      rw [bord_2 hc]
      have C2 := Lib.hid (fun W (B : Below w.heap.size w W) => (hc ▸ has_any C cc cols j W (il_in H.out.colsI B) (by rw [H.out.kc]; have := H.out.h6; omega) : Calls Try.prog 90 #[.slice C cols.length cc, .int .i64 j] W fun e w' => e = .returned (.bool true) ∧ W = w'))
      rw [H.out.kc] at C2
      clear hr hc
      go_enter Try.func50, Try.ntmps50
      go_wp2_with fail
      with_reducible refine (C1.out _ (Below.refl _ _)).mono ?_
      rintro e w2 ⟨rfl, rfl⟩
      go_wp2_with fail
      with_reducible refine (C2.out _ (Below.refl _ _)).mono ?_
      rintro e w2 ⟨rfl, rfl⟩
      go_wp2_with fail
      go_ret
      exact ⟨rfl, Below.refl _ _⟩
    | false =>
      rw [bord_3 hr hc]
      have C2 := Lib.hid (fun W (B : Below w.heap.size w W) => (hc ▸ has_any C cc cols j W (il_in H.out.colsI B) (by rw [H.out.kc]; have := H.out.h6; omega) : Calls Try.prog 90 #[.slice C cols.length cc, .int .i64 j] W fun e w' => e = .returned (.bool false) ∧ W = w'))
      rw [H.out.kc] at C2
      have DE := Lib.hid (fun W (B : Below w.heap.size w W) A2 c2 A3 c3 (h2 : IL W A2 (rows ++ [i])) (h3 : IL W A3 (cols ++ [j])) (k2 : K + 1 ≤ c2) (k3 : K + 1 ≤ c3) => rdet_any n m c M H.out.sq (K + 1) A A2 A3 c2 c3 (rows ++ [i]) (cols ++ [j]) W (by have := H.out.h6; omega) (by rw [List.length_append, H.out.kr]; rfl) (by rw [List.length_append, H.out.kc]; rfl) k2 k3 (ml_in H.out.mat B) h2 h3 (under_app H.out.ur hi) (under_app H.out.uc hj))
      have L1 := Lib.hid (show ([] ++ rows).length = K from H.out.kr)
      have L2 := Lib.hid (show ([] ++ rows ++ [i]).length = K + 1 by rw [List.length_append, L1.out]; rfl)
      have L3 := Lib.hid (show ([] ++ cols).length = K from H.out.kc)
      have L4 := Lib.hid (show ([] ++ cols ++ [j]).length = K + 1 by rw [List.length_append, L3.out]; rfl)
      have M0 := Lib.hid (oi_made w)
      have B0 := Lib.hid (show Below w.heap.size w (w.alloc (.cells #[] 3)) from balloc (Below.refl _ _) _)
      clear hr hc
      go_enter Try.func50, Try.ntmps50
      go_wp2_with fail
      with_reducible refine (C1.out _ (Below.refl _ _)).mono ?_
      rintro e w2 ⟨rfl, rfl⟩
      go_wp2_with fail
      with_reducible refine (C2.out _ (Below.refl _ _)).mono ?_
      rintro e w2 ⟨rfl, rfl⟩
      clear C1 C2
      go_wp2_with (first
        | (at_builtin; refine wpI rfl (.tmp 20) (.tmp 21) rfl w.heap.size (.slice (some ⟨w.heap.size, 0, none⟩) 0 0) [] rfl M0.out (by simp) R K cr rows rfl (il_in H.out.rowsI B0.out) H.out.kr.symm (by have := H.out.h6; simp; omega) K L1.out ?_; intro A1 c1 w1 ho hg _; have O1 := Lib.hid ho; have B1 := Lib.hid (below_grown B0.out hg B0.out.size (fun g hg => (M0.out.lt g hg).1)); clear ho hg)
        | (at_builtin; refine wpI rfl (.tmp 22) (.tmp 24) rfl w.heap.size (.slice A1 K c1) ([] ++ rows) rfl (O1.out.alloc _) (by have := B1.out.size; simp; omega) (some ⟨w1.heap.size, 0, none⟩) 1 1 [i] rfl (il_one _ _) rfl (by rw [L1.out]; have := H.out.h6; omega) (K + 1) L2.out ?_; intro A2 c2 w2 ho hg _; have O2 := Lib.hid ho; have B2 := Lib.hid (below_grown (balloc B1.out _) hg (by have := B1.out.size; simp; omega) (fun g hg => (O1.out.lt g hg).1)); have M2 := Lib.hid (oi_made w2); have N2 := Lib.hid (show Below w2.heap.size w2 (w2.alloc (.cells #[] 3)) from balloc (Below.refl _ _) _); clear ho hg)
        | (at_builtin; refine wpI rfl (.tmp 26) (.tmp 27) rfl w2.heap.size (.slice (some ⟨w2.heap.size, 0, none⟩) 0 0) [] rfl M2.out (by simp) C K cc cols rfl (il_in H.out.colsI (bstep B2.out N2.out)) H.out.kc.symm (by have := H.out.h6; simp; omega) K L3.out ?_; intro A3 c3 w3 ho hg _; have O3 := Lib.hid ho; have B3 := Lib.hid (below_grown N2.out hg N2.out.size (fun g hg => (M2.out.lt g hg).1)); clear ho hg)
        | (at_builtin; refine wpI rfl (.tmp 28) (.tmp 30) rfl w2.heap.size (.slice A3 K c3) ([] ++ cols) rfl (O3.out.alloc _) (by have := B3.out.size; simp; omega) (some ⟨w3.heap.size, 0, none⟩) 1 1 [j] rfl (il_one _ _) rfl (by rw [L3.out]; have := H.out.h6; omega) (K + 1) L4.out ?_; intro A4 c4 w4 ho hg _; have O4 := Lib.hid ho; have B4 := Lib.hid (below_grown (balloc B3.out _) hg (by have := B3.out.size; simp; omega) (fun g hg => (O3.out.lt g hg).1)); clear ho hg)
        | fail)
      obtain ⟨Ax, cx, ex, hx⟩ := oi_slice O2.out
      rw [L2.out] at ex hx
      injection ex with _ _ ex
      obtain ⟨Ay, cy, ey, hy⟩ := oi_slice O4.out
      rw [L4.out] at ey hy
      injection ey with _ _ ey
      subst ex ey
      with_reducible refine (DE.out _ (bstep B2.out B4.out) A2 c2 A4 c4 (il_in (oi_il O2.out) B4.out) (oi_il O4.out) hx hy).mono ?_
      rintro e w5 ⟨rfl, hb⟩
      have FIN := Lib.hid (bstep (bstep B2.out B4.out) hb)
      clear hb
      go_wp2_with fail
      go_ret
      exact ⟨rfl, FIN.out⟩

end Go.Proofs.Ytllonfaogbdbnaa
