/-
  The contracts of Product, in the program and in the document's answer; of SameInts at equal lists.
-/
import Derived.Test.YtllonfaogbdbnaaCrP1
namespace Go.Proofs.Ytllonfaogbdbnaa
open Go.ChangeShapes Go.WideShapes Go.RowKit
open Cr
/-- the products of all rows -/
def prL (M : List (List Int)) (x : List Int) : List Int := (List.range M.length).map fun i => ip (rw_ M i) x (rw_ M 0).length
def pcode (M : List (List Int)) (x : List Int) : Int := if vcode M = 0 then (if fitB M x then 0 else 1) else vcode M
def pL (M : List (List Int)) (x : List Int) : List Int := if pcode M x = 0 then prL M x else []
theorem prL_len (M : List (List Int)) (x : List Int) : (prL M x).length = M.length := by unfold prL; simp
theorem prL_at (M : List (List Int)) (x : List Int) {i : Nat} (h : i < M.length) : at_ (prL M x) i = ip (rw_ M i) x (rw_ M 0).length := by unfold prL at_; simp [List.getD, h]
theorem pcode_v {M : List (List Int)} {x : List Int} (h : vcode M ≠ 0) : pcode M x = vcode M ∧ pL M x = [] := by
  have e : pcode M x = vcode M := if_neg h
  exact ⟨e, by unfold pL; rw [e, if_neg h]⟩
theorem pcode_1 {M : List (List Int)} {x : List Int} (h : vcode M = 0) (b : fitB M x = false) : pcode M x = 1 ∧ pL M x = [] := by
  have e : pcode M x = 1 := by unfold pcode; rw [if_pos h, b]; rfl
  exact ⟨e, by unfold pL; rw [e]; rfl⟩
theorem pcode_0 {M : List (List Int)} {x : List Int} (h : vcode M = 0) (b : fitB M x = true) : pcode M x = 0 ∧ pL M x = prL M x := by
  have e : pcode M x = 0 := by unfold pcode; rw [if_pos h, b]; rfl
  exact ⟨e, by unfold pL; rw [e]; rfl⟩
theorem take_next {l : List Int} {k : Nat} (h : k < l.length) : l.take (k + 1) = l.take k ++ [at_ l k] := by
  rw [List.take_succ_eq_append_getElem h]
  unfold at_
  simp [List.getD, h]
theorem il_nil (w : World) (A : Option Addr) : IL w A [] := fun k hk => absurd hk (Nat.not_lt_zero k)
set_option maxHeartbeats 2000000 in
theorem prodP_any (A X : Option Addr) (c cx : Nat) (M : List (List Int)) (x : List Int) (w : World) (hM : ML w A M) (ln : M.length ≤ 1000) (wd : ∀ i, i < M.length → (rw_ M i).length ≤ 1000) (hx : IL w X x) (nx : x.length ≤ 1000) :
    Calls Try.prog 24 #[.slice A M.length c, .slice X x.length cx] w fun e w' => ∃ A' c', e = .returned (.tuple #[.slice A' (pL M x).length c', .int .i64 (pcode M x)]) ∧ IL w' A' (pL M x) ∧ Below w.heap.size w w' := by
  have CV := Lib.hid (fun W (B : Below w.heap.size w W) => val6_any A c M W (ml_in hM B) ln wd)
  by_cases hv : vcode M = 0
  · obtain ⟨n, m, q, n1, n6, m1, m6⟩ := sq_of hv
    obtain rfl : M.length = n := q.len
    have hm : (rw_ M 0).length = m := rw_len q (by omega)
    have FI := Lib.hid (fun W (B : Below w.heap.size w W) => isf_any A X c cx M x W (ml_in hM B) (by omega) ln (il_in hx B) nx)
    rw [hv] at CV
    cases hf : fitB M x with
    | false =>
      obtain ⟨e1, e2⟩ := pcode_1 hv hf
      rw [hf] at FI
      rw [e1, e2]
      clear hM ln wd hx nx hv hf e1 e2 q
      go_enter Try.func24, Try.ntmps24
      go_wp2_with fail
      with_reducible refine (CV.out _ (Below.refl _ _)).mono ?_
      rintro e w2 ⟨rfl, rfl⟩
      have HB := Lib.hid (Below.refl w.heap.size w)
      go_wp2_with fail
      with_reducible refine (FI.out _ HB.out).mono ?_
      rintro e w3 ⟨rfl, rfl⟩
      go_wp2_with fail
      go_ret2
      exact ⟨none, 0, rfl, il_nil _ _, HB.out⟩
    | true =>
      obtain ⟨e1, e2⟩ := pcode_0 hv hf
      obtain ⟨fx, bx⟩ := fitB_of hf
      rw [hf] at FI
      rw [e1, e2]
      rw [hm] at fx
      have PL := Lib.hid (prL_len M x)
      have PA := Lib.hid (fun i (hi : i < M.length) => prL_at M x hi)
      rw [hm] at PA
      have IN := Lib.hid (fun W (B : Below w.heap.size w W) i (hi : i < M.length) R cr (hr : IL W R (rw_ M i)) => inner_any R X cr cx m (rw_ M i) x W hr (il_in hx B) (rw_len q hi) fx m6 (fun k hk => q.at hi hk) (fun k hk => bx k (by omega)))
      have H := Lib.hid hM
      have RL := Lib.hid (fun i (hi : i < M.length) => rw_len q hi)
      have nn : (M.length : Int) ≤ 6 := by omega
      rw [fx] at FI ⊢
      clear hM ln wd hx nx hv hf e1 e2 q fx bx hm
      generalize prL M x = P at *
      rw [PL.out]
      go_enter Try.func24, Try.ntmps24
      go_wp2_with fail
      with_reducible refine (CV.out _ (Below.refl _ _)).mono ?_
      rintro e w2 ⟨rfl, rfl⟩
      have HB := Lib.hid (Below.refl w.heap.size w)
      go_wp2_with fail
      with_reducible refine (FI.out _ HB.out).mono ?_
      rintro e w3 ⟨rfl, rfl⟩
      go_wp2_with fail
      go_loopw [7, 21] (fun pv kv wr => ∃ k A' c', k ≤ M.length ∧ kv = .int .i64 (k : Int) ∧ pv = .slice A' k c' ∧ OI wr w.heap.size (.slice A' k c') (P.take k) ∧ Below w.heap.size w wr) (fun _ kv _ => M.length - (intOf kv).toNat)
      case atStart => exact ⟨0, none, 0, Nat.zero_le _, rfl, rfl, by rw [List.take_zero]; exact oi_nil _ _, HB.out⟩
      case round =>
        clear HB
        obtain ⟨k, A2, c2, hk, rfl, rfl, ho, B⟩ := hrel
        have HO := Lib.hid ho
        have HB := Lib.hid B
        by_cases hlt : k < M.length
        · have hk1 : (k : Int) < (M.length : Int) := by omega
          have hk0 : 0 ≤ (k : Int) := by omega
          obtain ⟨b, o, A1, c1, rfl, hb, hc1, hl1, hr1⟩ := H.out k hlt
          rw [RL.out k hlt] at hc1
          have hca := (B.cell (p := ⟨b, o + k, none⟩) hb).trans hc1
          have HR1 := Lib.hid (il_in hr1 B)
          have INk := Lib.hid (IN.out wr B k hlt A1 c1 HR1.out)
          clear hc1 hr1 hl1
          have TN := Lib.hid (take_next (l := P) (k := k) (by rw [PL.out]; exact hlt))
          have TL := Lib.hid (show (P.take k).length = k by rw [List.length_take, PL.out]; omega)
          have TL2 := Lib.hid (show (P.take k ++ [at_ P k]).length = k + 1 by rw [List.length_append, TL.out]; rfl)
          have PAk := PA.out k hlt
          rw [← PAk] at INk
          clear ho B PAk
          go_wp2_with fail
          with_reducible refine INk.out.mono ?_
          rintro e w3 ⟨rfl, rfl⟩
          have HO3 := HO
          have HB3 := HB
          go_wp2_with (at_builtin; refine wpI rfl (.tmp 25) (.tmp 29) rfl w.heap.size (.slice A2 k c2) (P.take k) rfl (World.ownsRow.alloc HO3.out _) (by have := HB3.out.size; simp; omega) (some ⟨wr.heap.size, 0, none⟩) 1 1 [at_ P k] rfl (il_one _ _) rfl (by rw [TL.out]; omega) (k + 1) TL2.out ?_; intro A4 c4 w4 ho hg _; have HO4 := Lib.hid ho; have HB4 := Lib.hid (below_grown (balloc HB3.out _) hg (by have := HB3.out.size; simp; omega) (fun g hg => (HO3.out.lt g hg).1)); clear ho hg)
          go_roundw
          case rel => exact ⟨k + 1, A4, c4, by omega, by go_num, rfl, by rw [TN.out]; exact HO4.out, HB4.out⟩
          case measure => simp [intOf]; omega
        · obtain rfl : k = M.length := by omega
          have e3 : P.take M.length = P := by rw [← PL.out]; exact List.take_of_length_le (Nat.le_refl _)
          rw [e3] at ho
          go_wp2_with fail
          go_ret2
          exact ⟨A2, c2, rfl, oi_il ho, B⟩
  · obtain ⟨e1, e2⟩ := pcode_v (x := x) hv
    rw [e1, e2]
    clear hM ln wd hx nx e1 e2
    generalize vcode M = e at *
    have t1 : (e != 0) = true := by simp [hv]
    have t2 : (e == 0) = false := by simp [hv]
    clear hv
    go_enter Try.func24, Try.ntmps24
    go_wp2_with fail
    with_reducible refine (CV.out _ (Below.refl _ _)).mono ?_
    rintro e w2 ⟨rfl, rfl⟩
    have HB := Lib.hid (Below.refl w.heap.size w)
    go_wp2_with fail
    go_ret2
    exact ⟨none, 0, rfl, il_nil _ _, HB.out⟩
end Go.Proofs.Ytllonfaogbdbnaa
