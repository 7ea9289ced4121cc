/-
  The contract of bordered (a determinant with one row and column more).
-/
import Derived.Test.YtllonfaogbdbnaaCr14
namespace Go.Proofs.Ytllonfaogbdbnaa
open Go.ChangeShapes Go.WideShapes Go.RowKit
open Cr
theorem setB1_of {l : List Int} {n : Int} {k : Nat} (h : setB1 l n k = true) : 0 ≤ at_ l k ∧ at_ l k ≤ n - 1 ∧ (0 < k → at_ l (k - 1) < at_ l k) := by
  unfold setB1 at h
  simp only [Bool.and_eq_true, Bool.not_eq_true', Bool.and_eq_false_imp, decide_eq_true_eq, decide_eq_false_iff_not] at h
  have h1 := inr_iff.1 h.1
  exact ⟨h1.1, h1.2, fun hk => by have := h.2 hk; omega⟩
theorem setB_of {l : List Int} {n : Int} (h : setB l n = true) {k : Nat} (hk : k < l.length) : setB1 l n k = true := by
  unfold setB at h
  rw [List.all_eq_true] at h
  exact h k (List.mem_range.2 hk)
theorem setB_up {l : List Int} {n : Int} (h : setB l n = true) : ∀ k, k < l.length → (k : Int) ≤ at_ l k
  | 0, hk => (setB1_of (setB_of h hk)).1
  | k + 1, hk => by
    have h1 := setB_up h k (by omega)
    have h2 := (setB1_of (setB_of h hk)).2.2 (by omega)
    rw [show k + 1 - 1 = k from rfl] at h2
    omega
theorem under_of {l : List Int} {n : Nat} (h : setB l n = true) : Under l n ∧ l.length ≤ n := by
  refine ⟨fun k hk => ?_, ?_⟩
  · have := setB1_of (setB_of h hk)
    omega
  · rcases Nat.eq_zero_or_pos l.length with h0 | h0
    · omega
    · have h1 := setB_up h (l.length - 1) (by omega)
      have h2 := setB1_of (setB_of h (k := l.length - 1) (by omega))
      omega
theorem at_app (l : List Int) (x : Int) (k : Nat) : at_ (l ++ [x]) k = if k < l.length then at_ l k else if k = l.length then x else 0 := by
  unfold at_
  simp only [List.getD]
  by_cases h : k < l.length
  · rw [List.getElem?_append_left h, if_pos h]
  · rw [if_neg h]
    by_cases e : k = l.length
    · subst e; simp
    · rw [if_neg e, List.getElem?_eq_none (by simp; omega)]; rfl
theorem under_app {l : List Int} {n : Nat} (h : Under l n) {x : Int} (hx : 0 ≤ x ∧ x < n) : Under (l ++ [x]) n := fun k hk => by
  rw [List.length_append] at hk
  rw [at_app]
  split
  · exact h k (by assumption)
  · split
    · exact hx
    · exfalso; simp at hk; omega
/-- the determinant with the row i and the column j at the end; 0 if one of them is there already -/
def bord (M : List (List Int)) (rows cols : List Int) (i j : Int) : Int := if rows.contains i || cols.contains j then 0 else detR M (rows ++ [i]) (cols ++ [j])
theorem bord_1 {M : List (List Int)} {rows cols : List Int} {i j : Int} (h : rows.contains i = true) : bord M rows cols i j = 0 := by unfold bord; rw [h]; rfl
theorem bord_2 {M : List (List Int)} {rows cols : List Int} {i j : Int} (h : cols.contains j = true) : bord M rows cols i j = 0 := by unfold bord; rw [h]; simp
theorem bord_3 {M : List (List Int)} {rows cols : List Int} {i j : Int} (h1 : rows.contains i = false) (h2 : cols.contains j = false) : bord M rows cols i j = detR M (rows ++ [i]) (cols ++ [j]) := by unfold bord; rw [h1, h2]; rfl
/-- a choice as a value -/
abbrev chv (A : Option Addr) (n c : Nat) (R : Option Addr) (K cr : Nat) (C : Option Addr) (K' cc : Nat) (d : Int) : Value := .agg #[.slice A n c, .slice R K cr, .slice C K' cc, .int .i64 d]
abbrev chb (A : Option Addr) (n c : Nat) (R : Option Addr) (K cr : Nat) (C : Option Addr) (K' cc : Nat) (d : Int) : Obj := .cells #[.slice A n c, .slice R K cr, .slice C K' cc, .int .i64 d] 88
/-- what is known of a choice that is one -/
structure Cho (w : World) (A : Option Addr) (n m : Nat) (M : List (List Int)) (R C : Option Addr) (K : Nat) (rows cols : List Int) : Prop where
  mat : ML w A M
  sq : Sq n m M
  rowsI : IL w R rows
  colsI : IL w C cols
  ur : Under rows n
  uc : Under cols m
  kr : rows.length = K
  kc : cols.length = K
  h6 : K ≤ 6
  hn : n ≤ 6
  hm : m ≤ 6
theorem cho_in {w w1 : World} {A R C : Option Addr} {n m K : Nat} {M : List (List Int)} {rows cols : List Int} (h : Cho w A n m M R C K rows cols) (hb : Below w.heap.size w w1) : Cho w1 A n m M R C K rows cols :=
  ⟨ml_in h.mat hb, h.sq, il_in h.rowsI hb, il_in h.colsI hb, h.ur, h.uc, h.kr, h.kc, h.h6, h.hn, h.hm⟩
def BS (w : World) (A : Option Addr) (n c : Nat) (R : Option Addr) (K cr : Nat) (C : Option Addr) (K' cc : Nat) (w' : World) : Prop :=
  w'.cell? ⟨w.heap.size, 0, none⟩ = some (.slice A n c) ∧ w'.cell? ⟨w.heap.size, 1, none⟩ = some (.slice R K cr) ∧ w'.cell? ⟨w.heap.size, 2, none⟩ = some (.slice C K' cc) ∧ Below w.heap.size w w' ∧ w.heap.size < w'.heap.size
theorem bs_new (w : World) (A : Option Addr) (n c : Nat) (R : Option Addr) (K cr : Nat) (C : Option Addr) (K' cc : Nat) (d : Int) : BS w A n c R K cr C K' cc (w.alloc (chb A n c R K cr C K' cc d)) :=
  ⟨by go_simp, by go_simp, by go_simp, balloc (Below.refl _ _) _, by simp⟩
theorem bs_below {w : World} {A : Option Addr} {n c : Nat} {R : Option Addr} {K cr : Nat} {C : Option Addr} {K' cc : Nat} {w1 w2 : World} (h : BS w A n c R K cr C K' cc w1) (hb : Below w1.heap.size w1 w2) : BS w A n c R K cr C K' cc w2 := by
  obtain ⟨h0, h1, h2, h3, h4⟩ := h
  exact ⟨(hb.cell (p := ⟨w.heap.size, 0, none⟩) h4).trans h0, (hb.cell (p := ⟨w.heap.size, 1, none⟩) h4).trans h1, (hb.cell (p := ⟨w.heap.size, 2, none⟩) h4).trans h2, bstep h3 hb, Nat.lt_of_lt_of_le h4 hb.size⟩
theorem bs_drew {w : World} {A : Option Addr} {n c : Nat} {R : Option Addr} {K cr : Nat} {C : Option Addr} {K' cc : Nat} {w1 : World} (h : BS w A n c R K cr C K' cc w1) : BS w A n c R K cr C K' cc w1.drew := by
  obtain ⟨h0, h1, h2, h3, h4⟩ := h
  exact ⟨h0, h1, h2, Below.drew h3, h4⟩
theorem bs_s {w : World} {A : Option Addr} {n c : Nat} {R : Option Addr} {K cr : Nat} {C : Option Addr} {K' cc : Nat} {w1 : World} (h : BS w A n c R K cr C K' cc w1) : w1.cell? ⟨w.heap.size, 0, none⟩ = some (.slice A n c) ∧ w1.cell? ⟨w.heap.size, 1, none⟩ = some (.slice R K cr) ∧ w1.cell? ⟨w.heap.size, 2, none⟩ = some (.slice C K' cc) ∧ Below w.heap.size w w1 ∧ w.heap.size < w1.heap.size := h
theorem bs_of {w : World} {A : Option Addr} {n c : Nat} {R : Option Addr} {K cr : Nat} {C : Option Addr} {K' cc : Nat} {w1 : World} (h : w1.cell? ⟨w.heap.size, 0, none⟩ = some (.slice A n c) ∧ w1.cell? ⟨w.heap.size, 1, none⟩ = some (.slice R K cr) ∧ w1.cell? ⟨w.heap.size, 2, none⟩ = some (.slice C K' cc) ∧ Below w.heap.size w w1 ∧ w.heap.size < w1.heap.size) : BS w A n c R K cr C K' cc w1 := h
theorem BS.bel {w : World} {A : Option Addr} {n c : Nat} {R : Option Addr} {K cr : Nat} {C : Option Addr} {K' cc : Nat} {w1 : World} (h : BS w A n c R K cr C K' cc w1) : Below w.heap.size w w1 := h.2.2.2.1
set_option maxHeartbeats 1000000 in
theorem bord_any (A R C : Option Addr) (c cr cc n m K : Nat) (d : Int) (M : List (List Int)) (rows cols : List Int) (i j : Int) (w : World) (h : Cho w A n m M R C K rows cols) (hi : 0 ≤ i ∧ i < n) (hj : 0 ≤ j ∧ j < m) :
    Calls Try.prog 48 #[chv A n c R K cr C K cc d, .int .i64 i, .int .i64 j] w fun e w' => e = .returned (.int .i64 (bord M rows cols i j)) ∧ Below w.heap.size w w' := by
  have H := Lib.hid h
  have ND := Lib.hid (bs_new w A n c R K cr C K cc d)
  obtain ⟨q0, q1, q2, _, _⟩ := bs_s ND.out
  clear h
  cases hr : rows.contains i with
  | true =>
    rw [bord_1 hr]
    have C1 := Lib.hid (fun W (B : Below w.heap.size w W) => (hr ▸ cont_any R cr rows i W (il_in H.out.rowsI B) (by rw [H.out.kr]; have := H.out.h6; omega) : Calls Try.prog 86 #[.slice R rows.length cr, .int .i64 i] W fun e w' => e = .returned (.bool true) ∧ W = w'))
    rw [H.out.kr] at C1
    clear hr
    go_enter Try.func48, Try.ntmps48
    go_wp2_with fail
    with_reducible refine (C1.out _ ND.out.bel).mono ?_
    rintro e w2 ⟨rfl, rfl⟩
    go_wp2_with fail
    go_ret
    exact ⟨rfl, ND.out.bel⟩
  | false =>
    have C1 := Lib.hid (fun W (B : Below w.heap.size w W) => (hr ▸ cont_any R cr rows i W (il_in H.out.rowsI B) (by rw [H.out.kr]; have := H.out.h6; omega) : Calls Try.prog 86 #[.slice R rows.length cr, .int .i64 i] W fun e w' => e = .returned (.bool false) ∧ W = w'))
    rw [H.out.kr] at C1
    cases hc : cols.contains j with
    | true =>
      rw [bord_2 hc]
      have C2 := Lib.hid (fun W (B : Below w.heap.size w W) => (hc ▸ cont_any C cc cols j W (il_in H.out.colsI B) (by rw [H.out.kc]; have := H.out.h6; omega) : Calls Try.prog 86 #[.slice C cols.length cc, .int .i64 j] W fun e w' => e = .returned (.bool true) ∧ W = w'))
      rw [H.out.kc] at C2
      clear hr hc
      go_enter Try.func48, Try.ntmps48
      go_wp2_with fail
      with_reducible refine (C1.out _ ND.out.bel).mono ?_
      rintro e w2 ⟨rfl, rfl⟩
      go_wp2_with fail
      with_reducible refine (C2.out _ ND.out.bel).mono ?_
      rintro e w2 ⟨rfl, rfl⟩
      go_wp2_with fail
      go_ret
      exact ⟨rfl, ND.out.bel⟩
    | false =>
      rw [bord_3 hr hc]
      have C2 := Lib.hid (fun W (B : Below w.heap.size w W) => (hc ▸ cont_any C cc cols j W (il_in H.out.colsI B) (by rw [H.out.kc]; have := H.out.h6; omega) : Calls Try.prog 86 #[.slice C cols.length cc, .int .i64 j] W fun e w' => e = .returned (.bool false) ∧ W = w'))
      rw [H.out.kc] at C2
      have W1 := Lib.hid (fun W (B : Below w.heap.size w W) => with_any R cr K rows i W (il_in H.out.rowsI B) H.out.kr (by have := H.out.h6; omega))
      have W2 := Lib.hid (fun W (B : Below w.heap.size w W) => with_any C cc K cols j W (il_in H.out.colsI B) H.out.kc (by have := H.out.h6; omega))
      have MI := Lib.hid (fun W (B : Below w.heap.size w W) A2 c2 A3 c3 (h2 : IL W A2 (rows ++ [i])) (h3 : IL W A3 (cols ++ [j])) => minor_any A A2 A3 c c2 c3 n m (K + 1) M (rows ++ [i]) (cols ++ [j]) W (ml_in H.out.mat B) H.out.sq h2 h3 (under_app H.out.ur hi) (under_app H.out.uc hj) (by rw [List.length_append, H.out.kr]; rfl) (by rw [List.length_append, H.out.kc]; rfl) (by have := H.out.h6; omega))
      clear hr hc
      go_enter Try.func48, Try.ntmps48
      go_wp2_with fail
      with_reducible refine (C1.out _ ND.out.bel).mono ?_
      rintro e w2 ⟨rfl, rfl⟩
      go_wp2_with fail
      with_reducible refine (C2.out _ ND.out.bel).mono ?_
      rintro e w2 ⟨rfl, rfl⟩
      go_wp2_with fail
      clear C1 C2 q0 q1 q2
      generalize w.alloc (chb A n c R K cr C K cc d) = W0 at *
      go_region_held3 (fun w' => w'.cell? ⟨w.heap.size, 0, none⟩ = some (.slice A n c) ∧ w'.cell? ⟨w.heap.size, 1, none⟩ = some (.slice R K cr) ∧ w'.cell? ⟨w.heap.size, 2, none⟩ = some (.slice C K cc) ∧ Below w.heap.size w w' ∧ w.heap.size < w'.heap.size)
        (first | with_reducible exact bs_s (bs_drew ND.out) | with_reducible exact bs_s S1.out | with_reducible exact bs_s S2.out | with_reducible exact bs_s S3.out | fail)
        (first
          | (go_at_call 87; (with_reducible refine (W1.out _ (BS.bel (bs_of (by assumption)))).mono ?_); rintro e w2 ⟨A2, c2, rfl, hI1, hb⟩; have S1 := Lib.hid (bs_below (bs_of (by assumption)) hb); have I1 := Lib.hid hI1; have hb1 := Lib.hid hb; clear hI1 hb)
          | (go_at_call 87; (with_reducible refine (W2.out _ (BS.bel (bs_of (by assumption)))).mono ?_); rintro e w3 ⟨A3, c3, rfl, hI2, hb⟩; have S2 := Lib.hid (bs_below (bs_of (by assumption)) hb); have I2 := Lib.hid hI2; have hb2 := Lib.hid hb; clear hI2 hb)
          | (go_at_call 58; (with_reducible refine (MI.out _ (BS.bel (bs_of (by assumption))) A2 c2 A3 c3 (by first | exact I1.out | exact il_in I1.out hb2.out) (by first | exact I2.out | exact il_in I2.out hb1.out)).mono ?_); rintro e w4 ⟨rfl, hb⟩; have S3 := Lib.hid (bs_below (bs_of (by assumption)) hb); clear hb)
          | fail)
      all_goals
        go_wp2_with fail
        go_ret
        exact ⟨rfl, S3.out.bel⟩

end Go.Proofs.Ytllonfaogbdbnaa
