/-
  The contracts of Residual, in the program and in the document's answer.
-/
import Derived.Test.YtllonfaogbdbnaaCr19
namespace Go.Proofs.Ytllonfaogbdbnaa
open Go.ChangeShapes Go.WideShapes Go.RowKit
open Cr
/-- what Residual answers -/
def resd (M : List (List Int)) (rows cols : List Int) (i j : Int) : (Int × Int) × Int :=
  if (dvz M rows cols).2 = 0 then (if inr i 0 (M.length - 1) && inr j 0 ((rw_ M 0).length - 1) then (ratq (bord M rows cols i j) (detR M rows cols), 0) else ((0, 0), 5)) else ((0, 0), (dvz M rows cols).2)
theorem dvz_ok {M : List (List Int)} {rows cols : List Int} (h : (dvz M rows cols).2 = 0) : kcode M rows cols = 0 ∧ detR M rows cols ≠ 0 ∧ (dvz M rows cols).1 = detR M rows cols := by
  unfold dvz at *
  split at h
  · rename_i k
    rw [if_pos k]
    split at h
    · cases h
    · rename_i d
      rw [if_neg d]
      exact ⟨k, d, rfl⟩
  · rename_i k; exact absurd h k
theorem bord_bd {w : World} {A R C : Option Addr} {n m K : Nat} {M : List (List Int)} {rows cols : List Int} {i j : Int} (h : Cho w A n m M R C K rows cols) (hi : 0 ≤ i ∧ i < n) (hj : 0 ≤ j ∧ j < m) : -504000000000000000 ≤ bord M rows cols i j ∧ bord M rows cols i j ≤ 504000000000000000 := by
  unfold bord
  split
  · decide
  · have := detR_bd h.sq (under_app h.ur hi) (under_app h.uc hj) (K := K + 1) (by rw [List.length_append, h.kr]; rfl) (by rw [List.length_append, h.kc]; rfl)
    have l := fB_le (n := K + 1) (by have := h.h6; omega)
    omega
theorem detC_bd {w : World} {A R C : Option Addr} {n m K : Nat} {M : List (List Int)} {rows cols : List Int} (h : Cho w A n m M R C K rows cols) : -504000000000000000 ≤ detR M rows cols ∧ detR M rows cols ≤ 504000000000000000 := by
  have := detR_bd h.sq h.ur h.uc h.kr h.kc
  have l := fB_le (n := K) (by have := h.h6; omega)
  omega
/-- a choice in the block q, the result of two numbers in the first block of the call's own -/
def QS (w : World) (q : Nat) (A : Option Addr) (n c : Nat) (R : Option Addr) (K cr : Nat) (C : Option Addr) (K' cc : Nat) (d : Int) (w' : World) : Prop := w'.cell? ⟨q, 0, none⟩ = some (.slice A n c) ∧ w'.cell? ⟨q, 1, none⟩ = some (.slice R K cr) ∧ w'.cell? ⟨q, 2, none⟩ = some (.slice C K' cc) ∧ w'.cell? ⟨q, 3, none⟩ = some (.int .i64 d) ∧ w'.cell? ⟨w.heap.size, 0, none⟩ = some (.int .i64 0) ∧ w'.cell? ⟨w.heap.size, 1, none⟩ = some (.int .i64 0) ∧ w'.frozen? ⟨w.heap.size, 0, none⟩ = false ∧ w'.frozen? ⟨w.heap.size, 1, none⟩ = false ∧ Below w.heap.size w w' ∧ w.heap.size < w'.heap.size ∧ q < w'.heap.size
theorem qs_s {w : World} {q : Nat} {A : Option Addr} {n c : Nat} {R : Option Addr} {K cr : Nat} {C : Option Addr} {K' cc : Nat} {d : Int} {w1 : World} (h : QS w q A n c R K cr C K' cc d w1) : w1.cell? ⟨q, 0, none⟩ = some (.slice A n c) ∧ w1.cell? ⟨q, 1, none⟩ = some (.slice R K cr) ∧ w1.cell? ⟨q, 2, none⟩ = some (.slice C K' cc) ∧ w1.cell? ⟨q, 3, none⟩ = some (.int .i64 d) ∧ w1.cell? ⟨w.heap.size, 0, none⟩ = some (.int .i64 0) ∧ w1.cell? ⟨w.heap.size, 1, none⟩ = some (.int .i64 0) ∧ w1.frozen? ⟨w.heap.size, 0, none⟩ = false ∧ w1.frozen? ⟨w.heap.size, 1, none⟩ = false ∧ Below w.heap.size w w1 ∧ w.heap.size < w1.heap.size ∧ q < w1.heap.size := h
theorem qs_of {w : World} {q : Nat} {A : Option Addr} {n c : Nat} {R : Option Addr} {K cr : Nat} {C : Option Addr} {K' cc : Nat} {d : Int} {w1 : World} (h : w1.cell? ⟨q, 0, none⟩ = some (.slice A n c) ∧ w1.cell? ⟨q, 1, none⟩ = some (.slice R K cr) ∧ w1.cell? ⟨q, 2, none⟩ = some (.slice C K' cc) ∧ w1.cell? ⟨q, 3, none⟩ = some (.int .i64 d) ∧ w1.cell? ⟨w.heap.size, 0, none⟩ = some (.int .i64 0) ∧ w1.cell? ⟨w.heap.size, 1, none⟩ = some (.int .i64 0) ∧ w1.frozen? ⟨w.heap.size, 0, none⟩ = false ∧ w1.frozen? ⟨w.heap.size, 1, none⟩ = false ∧ Below w.heap.size w w1 ∧ w.heap.size < w1.heap.size ∧ q < w1.heap.size) : QS w q A n c R K cr C K' cc d w1 := h
theorem QS.bel {w : World} {q : Nat} {A : Option Addr} {n c : Nat} {R : Option Addr} {K cr : Nat} {C : Option Addr} {K' cc : Nat} {d : Int} {w1 : World} (h : QS w q A n c R K cr C K' cc d w1) : Below w.heap.size w w1 := h.2.2.2.2.2.2.2.2.1
theorem qs_drew {w : World} {q : Nat} {A : Option Addr} {n c : Nat} {R : Option Addr} {K cr : Nat} {C : Option Addr} {K' cc : Nat} {d : Int} {w1 : World} (h : QS w q A n c R K cr C K' cc d w1) : QS w q A n c R K cr C K' cc d w1.drew := by
  obtain ⟨h0, h1, h2, h3, h4, h5, h6, h7, h8, h9, h10⟩ := h
  exact ⟨h0, h1, h2, h3, h4, h5, h6, h7, Below.drew h8, h9, h10⟩
theorem qs_below {w : World} {q : Nat} {A : Option Addr} {n c : Nat} {R : Option Addr} {K cr : Nat} {C : Option Addr} {K' cc : Nat} {d : Int} {w1 w2 : World} (h : QS w q A n c R K cr C K' cc d w1) (hb : Below w1.heap.size w1 w2) : QS w q A n c R K cr C K' cc d w2 := by
  obtain ⟨h0, h1, h2, h3, h4, h5, h6, h7, h8, h9, h10⟩ := h
  exact ⟨(hb.cell (p := ⟨q, 0, none⟩) h10).trans h0, (hb.cell (p := ⟨q, 1, none⟩) h10).trans h1, (hb.cell (p := ⟨q, 2, none⟩) h10).trans h2, (hb.cell (p := ⟨q, 3, none⟩) h10).trans h3, (hb.cell (p := ⟨w.heap.size, 0, none⟩) h9).trans h4, (hb.cell (p := ⟨w.heap.size, 1, none⟩) h9).trans h5, (hb.frozen (p := ⟨w.heap.size, 0, none⟩) h9).trans h6, (hb.frozen (p := ⟨w.heap.size, 1, none⟩) h9).trans h7, bstep h8 hb, Nat.lt_of_lt_of_le h9 hb.size, Nat.lt_of_lt_of_le h10 hb.size⟩
/-- the result's two cells -/
def RZ (w w' : World) : Prop := w'.cell? ⟨w.heap.size, 0, none⟩ = some (.int .i64 0) ∧ w'.cell? ⟨w.heap.size, 1, none⟩ = some (.int .i64 0) ∧ w'.frozen? ⟨w.heap.size, 0, none⟩ = false ∧ w'.frozen? ⟨w.heap.size, 1, none⟩ = false ∧ Below w.heap.size w w' ∧ w.heap.size < w'.heap.size
theorem rz_new (w : World) : RZ w (w.alloc (rtc (0, 0))) := ⟨by go_simp, by go_simp, by go_simp, by go_simp, balloc (Below.refl _ _) _, by simp⟩
theorem rz_below {w w1 w2 : World} (h : RZ w w1) (hb : Below w1.heap.size w1 w2) : RZ w w2 := by
  obtain ⟨h4, h5, h6, h7, h8, h9⟩ := h
  exact ⟨(hb.cell (p := ⟨w.heap.size, 0, none⟩) h9).trans h4, (hb.cell (p := ⟨w.heap.size, 1, none⟩) h9).trans h5, (hb.frozen (p := ⟨w.heap.size, 0, none⟩) h9).trans h6, (hb.frozen (p := ⟨w.heap.size, 1, none⟩) h9).trans h7, bstep h8 hb, Nat.lt_of_lt_of_le h9 hb.size⟩
theorem rz_s {w w' : World} (h : RZ w w') : w'.cell? ⟨w.heap.size, 0, none⟩ = some (.int .i64 0) ∧ w'.cell? ⟨w.heap.size, 1, none⟩ = some (.int .i64 0) ∧ w'.frozen? ⟨w.heap.size, 0, none⟩ = false ∧ w'.frozen? ⟨w.heap.size, 1, none⟩ = false ∧ w.heap.size < w'.heap.size := ⟨h.1, h.2.1, h.2.2.1, h.2.2.2.1, h.2.2.2.2.2⟩
theorem RZ.bel {w w' : World} (h : RZ w w') : Below w.heap.size w w' := h.2.2.2.2.1
theorem qs_new {w : World} {q : Nat} {A : Option Addr} {n c : Nat} {R : Option Addr} {K cr : Nat} {C : Option Addr} {K' cc : Nat} {d : Int} {w1 : World} (h : RZ w w1) (e : q = w1.heap.size) : QS w q A n c R K cr C K' cc d (w1.alloc (chb A n c R K cr C K' cc d)) := by
  subst e
  have r := rz_below h (balloc (Below.refl _ _) (chb A n c R K cr C K' cc d))
  exact ⟨by go_simp, by go_simp, by go_simp, by go_simp, r.1, r.2.1, r.2.2.1, r.2.2.2.1, r.2.2.2.2.1, r.2.2.2.2.2, by simp⟩
/-- a choice in the block q -/
def QC (w : World) (q : Nat) (A : Option Addr) (n c : Nat) (R : Option Addr) (K cr : Nat) (C : Option Addr) (K' cc : Nat) (d : Int) (w' : World) : Prop := w'.cell? ⟨q, 0, none⟩ = some (.slice A n c) ∧ w'.cell? ⟨q, 1, none⟩ = some (.slice R K cr) ∧ w'.cell? ⟨q, 2, none⟩ = some (.slice C K' cc) ∧ w'.cell? ⟨q, 3, none⟩ = some (.int .i64 d) ∧ Below w.heap.size w w' ∧ q < w'.heap.size
theorem qc_s {w : World} {q : Nat} {A : Option Addr} {n c : Nat} {R : Option Addr} {K cr : Nat} {C : Option Addr} {K' cc : Nat} {d : Int} {w1 : World} (h : QC w q A n c R K cr C K' cc d w1) : w1.cell? ⟨q, 0, none⟩ = some (.slice A n c) ∧ w1.cell? ⟨q, 1, none⟩ = some (.slice R K cr) ∧ w1.cell? ⟨q, 2, none⟩ = some (.slice C K' cc) ∧ w1.cell? ⟨q, 3, none⟩ = some (.int .i64 d) ∧ Below w.heap.size w w1 ∧ q < w1.heap.size := h
theorem qc_of {w : World} {q : Nat} {A : Option Addr} {n c : Nat} {R : Option Addr} {K cr : Nat} {C : Option Addr} {K' cc : Nat} {d : Int} {w1 : World} (h : w1.cell? ⟨q, 0, none⟩ = some (.slice A n c) ∧ w1.cell? ⟨q, 1, none⟩ = some (.slice R K cr) ∧ w1.cell? ⟨q, 2, none⟩ = some (.slice C K' cc) ∧ w1.cell? ⟨q, 3, none⟩ = some (.int .i64 d) ∧ Below w.heap.size w w1 ∧ q < w1.heap.size) : QC w q A n c R K cr C K' cc d w1 := h
theorem QC.bel {w : World} {q : Nat} {A : Option Addr} {n c : Nat} {R : Option Addr} {K cr : Nat} {C : Option Addr} {K' cc : Nat} {d : Int} {w1 : World} (h : QC w q A n c R K cr C K' cc d w1) : Below w.heap.size w w1 := h.2.2.2.2.1
theorem qc_drew {w : World} {q : Nat} {A : Option Addr} {n c : Nat} {R : Option Addr} {K cr : Nat} {C : Option Addr} {K' cc : Nat} {d : Int} {w1 : World} (h : QC w q A n c R K cr C K' cc d w1) : QC w q A n c R K cr C K' cc d w1.drew := by
  obtain ⟨h0, h1, h2, h3, h8, h10⟩ := h
  exact ⟨h0, h1, h2, h3, Below.drew h8, h10⟩
theorem qc_below {w : World} {q : Nat} {A : Option Addr} {n c : Nat} {R : Option Addr} {K cr : Nat} {C : Option Addr} {K' cc : Nat} {d : Int} {w1 w2 : World} (h : QC w q A n c R K cr C K' cc d w1) (hb : Below w1.heap.size w1 w2) : QC w q A n c R K cr C K' cc d w2 := by
  obtain ⟨h0, h1, h2, h3, h8, h10⟩ := h
  exact ⟨(hb.cell (p := ⟨q, 0, none⟩) h10).trans h0, (hb.cell (p := ⟨q, 1, none⟩) h10).trans h1, (hb.cell (p := ⟨q, 2, none⟩) h10).trans h2, (hb.cell (p := ⟨q, 3, none⟩) h10).trans h3, bstep h8 hb, Nat.lt_of_lt_of_le h10 hb.size⟩
theorem qc_set {w : World} {q : Nat} {A : Option Addr} {n c : Nat} {R : Option Addr} {K cr : Nat} {C : Option Addr} {K' cc : Nat} {d : Int} {w1 : World} {o : Nat} {v : Value} (h : QC w q A n c R K cr C K' cc d w1) (ne : ¬ w.heap.size = q) : QC w q A n c R K cr C K' cc d (w1.setCell ⟨w.heap.size, o, none⟩ v) := by
  obtain ⟨h0, h1, h2, h3, h8, h10⟩ := h
  exact ⟨by go_simp, by go_simp, by go_simp, by go_simp, Below.setCell h8 (Nat.le_refl _) _, by simpa using h10⟩
theorem qc_new {w : World} {q : Nat} {A : Option Addr} {n c : Nat} {R : Option Addr} {K cr : Nat} {C : Option Addr} {K' cc : Nat} {d : Int} {w1 : World} (h : RZ w w1) (e : q = w1.heap.size) : QC w q A n c R K cr C K' cc d (w1.alloc (chb A n c R K cr C K' cc d)) := by
  obtain ⟨h0, h1, h2, h3, h4, h5, h6, h7, h8, h9, h10⟩ := qs_new (A := A) (n := n) (c := c) (R := R) (K := K) (cr := cr) (C := C) (K' := K') (cc := cc) (d := d) h e
  exact ⟨h0, h1, h2, h3, h8, h10⟩
theorem rz_drew {w w1 : World} (h : RZ w w1) : RZ w w1.drew := ⟨h.1, h.2.1, h.2.2.1, h.2.2.2.1, Below.drew h.2.2.2.2.1, h.2.2.2.2.2⟩
theorem rz_alloc {w w1 : World} (h : RZ w w1) (o : Obj) : RZ w (w1.alloc o) := rz_below h (balloc (Below.refl _ _) _)
set_option maxHeartbeats 2000000 in
theorem res_any (A R C : Option Addr) (c cr cc : Nat) (M : List (List Int)) (rows cols : List Int) (i j : Int) (w : World) (h : Arg w A M R C rows cols) :
    Calls Try.prog 26 #[.slice A M.length c, .slice R rows.length cr, .slice C cols.length cc, .int .i64 i, .int .i64 j] w fun e w' => e = .returned (.tuple #[rtv (resd M rows cols i j).1, .int .i64 (resd M rows cols i j).2]) ∧ Below w.heap.size w w' := by
  have R0 := Lib.hid (rz_new w)
  by_cases z : (dvz M rows cols).2 = 0
  · obtain ⟨k, dz, _⟩ := dvz_ok z
    obtain ⟨ho, hl⟩ := cho_of h k
    have CH := Lib.hid (fun W (B : Below w.heap.size w W) => choose_ok A R C c cr cc M rows cols W (arg_in h B) k dz)
    rw [hl] at CH ⊢
    have HO := Lib.hid ho
    have n1 := ho.hn
    have m1 := ho.hm
    have VP := vcode_pos (kcode_cases k).1
    obtain ⟨b, o, A0, c0, rfl, hb0, hc0, hl0, hr0⟩ := ho.mat 0 VP.1
    have hc0 : w.cell? ⟨b, o, none⟩ = some (.slice A0 (rw_ M 0).length c0) := hc0
    have nn1 : (M.length : Int) ≤ 6 := by omega
    have mm1 : ((rw_ M 0).length : Int) ≤ 6 := by omega
    have nn0 : (0 : Int) < (M.length : Int) := by omega
    cases hi : inr i 0 (M.length - 1) with
    | false =>
      have e : resd M rows cols i j = ((0, 0), 5) := by unfold resd; rw [if_pos z, hi]; rfl
      rw [e]
      have CI := Lib.hid (fun W => (hi ▸ inrange_any i 0 ((M.length : Int) - 1) W : Calls Try.prog 65 #[.int .i64 i, .int .i64 0, .int .i64 ((M.length : Int) - 1)] W fun e w' => e = .returned (.bool false) ∧ W = w'))
      have C0 := Lib.hid hc0
      clear h ho k dz z hi e hl0 hr0 hc0 VP hl
      generalize detR M rows cols = d at *
      go_enter Try.func26, Try.ntmps26
      go_wp2_with fail
      with_reducible refine (CH.out _ R0.out.bel).mono ?_
      rintro e w2 ⟨rfl, hb⟩
      have R2 := Lib.hid (rz_below R0.out hb)
      obtain ⟨r0, r1, r2, r3, r4⟩ := rz_s R2.out
      clear hb
      go_wp2_with fail
      with_reducible refine (CI.out _).mono ?_
      rintro e w3 ⟨rfl, rfl⟩
      go_wp2_with fail
      refine bodyPost_ret (v := .tuple #[rtv (0, 0), .int .i64 5]) (by rw [results_cellF2 rfl]; go_simp) rfl ⟨rfl, ?_⟩
      have hB := R2.out.bel
      (repeat' (first | exact Below.refl _ _ | refine bstep ?_ hB | refine Below.setCell ?_ (by simp <;> omega) _ | refine balloc ?_ _ | refine Below.drew ?_ | refine bdrewN ?_ _))
    | true =>
      have CI := Lib.hid (fun W => (hi ▸ inrange_any i 0 ((M.length : Int) - 1) W : Calls Try.prog 65 #[.int .i64 i, .int .i64 0, .int .i64 ((M.length : Int) - 1)] W fun e w' => e = .returned (.bool true) ∧ W = w'))
      cases hj : inr j 0 ((rw_ M 0).length - 1) with
      | false =>
        have e : resd M rows cols i j = ((0, 0), 5) := by unfold resd; rw [if_pos z, hi, hj]; rfl
        rw [e]
        have CJ := Lib.hid (fun W => (hj ▸ inrange_any j 0 (((rw_ M 0).length : Int) - 1) W : Calls Try.prog 65 #[.int .i64 j, .int .i64 0, .int .i64 (((rw_ M 0).length : Int) - 1)] W fun e w' => e = .returned (.bool false) ∧ W = w'))
        have C0 := Lib.hid hc0
        clear h ho k dz z hi e hl0 hr0 hc0 VP hl hj
        generalize detR M rows cols = d at *
        go_enter Try.func26, Try.ntmps26
        go_wp2_with fail
        with_reducible refine (CH.out _ R0.out.bel).mono ?_
        rintro e w2 ⟨rfl, hb⟩
        have R2 := Lib.hid (rz_below R0.out hb)
        have c2 := (R2.out.bel.cell (p := ⟨b, o, none⟩) hb0).trans C0.out
        have hsz := R2.out.bel.size
        have hlt2 : b < w2.heap.size := by omega
        obtain ⟨r0, r1, r2, r3, r4⟩ := rz_s R2.out
        clear hb
        go_wp2_with fail
        with_reducible refine (CI.out _).mono ?_
        rintro e w3 ⟨rfl, rfl⟩
        go_wp2_with fail
        with_reducible refine (CJ.out _).mono ?_
        rintro e w3 ⟨rfl, rfl⟩
        go_wp2_with fail
        refine bodyPost_ret (v := .tuple #[rtv (0, 0), .int .i64 5]) (by rw [results_cellF2 rfl]; go_simp) rfl ⟨rfl, ?_⟩
        have hB := R2.out.bel
        (repeat' (first | exact Below.refl _ _ | refine bstep ?_ hB | refine Below.setCell ?_ (by simp <;> omega) _ | refine balloc ?_ _ | refine Below.drew ?_ | refine bdrewN ?_ _))
      | true =>
        have e : resd M rows cols i j = (ratq (bord M rows cols i j) (detR M rows cols), 0) := by unfold resd; rw [if_pos z, hi, hj]; rfl
        rw [e]
        have CJ := Lib.hid (fun W => (hj ▸ inrange_any j 0 (((rw_ M 0).length : Int) - 1) W : Calls Try.prog 65 #[.int .i64 j, .int .i64 0, .int .i64 (((rw_ M 0).length : Int) - 1)] W fun e w' => e = .returned (.bool true) ∧ W = w'))
        have C0 := Lib.hid hc0
        have i1 := inr_iff.1 hi
        have j1 := inr_iff.1 hj
        have bb := bord_bd ho (i := i) (j := j) (by omega) (by omega)
        have db := detC_bd ho
        have BO := Lib.hid (fun W (B : Below w.heap.size w W) => bord_any (some ⟨b, o, none⟩) R C c cr cc M.length (rw_ M 0).length rows.length (detR M rows cols) M rows cols i j W (cho_in ho B) (by omega) (by omega))
        have QU := Lib.hid (fun W => quo_any (bord M rows cols i j) (detR M rows cols) W dz (by omega) (by omega) (by omega) (by omega))
        clear h ho k dz z hi e hl0 hr0 hc0 VP hl hj i1 j1 bb db HO
        generalize bord M rows cols i j = x at *
        generalize detR M rows cols = d at *
        generalize ratq x d = rr at *
        generalize rows.length = K at *
        go_enter Try.func26, Try.ntmps26
        go_wp2_with fail
        with_reducible refine (CH.out _ R0.out.bel).mono ?_
        rintro e w2 ⟨rfl, hb⟩
        have R2 := Lib.hid (rz_below R0.out hb)
        have c2 := (R2.out.bel.cell (p := ⟨b, o, none⟩) hb0).trans C0.out
        have hsz := R2.out.bel.size
        have hlt2 : b < w2.heap.size := by omega
        obtain ⟨r0, r1, r2, r3, r4⟩ := rz_s R2.out
        have QN := Lib.hid (qc_new (A := some ⟨b, o, none⟩) (n := M.length) (c := c) (R := R) (K := K) (cr := cr) (C := C) (K' := K) (cc := cc) (d := d) R2.out rfl)
        have RN := Lib.hid (rz_alloc R2.out (chb (some ⟨b, o, none⟩) M.length c R K cr C K cc d))
        have NE := Lib.hid (show ¬ w.heap.size = w2.heap.size by omega)
        clear hb
        go_wp2_with fail
        with_reducible refine (CI.out _).mono ?_
        rintro e w3 ⟨rfl, rfl⟩
        go_wp2_with fail
        with_reducible refine (CJ.out _).mono ?_
        rintro e w3 ⟨rfl, rfl⟩
        go_wp2_with fail
        clear CI CJ c2 r0 r1 r2 r3 r4
        generalize w2.alloc (chb (some ⟨b, o, none⟩) M.length c R K cr C K cc d) = W0 at *
        generalize w2.heap.size = q at *
        go_region_held3 (fun w' => w'.cell? ⟨q, 0, none⟩ = some (.slice (some ⟨b, o, none⟩) M.length c) ∧ w'.cell? ⟨q, 1, none⟩ = some (.slice R K cr) ∧ w'.cell? ⟨q, 2, none⟩ = some (.slice C K cc) ∧ w'.cell? ⟨q, 3, none⟩ = some (.int .i64 d) ∧ Below w.heap.size w w' ∧ q < w'.heap.size)
          (first | with_reducible exact qc_s (qc_drew QN.out) | with_reducible exact qc_s S1.out | with_reducible exact qc_s S2.out | with_reducible exact qc_s (qc_set (qc_set S2.out NE.out) NE.out) | fail)
          (first
            | (go_at_call 48; (with_reducible refine (BO.out _ (QC.bel (qc_of (by assumption)))).mono ?_); rintro e w3 ⟨rfl, hb⟩; have S1 := Lib.hid (qc_below (qc_of (by assumption)) hb); have Z1 := Lib.hid (rz_below (rz_drew RN.out) hb); clear hb)
            | (go_at_call 47; (with_reducible refine (QU.out _).mono ?_); rintro e w4 ⟨rfl, hb⟩; have S2 := Lib.hid (qc_below (qc_of (by assumption)) hb); have Z2 := Lib.hid (rz_below Z1.out hb); obtain ⟨z4, z5, z6, z7, z9⟩ := rz_s Z2.out; clear hb)
            | fail)
        all_goals
          go_wp2_with fail
          refine bodyPost_ret (v := .tuple #[rtv rr, .int .i64 0]) (by rw [results_cellF2 rfl]; go_simp) rfl ⟨rfl, ?_⟩
          have hB := S2.out.bel
          (repeat' (first | exact Below.refl _ _ | refine bstep ?_ hB | refine Below.setCell ?_ (by simp <;> omega) _ | refine balloc ?_ _ | refine Below.drew ?_ | refine bdrewN ?_ _))
  · have e : resd M rows cols i j = ((0, 0), (dvz M rows cols).2) := by unfold resd; rw [if_neg z]
    rw [e]
    have CH := Lib.hid (fun W (B : Below w.heap.size w W) => (show Calls Try.prog 45 #[.slice A M.length c, .slice R rows.length cr, .slice C cols.length cc] W fun e w' => e = .returned (.tuple #[chv none 0 0 none 0 0 none 0 0 0, .int .i64 (dvz M rows cols).2]) ∧ Below W.heap.size W w' from by
      unfold dvz
      by_cases k : kcode M rows cols = 0
      · rw [if_pos k]
        by_cases dz : detR M rows cols = 0
        · rw [if_pos dz]
          exact choose_zero A R C c cr cc M rows cols W (arg_in h B) k dz
        · exfalso
          apply z
          unfold dvz
          rw [if_pos k, if_neg dz]
      · rw [if_neg k]
        exact choose_err A R C c cr cc M rows cols W (arg_in h B) k))
    clear h e
    generalize (dvz M rows cols).2 = e at *
    have t1 : (e != 0) = true := by simp [z]
    have t2 : (e == 0) = false := by simp [z]
    clear z
    go_enter Try.func26, Try.ntmps26
    go_wp2_with fail
    with_reducible refine (CH.out _ R0.out.bel).mono ?_
    rintro e w2 ⟨rfl, hb⟩
    have R2 := Lib.hid (rz_below R0.out hb)
    obtain ⟨r0, r1, r2, r3, r4⟩ := rz_s R2.out
    clear hb
    go_wp2_with fail
    refine bodyPost_ret (v := .tuple #[rtv (0, 0), .int .i64 e]) (by rw [results_cellF2 rfl]; go_simp) rfl ⟨rfl, ?_⟩
    have hB := R2.out.bel
    (repeat' (first | exact Below.refl _ _ | refine bstep ?_ hB | refine Below.setCell ?_ (by simp <;> omega) _ | refine balloc ?_ _ | refine Below.drew ?_ | refine bdrewN ?_ _))

end Go.Proofs.Ytllonfaogbdbnaa
