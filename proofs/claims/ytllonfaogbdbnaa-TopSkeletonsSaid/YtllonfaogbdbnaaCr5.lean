/-
  The contracts of checkChoice, and of the document's chosen.
-/
import Derived.Test.YtllonfaogbdbnaaCr4
namespace Go.Proofs.Ytllonfaogbdbnaa
open Go.ChangeShapes Go.WideShapes Go.RowKit
open Cr
/-- is it a choice? -/
def chB (M : List (List Int)) (rows cols : List Int) : Bool := decide (rows.length = cols.length) && setB rows M.length && setB cols (rw_ M 0).length
/-- the error of a matrix and a choice -/
def kcode (M : List (List Int)) (rows cols : List Int) : Int := if vcode M = 0 then (if chB M rows cols then 0 else 1) else vcode M
theorem kcode_v {M : List (List Int)} {rows cols : List Int} (h : vcode M ≠ 0) : kcode M rows cols = vcode M := if_neg h
theorem kcode_bad {M : List (List Int)} {rows cols : List Int} (h : vcode M = 0) (b : chB M rows cols = false) : kcode M rows cols = 1 := by unfold kcode; rw [if_pos h, b]; rfl
theorem kcode_good {M : List (List Int)} {rows cols : List Int} (h : vcode M = 0) (b : chB M rows cols = true) : kcode M rows cols = 0 := by unfold kcode; rw [if_pos h, b]; rfl
theorem chB_1 {M : List (List Int)} {rows cols : List Int} (h : rows.length ≠ cols.length) : chB M rows cols = false := by unfold chB; simp [h]
theorem chB_2 {M : List (List Int)} {rows cols : List Int} (h : setB rows M.length = false) : chB M rows cols = false := by unfold chB; simp [h]
theorem chB_3 {M : List (List Int)} {rows cols : List Int} (h : setB cols (rw_ M 0).length = false) : chB M rows cols = false := by unfold chB; simp [h]
theorem chB_4 {M : List (List Int)} {rows cols : List Int} (h1 : rows.length = cols.length) (h2 : setB rows M.length = true) (h3 : setB cols (rw_ M 0).length = true) : chB M rows cols = true := by unfold chB; rw [h2, h3]; simp [h1]
theorem vcode_pos {M : List (List Int)} (h : vcode M = 0) : 0 < M.length ∧ M.length ≤ 6 ∧ (rw_ M 0).length ≤ 6 := by
  obtain ⟨n, m, q, h1, h2, h3, h4⟩ := sq_of h
  have := q.len
  exact ⟨by omega, by omega, by rw [rw_len q (by omega)]; omega⟩
theorem vcode_cases (M : List (List Int)) : vcode M = 0 ∨ vcode M = 1 ∨ vcode M = 4 := by
  unfold vcode; split <;> (try split) <;> simp
/-- an argument that is a choice: its lists are not very long -/
structure Arg (w : World) (A : Option Addr) (M : List (List Int)) (R C : Option Addr) (rows cols : List Int) : Prop where
  mat : ML w A M
  len : M.length ≤ 1000
  wid : ∀ i, i < M.length → (rw_ M i).length ≤ 1000
  rowsI : IL w R rows
  colsI : IL w C cols
  nr : rows.length ≤ 1000
  nc : cols.length ≤ 1000
theorem arg_in {w w1 : World} {A R C : Option Addr} {M : List (List Int)} {rows cols : List Int} (h : Arg w A M R C rows cols) (hb : Below w.heap.size w w1) : Arg w1 A M R C rows cols :=
  ⟨ml_in h.mat hb, h.len, h.wid, il_in h.rowsI hb, il_in h.colsI hb, h.nr, h.nc⟩
set_option maxHeartbeats 1000000 in
theorem check_any (A R C : Option Addr) (c cr cc : Nat) (M : List (List Int)) (rows cols : List Int) (w : World) (h : Arg w A M R C rows cols) :
    Calls Try.prog 57 #[.slice A M.length c, .slice R rows.length cr, .slice C cols.length cc] w fun e w' => e = .returned (.int .i64 (kcode M rows cols)) ∧ w = w' := by
  have H := Lib.hid h
  have CV := Lib.hid (fun W (B : Below w.heap.size w W) => val6_any A c M W (ml_in h.mat B) h.len h.wid)
  have CR := Lib.hid (fun W n (hn : 0 ≤ n ∧ n ≤ 1000000) (B : Below w.heap.size w W) => isset_any R cr rows n W (il_in h.rowsI B) h.nr hn)
  have CC := Lib.hid (fun W n (hn : 0 ≤ n ∧ n ≤ 1000000) (B : Below w.heap.size w W) => isset_any C cc cols n W (il_in h.colsI B) h.nc hn)
  have K1 := Lib.hid (kcode_v (M := M) (rows := rows) (cols := cols))
  have K2 := Lib.hid (kcode_bad (M := M) (rows := rows) (cols := cols))
  have K3 := Lib.hid (kcode_good (M := M) (rows := rows) (cols := cols))
  have G1 := Lib.hid (chB_1 (M := M) (rows := rows) (cols := cols))
  have G2 := Lib.hid (chB_2 (M := M) (rows := rows) (cols := cols))
  have G3 := Lib.hid (chB_3 (M := M) (rows := rows) (cols := cols))
  have G4 := Lib.hid (chB_4 (M := M) (rows := rows) (cols := cols))
  have VP := Lib.hid (vcode_pos (M := M))
  have VC := Lib.hid (vcode_cases M)
  have nr := h.nr
  have nc := h.nc
  have ln := h.len
  obtain ⟨res, hres⟩ : ∃ res, kcode M rows cols = res := ⟨_, rfl⟩
  rw [hres] at K1 K2 K3 ⊢
  clear hres h
  generalize chB M rows cols = d at *
  generalize vcode M = v at *
  by_cases hv : v = 0
  · subst hv
    have K2' := Lib.hid (K2.out rfl)
    have K3' := Lib.hid (K3.out rfl)
    obtain ⟨p1, p2, p3⟩ := VP.out rfl
    obtain ⟨b, o, A0, c0, rfl, hb, hc0, hl0, hr0⟩ := H.out.mat 0 p1
    have hc0 : w.cell? ⟨b, o, none⟩ = some (.slice A0 (rw_ M 0).length c0) := hc0
    clear K1 K2 K3 VP VC hl0 hr0
    have CR' := Lib.hid (fun W (B : Below w.heap.size w W) => CR.out W M.length (by omega) B)
    have CC' := Lib.hid (fun W (B : Below w.heap.size w W) => CC.out W (rw_ M 0).length (by omega) B)
    clear CR CC
    generalize setB rows M.length = e1 at *
    generalize setB cols (rw_ M 0).length = e2 at *
    have x1 : (0 : Int) < (M.length : Int) := by omega
    generalize M.length = n at *
    generalize (rw_ M 0).length = m at *
    generalize rows.length = r1 at *
    generalize cols.length = r2 at *
    by_cases hq : r1 = r2
    · have t2 : ((r1 : Int) != (r2 : Int)) = false := by simp [hq]
      have HQ := Lib.hid hq
      clear hq
      cases e1 with
      | false =>
        have hf : res = 1 := K2'.out (G2.out rfl)
        subst hf
        go_enter Try.func57, Try.ntmps57
        go_wp2_with fail
        with_reducible refine (CV.out _ (Below.refl _ _)).mono ?_
        rintro e w' ⟨rfl, rfl⟩
        go_wp2_with fail
        with_reducible refine (CR'.out _ (Below.refl _ _)).mono ?_
        rintro e w' ⟨rfl, rfl⟩
        go_wp2
        go_ret
        exact ⟨rfl, rfl⟩
      | true =>
        cases e2 with
        | false =>
          have hf : res = 1 := K2'.out (G3.out rfl)
          subst hf
          go_enter Try.func57, Try.ntmps57
          go_wp2_with fail
          with_reducible refine (CV.out _ (Below.refl _ _)).mono ?_
          rintro e w' ⟨rfl, rfl⟩
          go_wp2_with fail
          with_reducible refine (CR'.out _ (Below.refl _ _)).mono ?_
          rintro e w' ⟨rfl, rfl⟩
          go_wp2_with fail
          with_reducible refine (CC'.out _ (Below.refl _ _)).mono ?_
          rintro e w' ⟨rfl, rfl⟩
          go_wp2
          go_ret
          exact ⟨rfl, rfl⟩
        | true =>
          have hf : res = 0 := K3'.out (G4.out HQ.out rfl rfl)
          subst hf
          go_enter Try.func57, Try.ntmps57
          go_wp2_with fail
          with_reducible refine (CV.out _ (Below.refl _ _)).mono ?_
          rintro e w' ⟨rfl, rfl⟩
          go_wp2_with fail
          with_reducible refine (CR'.out _ (Below.refl _ _)).mono ?_
          rintro e w' ⟨rfl, rfl⟩
          go_wp2_with fail
          with_reducible refine (CC'.out _ (Below.refl _ _)).mono ?_
          rintro e w' ⟨rfl, rfl⟩
          go_wp2
          go_ret
          exact ⟨rfl, rfl⟩
    · have t2 : ((r1 : Int) != (r2 : Int)) = true := by simp; omega
      have hf : res = 1 := K2'.out (G1.out hq)
      subst hf
      clear hq
      go_enter Try.func57, Try.ntmps57
      go_wp2_with fail
      with_reducible refine (CV.out _ (Below.refl _ _)).mono ?_
      rintro e w' ⟨rfl, rfl⟩
      go_wp2
      go_ret
      exact ⟨rfl, rfl⟩
  · have hf : res = v := K1.out hv
    subst hf
    have t1 : (res != 0) = true := by simp [hv]
    have t3 : (res == 0) = false := by simp [hv]
    clear hv
    go_enter Try.func57, Try.ntmps57
    go_wp2_with fail
    with_reducible refine (CV.out _ (Below.refl _ _)).mono ?_
    rintro e w' ⟨rfl, rfl⟩
    go_wp2
    go_ret
    exact ⟨rfl, rfl⟩

end Go.Proofs.Ytllonfaogbdbnaa
