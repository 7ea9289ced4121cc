/-
  The contract of the document's chosen.
-/
import Derived.Test.YtllonfaogbdbnaaCr5
namespace Go.Proofs.Ytllonfaogbdbnaa
open Go.ChangeShapes Go.WideShapes Go.RowKit
open Cr
set_option maxHeartbeats 1000000 in
theorem chosen_any (A R C : Option Addr) (c cr cc : Nat) (M : List (List Int)) (rows cols : List Int) (w : World) (h : Arg w A M R C rows cols) :
    Calls Try.prog 88 #[.slice A M.length c, .slice R rows.length cr, .slice C cols.length cc] w fun e w' => e = .returned (.int .i64 (kcode M rows cols)) ∧ Below w.heap.size w w' := by
  have H := Lib.hid h
  have CV := Lib.hid (fun W (B : Below w.heap.size w W) => rval6_any A c M W (ml_in h.mat B) h.len h.wid)
  have CR := Lib.hid (fun W n (hn : 0 ≤ n ∧ n ≤ 1000000) (B : Below w.heap.size w W) => risset_any R cr rows n W (il_in h.rowsI B) h.nr hn)
  have CC := Lib.hid (fun W n (hn : 0 ≤ n ∧ n ≤ 1000000) (B : Below w.heap.size w W) => risset_any C cc cols n W (il_in h.colsI B) h.nc hn)
  have K1 := Lib.hid (kcode_v (M := M) (rows := rows) (cols := cols))
  have K2 := Lib.hid (kcode_bad (M := M) (rows := rows) (cols := cols))
  have K3 := Lib.hid (kcode_good (M := M) (rows := rows) (cols := cols))
  have G1 := Lib.hid (chB_1 (M := M) (rows := rows) (cols := cols))
  have G2 := Lib.hid (chB_2 (M := M) (rows := rows) (cols := cols))
  have G3 := Lib.hid (chB_3 (M := M) (rows := rows) (cols := cols))
  have G4 := Lib.hid (chB_4 (M := M) (rows := rows) (cols := cols))
  have VP := Lib.hid (vcode_pos (M := M))
  have VC := Lib.hid (vcode_cases M)
  have nr := h.nr
  have nc := h.nc
  have ln := h.len
  obtain ⟨res, hres⟩ : ∃ res, kcode M rows cols = res := ⟨_, rfl⟩
  rw [hres] at K1 K2 K3 ⊢
  clear hres h
  generalize chB M rows cols = d at *
  generalize vcode M = v at *
  by_cases hv : v = 0
  · subst hv
    have K2' := Lib.hid (K2.out rfl)
    have K3' := Lib.hid (K3.out rfl)
    obtain ⟨p1, p2, p3⟩ := VP.out rfl
    obtain ⟨b, o, A0, c0, rfl, hb, hc0, hl0, hr0⟩ := H.out.mat 0 p1
    have hc0 : w.cell? ⟨b, o, none⟩ = some (.slice A0 (rw_ M 0).length c0) := hc0
    clear K1 K2 K3 VP VC hl0 hr0
    have CR' := Lib.hid (fun W (B : Below w.heap.size w W) => CR.out W M.length (by omega) B)
    have CC' := Lib.hid (fun W (B : Below w.heap.size w W) => CC.out W (rw_ M 0).length (by omega) B)
    clear CR CC
    generalize setB rows M.length = e1 at *
    generalize setB cols (rw_ M 0).length = e2 at *
    have x1 : (0 : Int) < (M.length : Int) := by omega
    generalize M.length = n at *
    generalize (rw_ M 0).length = m at *
    generalize rows.length = r1 at *
    generalize cols.length = r2 at *
    cases e1 with
    | false =>
      have hf : res = 1 := K2'.out (G2.out rfl)
      subst hf
      go_enter Try.func88, Try.ntmps88
      go_wp2_with fail
      with_reducible refine (CV.out _ (Below.refl _ _)).mono ?_
      rintro e w1 ⟨rfl, hb1⟩
      have B1 := Lib.hid hb1
      have x2 : w1.cell? ⟨b, o, none⟩ = some (.slice A0 m c0) := (hb1.cell (p := ⟨b, o, none⟩) hb).trans hc0
      clear hb1
      go_wp2_with fail
      with_reducible refine (CR'.out _ B1.out).mono ?_
      rintro e w2 ⟨rfl, hb2⟩
      have B2 := Lib.hid (bstep B1.out hb2)
      have x3 : w2.cell? ⟨b, o, none⟩ = some (.slice A0 m c0) := (B2.out.cell (p := ⟨b, o, none⟩) hb).trans hc0
      clear hb2
      go_wp2
      go_ret
      exact ⟨rfl, B2.out⟩
    | true =>
      cases e2 with
      | false =>
        have hf : res = 1 := K2'.out (G3.out rfl)
        subst hf
        go_enter Try.func88, Try.ntmps88
        go_wp2_with fail
        with_reducible refine (CV.out _ (Below.refl _ _)).mono ?_
        rintro e w1 ⟨rfl, hb1⟩
        have B1 := Lib.hid hb1
        have x2 : w1.cell? ⟨b, o, none⟩ = some (.slice A0 m c0) := (hb1.cell (p := ⟨b, o, none⟩) hb).trans hc0
        clear hb1
        go_wp2_with fail
        with_reducible refine (CR'.out _ B1.out).mono ?_
        rintro e w2 ⟨rfl, hb2⟩
        have B2 := Lib.hid (bstep B1.out hb2)
        have x3 : w2.cell? ⟨b, o, none⟩ = some (.slice A0 m c0) := (B2.out.cell (p := ⟨b, o, none⟩) hb).trans hc0
        clear hb2
        go_wp2_with fail
        with_reducible refine (CC'.out _ B2.out).mono ?_
        rintro e w3 ⟨rfl, hb3⟩
        have B3 := Lib.hid (bstep B2.out hb3)
        clear hb3
        go_wp2
        go_ret
        exact ⟨rfl, B3.out⟩
      | true =>
        by_cases hq : r1 = r2
        · have t2 : ((r1 : Int) != (r2 : Int)) = false := by simp [hq]
          have hf : res = 0 := K3'.out (G4.out hq rfl rfl)
          subst hf
          clear hq
          go_enter Try.func88, Try.ntmps88
          go_wp2_with fail
          with_reducible refine (CV.out _ (Below.refl _ _)).mono ?_
          rintro e w1 ⟨rfl, hb1⟩
          have B1 := Lib.hid hb1
          have x2 : w1.cell? ⟨b, o, none⟩ = some (.slice A0 m c0) := (hb1.cell (p := ⟨b, o, none⟩) hb).trans hc0
          clear hb1
          go_wp2_with fail
          with_reducible refine (CR'.out _ B1.out).mono ?_
          rintro e w2 ⟨rfl, hb2⟩
          have B2 := Lib.hid (bstep B1.out hb2)
          have x3 : w2.cell? ⟨b, o, none⟩ = some (.slice A0 m c0) := (B2.out.cell (p := ⟨b, o, none⟩) hb).trans hc0
          clear hb2
          go_wp2_with fail
          with_reducible refine (CC'.out _ B2.out).mono ?_
          rintro e w3 ⟨rfl, hb3⟩
          have B3 := Lib.hid (bstep B2.out hb3)
          clear hb3
          go_wp2
          go_ret
          exact ⟨rfl, B3.out⟩
        · have t2 : ((r1 : Int) != (r2 : Int)) = true := by simp; omega
          have hf : res = 1 := K2'.out (G1.out hq)
          subst hf
          clear hq
          go_enter Try.func88, Try.ntmps88
          go_wp2_with fail
          with_reducible refine (CV.out _ (Below.refl _ _)).mono ?_
          rintro e w1 ⟨rfl, hb1⟩
          have B1 := Lib.hid hb1
          have x2 : w1.cell? ⟨b, o, none⟩ = some (.slice A0 m c0) := (hb1.cell (p := ⟨b, o, none⟩) hb).trans hc0
          clear hb1
          go_wp2_with fail
          with_reducible refine (CR'.out _ B1.out).mono ?_
          rintro e w2 ⟨rfl, hb2⟩
          have B2 := Lib.hid (bstep B1.out hb2)
          have x3 : w2.cell? ⟨b, o, none⟩ = some (.slice A0 m c0) := (B2.out.cell (p := ⟨b, o, none⟩) hb).trans hc0
          clear hb2
          go_wp2_with fail
          with_reducible refine (CC'.out _ B2.out).mono ?_
          rintro e w3 ⟨rfl, hb3⟩
          have B3 := Lib.hid (bstep B2.out hb3)
          clear hb3
          go_wp2
          go_ret
          exact ⟨rfl, B3.out⟩
  · have hf : res = v := K1.out hv
    subst hf
    have t1 : (res != 0) = true := by simp [hv]
    have t3 : (res == 0) = false := by simp [hv]
    clear hv
    go_enter Try.func88, Try.ntmps88
    go_wp2_with fail
    with_reducible refine (CV.out _ (Below.refl _ _)).mono ?_
    rintro e w1 ⟨rfl, hb1⟩
    go_wp2
    go_ret
    exact ⟨rfl, hb1⟩

end Go.Proofs.Ytllonfaogbdbnaa
