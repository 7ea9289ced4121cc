/-
  The contract of the document's Residual; of Minor, Long, many, known.
-/
import Derived.Test.YtefmlcojbfiehaaCr20
namespace Go.Proofs.Ytefmlcojbfiehaa
open Go.ChangeShapes Go.WideShapes Go.RowKit
open Cr
set_option maxHeartbeats 2000000 in
theorem rres_any (A R C : Option Addr) (c cr cc : Nat) (M : List (List Int)) (rows cols : List Int) (i j : Int) (w : World) (h : Arg w A M R C rows cols) (hcr : rows.length ≤ cr) (hcc : cols.length ≤ cc) :
    Calls Try.prog 32 #[.slice A M.length c, .slice R rows.length cr, .slice C cols.length cc, .int .i64 i, .int .i64 j] w fun e w' => e = .returned (.tuple #[rtv (resd M rows cols i j).1, .int .i64 (resd M rows cols i j).2]) ∧ Below w.heap.size w w' := by
  have R0 := Lib.hid (rz_new w)
  have CH := Lib.hid (fun W (B : Below w.heap.size w W) => rdiv6_any A R C c cr cc M rows cols W (arg_in h B) hcr hcc)
  by_cases z : (dvz M rows cols).2 = 0
  · obtain ⟨k, dz, d1⟩ := dvz_ok z
    obtain ⟨ho, hl⟩ := cho_of h k
    rw [z, d1] at CH
    rw [hl] at CH hcc ⊢
    have n1 := ho.hn
    have m1 := ho.hm
    have VP := vcode_pos (kcode_cases k).1
    obtain ⟨b, o, A0, c0, rfl, hb0, hc0, hl0, hr0⟩ := ho.mat 0 VP.1
    have hc0 : w.cell? ⟨b, o, none⟩ = some (.slice A0 (rw_ M 0).length c0) := hc0
    have nn1 : (M.length : Int) ≤ 6 := by omega
    have mm1 : ((rw_ M 0).length : Int) ≤ 6 := by omega
    have nn0 : (0 : Int) < (M.length : Int) := by omega
    cases hi : inr i 0 (M.length - 1) with
    | false =>
      have e : resd M rows cols i j = ((0, 0), 5) := by unfold resd; rw [if_pos z, hi]; rfl
      rw [e]
      have CI := Lib.hid (fun W => (hi ▸ within6_any i 0 ((M.length : Int) - 1) W : Calls Try.prog 59 #[.int .i64 i, .int .i64 0, .int .i64 ((M.length : Int) - 1)] W fun e w' => e = .returned (.bool false) ∧ W = w'))
      have C0 := Lib.hid hc0
      clear h ho k dz z hi e hl0 hr0 hc0 VP hl d1 hcr hcc
      generalize detR M rows cols = d at *
      go_enter Try.func32, Try.ntmps32
      go_wp2_with fail
      with_reducible refine (CH.out _ R0.out.bel).mono ?_
      rintro e w2 ⟨rfl, hb⟩
      have R2 := Lib.hid (rz_below R0.out hb)
      have c2 := (R2.out.bel.cell (p := ⟨b, o, none⟩) hb0).trans C0.out
      have hsz := R2.out.bel.size
      have hlt2 : b < w2.heap.size := by omega
      obtain ⟨r0, r1, r2, r3, r4⟩ := rz_s R2.out
      clear hb
      go_wp2_with fail
      with_reducible refine (CI.out _).mono ?_
      rintro e w3 ⟨rfl, rfl⟩
      go_wp2_with fail
      refine bodyPost_ret (v := .tuple #[rtv (0, 0), .int .i64 5]) (by rw [results_cellF2 rfl]; go_simp) rfl ⟨rfl, ?_⟩
      have hB := R2.out.bel
      (repeat' (first | exact Below.refl _ _ | refine bstep ?_ hB | refine Below.setCell ?_ (by simp <;> omega) _ | refine balloc ?_ _ | refine Below.drew ?_ | refine bdrewN ?_ _))
    | true =>
      have CI := Lib.hid (fun W => (hi ▸ within6_any i 0 ((M.length : Int) - 1) W : Calls Try.prog 59 #[.int .i64 i, .int .i64 0, .int .i64 ((M.length : Int) - 1)] W fun e w' => e = .returned (.bool true) ∧ W = w'))
      cases hj : inr j 0 ((rw_ M 0).length - 1) with
      | false =>
        have e : resd M rows cols i j = ((0, 0), 5) := by unfold resd; rw [if_pos z, hi, hj]; rfl
        rw [e]
        have CJ := Lib.hid (fun W => (hj ▸ within6_any j 0 (((rw_ M 0).length : Int) - 1) W : Calls Try.prog 59 #[.int .i64 j, .int .i64 0, .int .i64 (((rw_ M 0).length : Int) - 1)] W fun e w' => e = .returned (.bool false) ∧ W = w'))
        have C0 := Lib.hid hc0
        clear h ho k dz z hi e hl0 hr0 hc0 VP hl hj d1 hcr hcc
        generalize detR M rows cols = d at *
        go_enter Try.func32, Try.ntmps32
        go_wp2_with fail
        with_reducible refine (CH.out _ R0.out.bel).mono ?_
        rintro e w2 ⟨rfl, hb⟩
        have R2 := Lib.hid (rz_below R0.out hb)
        have c2 := (R2.out.bel.cell (p := ⟨b, o, none⟩) hb0).trans C0.out
        have hsz := R2.out.bel.size
        have hlt2 : b < w2.heap.size := by omega
        obtain ⟨r0, r1, r2, r3, r4⟩ := rz_s R2.out
        clear hb
        go_wp2_with fail
        with_reducible refine (CI.out _).mono ?_
        rintro e w3 ⟨rfl, rfl⟩
        go_wp2_with fail
        with_reducible refine (CJ.out _).mono ?_
        rintro e w3 ⟨rfl, rfl⟩
        go_wp2_with fail
        refine bodyPost_ret (v := .tuple #[rtv (0, 0), .int .i64 5]) (by rw [results_cellF2 rfl]; go_simp) rfl ⟨rfl, ?_⟩
        have hB := R2.out.bel
        (repeat' (first | exact Below.refl _ _ | refine bstep ?_ hB | refine Below.setCell ?_ (by simp <;> omega) _ | refine balloc ?_ _ | refine Below.drew ?_ | refine bdrewN ?_ _))
      | true =>
        have e : resd M rows cols i j = (ratq (bord M rows cols i j) (detR M rows cols), 0) := by unfold resd; rw [if_pos z, hi, hj]; rfl
        rw [e]
        have CJ := Lib.hid (fun W => (hj ▸ within6_any j 0 (((rw_ M 0).length : Int) - 1) W : Calls Try.prog 59 #[.int .i64 j, .int .i64 0, .int .i64 (((rw_ M 0).length : Int) - 1)] W fun e w' => e = .returned (.bool true) ∧ W = w'))
        have C0 := Lib.hid hc0
        have i1 := inr_iff.1 hi
        have j1 := inr_iff.1 hj
        have bb := bord_bd ho (i := i) (j := j) (by omega) (by omega)
        have db := detC_bd ho
        have BO := Lib.hid (fun W (B : Below w.heap.size w W) => rbord_any (some ⟨b, o, none⟩) R C c cr cc M.length (rw_ M 0).length rows.length M rows cols i j W (cho_in ho B) (by omega) (by omega))
        have QU := Lib.hid (fun W => ratio_any (bord M rows cols i j) (detR M rows cols) W dz (by omega) (by omega) (by omega) (by omega))
        clear h ho k dz z hi e hl0 hr0 hc0 VP hl hj i1 j1 bb db d1 hcr hcc
        generalize bord M rows cols i j = x at *
        generalize detR M rows cols = d at *
        generalize ratq x d = rr at *
        generalize rows.length = K at *
        go_enter Try.func32, Try.ntmps32
        go_wp2_with fail
        with_reducible refine (CH.out _ R0.out.bel).mono ?_
        rintro e w2 ⟨rfl, hb⟩
        have R2 := Lib.hid (rz_below R0.out hb)
        have c2 := (R2.out.bel.cell (p := ⟨b, o, none⟩) hb0).trans C0.out
        have hsz := R2.out.bel.size
        have hlt2 : b < w2.heap.size := by omega
        obtain ⟨r0, r1, r2, r3, r4⟩ := rz_s R2.out
        clear hb
        go_wp2_with fail
        with_reducible refine (CI.out _).mono ?_
        rintro e w3 ⟨rfl, rfl⟩
        go_wp2_with fail
        with_reducible refine (CJ.out _).mono ?_
        rintro e w3 ⟨rfl, rfl⟩
        clear c2 r0 r1 r2 r3 r4
        go_wp2_with fail
        with_reducible refine (BO.out _ R2.out.bel).mono ?_
        rintro e w3 ⟨rfl, hb⟩
        have R3 := Lib.hid (rz_below R2.out hb)
        clear hb
        go_wp2_with fail
        with_reducible refine (QU.out _).mono ?_
        rintro e w4 ⟨rfl, hb⟩
        have R4 := Lib.hid (rz_below R3.out hb)
        obtain ⟨r0, r1, r2, r3, r4⟩ := rz_s R4.out
        clear hb
        go_wp2_with fail
        refine bodyPost_ret (v := .tuple #[rtv rr, .int .i64 0]) (by rw [results_cellF2 rfl]; go_simp) rfl ⟨rfl, ?_⟩
        have hB := R4.out.bel
        (repeat' (first | exact Below.refl _ _ | refine bstep ?_ hB | refine Below.setCell ?_ (by simp <;> omega) _ | refine balloc ?_ _ | refine Below.drew ?_ | refine bdrewN ?_ _))
  · have e : resd M rows cols i j = ((0, 0), (dvz M rows cols).2) := by unfold resd; rw [if_neg z]
    rw [e]
    clear h e hcr hcc
    generalize (dvz M rows cols).2 = e at *
    generalize (dvz M rows cols).1 = d at *
    have t1 : (e != 0) = true := by simp [z]
    have t2 : (e == 0) = false := by simp [z]
    clear z
    go_enter Try.func32, Try.ntmps32
    go_wp2_with fail
    with_reducible refine (CH.out _ R0.out.bel).mono ?_
    rintro e w2 ⟨rfl, hb⟩
    have R2 := Lib.hid (rz_below R0.out hb)
    obtain ⟨r0, r1, r2, r3, r4⟩ := rz_s R2.out
    clear hb
    go_wp2_with fail
    refine bodyPost_ret (v := .tuple #[rtv (0, 0), .int .i64 e]) (by rw [results_cellF2 rfl]; go_simp) rfl ⟨rfl, ?_⟩
    have hB := R2.out.bel
    (repeat' (first | exact Below.refl _ _ | refine bstep ?_ hB | refine Below.setCell ?_ (by simp <;> omega) _ | refine balloc ?_ _ | refine Below.drew ?_ | refine bdrewN ?_ _))

end Go.Proofs.Ytefmlcojbfiehaa
