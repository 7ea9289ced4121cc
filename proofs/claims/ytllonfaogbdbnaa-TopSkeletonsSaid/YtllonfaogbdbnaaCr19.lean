/-
  The contracts of choose, and of the document's divisible.
-/
import Derived.Test.YtllonfaogbdbnaaCr18
namespace Go.Proofs.Ytllonfaogbdbnaa
open Go.ChangeShapes Go.WideShapes Go.RowKit
open Cr
theorem kcode_cases {M : List (List Int)} {rows cols : List Int} (h : kcode M rows cols = 0) : vcode M = 0 ∧ chB M rows cols = true := by
  unfold kcode at h
  split at h
  · rename_i hv
    refine ⟨hv, ?_⟩
    cases e : chB M rows cols
    · rw [e] at h; cases h
    · rfl
  · rename_i hv; exact absurd h hv
theorem cho_of {w : World} {A R C : Option Addr} {M : List (List Int)} {rows cols : List Int} (h : Arg w A M R C rows cols) (k : kcode M rows cols = 0) :
    Cho w A M.length (rw_ M 0).length M R C rows.length rows cols ∧ cols.length = rows.length := by
  obtain ⟨hv, hc⟩ := kcode_cases k
  obtain ⟨n, m, q, n1, n6, m1, m6⟩ := sq_of hv
  obtain rfl : M.length = n := q.len
  obtain rfl : (rw_ M 0).length = m := rw_len q (by omega)
  unfold chB at hc
  simp only [Bool.and_eq_true, decide_eq_true_eq] at hc
  obtain ⟨⟨h1, h2⟩, h3⟩ := hc
  obtain ⟨ur, lr⟩ := under_of h2
  obtain ⟨uc, lc⟩ := under_of h3
  exact ⟨⟨h.mat, q, h.rowsI, h.colsI, ur, uc, rfl, h1.symm, by omega, n6, m6⟩, h1.symm⟩
set_option maxHeartbeats 1000000 in
theorem choose_err (A R C : Option Addr) (c cr cc : Nat) (M : List (List Int)) (rows cols : List Int) (w : World) (h : Arg w A M R C rows cols) (k : kcode M rows cols ≠ 0) :
    Calls Try.prog 45 #[.slice A M.length c, .slice R rows.length cr, .slice C cols.length cc] w fun e w' => e = .returned (.tuple #[chv none 0 0 none 0 0 none 0 0 0, .int .i64 (kcode M rows cols)]) ∧ Below w.heap.size w w' := by
  have CH := Lib.hid (fun W (B : Below w.heap.size w W) => check_any A R C c cr cc M rows cols W (arg_in h B))
  have B0 := Lib.hid (show Below w.heap.size w (w.alloc (chb none 0 0 none 0 0 none 0 0 0)) from balloc (Below.refl _ _) _)
  clear h
  generalize kcode M rows cols = e at *
  have t1 : (e != 0) = true := by simp [k]
  have t2 : (e == 0) = false := by simp [k]
  clear k
  go_enter Try.func45, Try.ntmps45
  go_wp2_with fail
  with_reducible refine (CH.out _ B0.out).mono ?_
  rintro e w2 ⟨rfl, rfl⟩
  go_wp2_with fail
  refine bodyPost_ret (v := .tuple #[chv none 0 0 none 0 0 none 0 0 0, .int .i64 e]) (by rw [results_cellF2 rfl]; go_simp) rfl ⟨rfl, ?_⟩
  have hB := B0.out
  (repeat' (first | exact Below.refl _ _ | refine bstep ?_ hB | refine Below.setCell ?_ (by simp <;> omega) _ | refine balloc ?_ _ | refine Below.drew ?_ | refine bdrewN ?_ _))
set_option maxHeartbeats 1000000 in
theorem choose_zero (A R C : Option Addr) (c cr cc : Nat) (M : List (List Int)) (rows cols : List Int) (w : World) (h : Arg w A M R C rows cols) (k : kcode M rows cols = 0) (dz : detR M rows cols = 0) :
    Calls Try.prog 45 #[.slice A M.length c, .slice R rows.length cr, .slice C cols.length cc] w fun e w' => e = .returned (.tuple #[chv none 0 0 none 0 0 none 0 0 0, .int .i64 11]) ∧ Below w.heap.size w w' := by
  obtain ⟨ho, hl⟩ := cho_of h k
  have CH := Lib.hid (fun W (B : Below w.heap.size w W) => check_any A R C c cr cc M rows cols W (arg_in h B))
  rw [k] at CH
  have MI := Lib.hid (fun W (B : Below w.heap.size w W) => minor_any A R C c cr cc M.length (rw_ M 0).length rows.length M rows cols W (ml_in ho.mat B) ho.sq (il_in ho.rowsI B) (il_in ho.colsI B) ho.ur ho.uc rfl hl (by have := ho.h6; omega))
  rw [dz] at MI
  rw [hl] at CH ⊢
  have B0 := Lib.hid (show Below w.heap.size w (w.alloc (chb none 0 0 none 0 0 none 0 0 0)) from balloc (Below.refl _ _) _)
  clear h ho hl k dz
  go_enter Try.func45, Try.ntmps45
  go_wp2_with fail
  with_reducible refine (CH.out _ B0.out).mono ?_
  rintro e w2 ⟨rfl, rfl⟩
  go_wp2_with fail
  with_reducible refine (MI.out _ B0.out).mono ?_
  rintro e w3 ⟨rfl, hb⟩
  have HB := Lib.hid hb
  have hs := hb.size
  simp only [World.size_alloc] at hs
  have hlt : w.heap.size < w3.heap.size := by omega
  have c0 := (hb.cell (p := ⟨w.heap.size, 0, none⟩) (by simp)).trans (show (w.alloc (chb none 0 0 none 0 0 none 0 0 0)).cell? ⟨w.heap.size, 0, none⟩ = some (.slice none 0 0) by go_simp)
  have c1 := (hb.cell (p := ⟨w.heap.size, 1, none⟩) (by simp)).trans (show (w.alloc (chb none 0 0 none 0 0 none 0 0 0)).cell? ⟨w.heap.size, 1, none⟩ = some (.slice none 0 0) by go_simp)
  have c2 := (hb.cell (p := ⟨w.heap.size, 2, none⟩) (by simp)).trans (show (w.alloc (chb none 0 0 none 0 0 none 0 0 0)).cell? ⟨w.heap.size, 2, none⟩ = some (.slice none 0 0) by go_simp)
  have c3 := (hb.cell (p := ⟨w.heap.size, 3, none⟩) (by simp)).trans (show (w.alloc (chb none 0 0 none 0 0 none 0 0 0)).cell? ⟨w.heap.size, 3, none⟩ = some (.int .i64 0) by go_simp)
  have f0 := (hb.frozen (p := ⟨w.heap.size, 0, none⟩) (by simp)).trans (show (w.alloc (chb none 0 0 none 0 0 none 0 0 0)).frozen? ⟨w.heap.size, 0, none⟩ = false by go_simp)
  have f1 := (hb.frozen (p := ⟨w.heap.size, 1, none⟩) (by simp)).trans (show (w.alloc (chb none 0 0 none 0 0 none 0 0 0)).frozen? ⟨w.heap.size, 1, none⟩ = false by go_simp)
  have f2 := (hb.frozen (p := ⟨w.heap.size, 2, none⟩) (by simp)).trans (show (w.alloc (chb none 0 0 none 0 0 none 0 0 0)).frozen? ⟨w.heap.size, 2, none⟩ = false by go_simp)
  have f3 := (hb.frozen (p := ⟨w.heap.size, 3, none⟩) (by simp)).trans (show (w.alloc (chb none 0 0 none 0 0 none 0 0 0)).frozen? ⟨w.heap.size, 3, none⟩ = false by go_simp)
  clear hb
  go_wp2_with fail
  refine bodyPost_ret (v := .tuple #[chv none 0 0 none 0 0 none 0 0 0, .int .i64 11]) (by rw [results_cellF2 rfl]; go_simp) rfl ⟨rfl, ?_⟩
  have hB := HB.out
  (repeat' (first | exact Below.refl _ _ | refine bstep ?_ hB | refine Below.setCell ?_ (by simp <;> omega) _ | refine balloc ?_ _ | refine Below.drew ?_ | refine bdrewN ?_ _))
set_option maxHeartbeats 1000000 in
theorem choose_ok (A R C : Option Addr) (c cr cc : Nat) (M : List (List Int)) (rows cols : List Int) (w : World) (h : Arg w A M R C rows cols) (k : kcode M rows cols = 0) (dz : detR M rows cols ≠ 0) :
    Calls Try.prog 45 #[.slice A M.length c, .slice R rows.length cr, .slice C cols.length cc] w fun e w' => e = .returned (.tuple #[chv A M.length c R rows.length cr C rows.length cc (detR M rows cols), .int .i64 0]) ∧ Below w.heap.size w w' := by
  obtain ⟨ho, hl⟩ := cho_of h k
  have CH := Lib.hid (fun W (B : Below w.heap.size w W) => check_any A R C c cr cc M rows cols W (arg_in h B))
  rw [k] at CH
  have MI := Lib.hid (fun W (B : Below w.heap.size w W) => minor_any A R C c cr cc M.length (rw_ M 0).length rows.length M rows cols W (ml_in ho.mat B) ho.sq (il_in ho.rowsI B) (il_in ho.colsI B) ho.ur ho.uc rfl hl (by have := ho.h6; omega))
  rw [hl] at CH ⊢
  generalize detR M rows cols = d at *
  have t1 : (d != 0) = true := by simp [dz]
  have t2 : (d == 0) = false := by simp [dz]
  have B0 := Lib.hid (show Below w.heap.size w (w.alloc (chb none 0 0 none 0 0 none 0 0 0)) from balloc (Below.refl _ _) _)
  clear h ho hl k dz
  go_enter Try.func45, Try.ntmps45
  go_wp2_with fail
  with_reducible refine (CH.out _ B0.out).mono ?_
  rintro e w2 ⟨rfl, rfl⟩
  go_wp2_with fail
  with_reducible refine (MI.out _ B0.out).mono ?_
  rintro e w3 ⟨rfl, hb⟩
  have HB := Lib.hid hb
  have hs := hb.size
  simp only [World.size_alloc] at hs
  have hlt : w.heap.size < w3.heap.size := by omega
  have c0 := (hb.cell (p := ⟨w.heap.size, 0, none⟩) (by simp)).trans (show (w.alloc (chb none 0 0 none 0 0 none 0 0 0)).cell? ⟨w.heap.size, 0, none⟩ = some (.slice none 0 0) by go_simp)
  have c1 := (hb.cell (p := ⟨w.heap.size, 1, none⟩) (by simp)).trans (show (w.alloc (chb none 0 0 none 0 0 none 0 0 0)).cell? ⟨w.heap.size, 1, none⟩ = some (.slice none 0 0) by go_simp)
  have c2 := (hb.cell (p := ⟨w.heap.size, 2, none⟩) (by simp)).trans (show (w.alloc (chb none 0 0 none 0 0 none 0 0 0)).cell? ⟨w.heap.size, 2, none⟩ = some (.slice none 0 0) by go_simp)
  have c3 := (hb.cell (p := ⟨w.heap.size, 3, none⟩) (by simp)).trans (show (w.alloc (chb none 0 0 none 0 0 none 0 0 0)).cell? ⟨w.heap.size, 3, none⟩ = some (.int .i64 0) by go_simp)
  have f0 := (hb.frozen (p := ⟨w.heap.size, 0, none⟩) (by simp)).trans (show (w.alloc (chb none 0 0 none 0 0 none 0 0 0)).frozen? ⟨w.heap.size, 0, none⟩ = false by go_simp)
  have f1 := (hb.frozen (p := ⟨w.heap.size, 1, none⟩) (by simp)).trans (show (w.alloc (chb none 0 0 none 0 0 none 0 0 0)).frozen? ⟨w.heap.size, 1, none⟩ = false by go_simp)
  have f2 := (hb.frozen (p := ⟨w.heap.size, 2, none⟩) (by simp)).trans (show (w.alloc (chb none 0 0 none 0 0 none 0 0 0)).frozen? ⟨w.heap.size, 2, none⟩ = false by go_simp)
  have f3 := (hb.frozen (p := ⟨w.heap.size, 3, none⟩) (by simp)).trans (show (w.alloc (chb none 0 0 none 0 0 none 0 0 0)).frozen? ⟨w.heap.size, 3, none⟩ = false by go_simp)
  clear hb
  go_wp2_with fail
  refine bodyPost_ret (v := .tuple #[chv A M.length c R rows.length cr C rows.length cc d, .int .i64 0]) (by rw [results_cellF2 rfl]; go_simp) rfl ⟨rfl, ?_⟩
  have hB := HB.out
  (repeat' (first | exact Below.refl _ _ | refine bstep ?_ hB | refine Below.setCell ?_ (by simp <;> omega) _ | refine balloc ?_ _ | refine Below.drew ?_ | refine bdrewN ?_ _))
/-- what divisible answers -/
def dvz (M : List (List Int)) (rows cols : List Int) : Int × Int := if kcode M rows cols = 0 then (if detR M rows cols = 0 then (0, 11) else (detR M rows cols, 0)) else (0, kcode M rows cols)
set_option maxHeartbeats 1000000 in
theorem rdiv6_any (A R C : Option Addr) (c cr cc : Nat) (M : List (List Int)) (rows cols : List Int) (w : World) (h : Arg w A M R C rows cols) (hcr : rows.length ≤ cr) (hcc : cols.length ≤ cc) :
    Calls Try.prog 49 #[.slice A M.length c, .slice R rows.length cr, .slice C cols.length cc] w fun e w' => e = .returned (.tuple #[.int .i64 (dvz M rows cols).1, .int .i64 (dvz M rows cols).2]) ∧ Below w.heap.size w w' := by
  have CH := Lib.hid (fun W (B : Below w.heap.size w W) => chosen_any A R C c cr cc M rows cols W (arg_in h B))
  unfold dvz
  by_cases k : kcode M rows cols = 0
  · obtain ⟨ho, hl⟩ := cho_of h k
    have DE := Lib.hid (fun W (B : Below w.heap.size w W) => rdet_any M.length (rw_ M 0).length c M ho.sq rows.length A R C cr cc rows cols W (by have := ho.h6; omega) rfl hl hcr (by omega) (ml_in ho.mat B) (il_in ho.rowsI B) (il_in ho.colsI B) ho.ur ho.uc)
    rw [if_pos k]
    rw [k] at CH
    rw [hl] at CH ⊢
    clear h ho hl k hcr hcc
    generalize detR M rows cols = d at *
    by_cases dz : d = 0
    · rw [if_pos dz]
      subst dz
      go_enter Try.func49, Try.ntmps49
      go_wp2_with fail
      with_reducible refine (CH.out _ (Below.refl _ _)).mono ?_
      rintro e w2 ⟨rfl, hb⟩
      have HB := Lib.hid hb
      clear hb
      go_wp2_with fail
      with_reducible refine (DE.out _ HB.out).mono ?_
      rintro e w3 ⟨rfl, hb⟩
      have HB3 := Lib.hid (bstep HB.out hb)
      clear hb
      go_wp2_with fail
      go_ret2
      exact ⟨rfl, HB3.out⟩
    · rw [if_neg dz]
      have t1 : (d != 0) = true := by simp [dz]
      have t2 : (d == 0) = false := by simp [dz]
      clear dz
      go_enter Try.func49, Try.ntmps49
      go_wp2_with fail
      with_reducible refine (CH.out _ (Below.refl _ _)).mono ?_
      rintro e w2 ⟨rfl, hb⟩
      have HB := Lib.hid hb
      clear hb
      go_wp2_with fail
      with_reducible refine (DE.out _ HB.out).mono ?_
      rintro e w3 ⟨rfl, hb⟩
      have HB3 := Lib.hid (bstep HB.out hb)
      clear hb
      go_wp2_with fail
      go_ret2
      exact ⟨rfl, HB3.out⟩
  · rw [if_neg k]
    clear h
    generalize kcode M rows cols = e at *
    have t1 : (e != 0) = true := by simp [k]
    have t2 : (e == 0) = false := by simp [k]
    clear k
    go_enter Try.func49, Try.ntmps49
    go_wp2_with fail
    with_reducible refine (CH.out _ (Below.refl _ _)).mono ?_
    rintro e w2 ⟨rfl, hb⟩
    have HB := Lib.hid hb
    clear hb
    go_wp2_with fail
    go_ret2
    exact ⟨rfl, HB.out⟩

end Go.Proofs.Ytllonfaogbdbnaa
