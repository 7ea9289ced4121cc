/-
  The contract of the document's Ratio.
-/
import Derived.Test.YtllonfaogbdbnaaCr13
namespace Go.Proofs.Ytllonfaogbdbnaa
open Go.ChangeShapes Go.WideShapes Go.RowKit
open Cr
theorem emod_eq {x y : Int} (h : 0 ≤ x) : x % y = x.tmod y := (Int.tmod_eq_emod_of_nonneg h).symm
theorem gI_end {x g : Int} (h0 : 0 ≤ x) (h : gI x 0 = g) : x = g := by
  rw [gI_zero] at h; unfold absI at h; split at h <;> omega
theorem gI_mod {x y g : Int} (h0 : 0 ≤ x) (h : gI x y = g) : gI y (x % y) = g := by rw [emod_eq h0, gI_step]; exact h
set_option maxHeartbeats 1000000 in
theorem ratio_neg (n d : Int) (w : World) (hd : d < 0) (n1 : -9000000000000000000 ≤ n) (n2 : n ≤ 9000000000000000000) (d1 : -9000000000000000000 ≤ d) (d2 : d ≤ 9000000000000000000) :
    Calls Try.prog 28 #[.int .i64 n, .int .i64 d] w fun e w' => e = .returned (rtv (ratq n d)) ∧ Below w.heap.size w w' := by
  have e := ratq_neg (n := n) hd
  have g1 := gI_pos (n := n) (d := d) (by omega)
  have g2 := gI_le (n := n) (d := d) (by omega) d1 d2
  rw [e]
  clear e
  have S1 := Lib.hid (fun W => size_any n W (by omega) (by omega))
  have S2 := Lib.hid (fun W => size_any d W (by omega) (by omega))
  have GA := Lib.hid (gI_abs n d)
  obtain ⟨a1, a2⟩ := absI_bd n1 n2
  obtain ⟨b1, b2⟩ := absI_bd d1 d2
  generalize absI n = x0 at *
  generalize absI d = y0 at *
  generalize gI n d = g at *
  have db1 := Lib.hid (tdiv_bdB (n := n) (d := g) n1 n2)
  have db2 := Lib.hid (tdiv_bdB (n := d) (d := g) d1 d2)
  have g3 : (-g) ≠ 0 := by omega
  have g4 : ¬ g = 0 := by omega
  go_enter Try.func28, Try.ntmps28
  go_wp2_with fail
  with_reducible refine (S1.out _).mono ?_
  rintro e w2 ⟨rfl, rfl⟩
  go_wp2_with fail
  with_reducible refine (S2.out _).mono ?_
  rintro e w2 ⟨rfl, rfl⟩
  go_wp2_with fail
  clear S1 S2
  go_loopw [5, 6] (fun xv yv wr => ∃ x y : Int, xv = .int .i64 x ∧ yv = .int .i64 y ∧ 0 ≤ x ∧ x ≤ 9000000000000000000 ∧ 0 ≤ y ∧ y ≤ 9000000000000000000 ∧ gI x y = g ∧ Below (w.alloc (rtc (0, 0))).heap.size (w.alloc (rtc (0, 0))) wr) (fun _ yv _ => (intOf yv).toNat)
  case atStart => exact ⟨x0, y0, rfl, rfl, a1, a2, b1, b2, GA.out, Below.refl _ _⟩
  case round =>
    obtain ⟨x, y, rfl, rfl, x1, x2, y1, y2, hg, B⟩ := hrel
    have HB := Lib.hid B
    by_cases hy : y = 0
    · subst hy
      obtain rfl := gI_end x1 hg
      have hs := B.size
      simp only [World.size_alloc] at hs
      have hlt : w.heap.size < wr.heap.size := by omega
      have c0 := (B.cell (p := ⟨w.heap.size, 0, none⟩) (by simp)).trans (show (w.alloc (rtc (0, 0))).cell? ⟨w.heap.size, 0, none⟩ = some (.int .i64 0) by go_simp)
      have c1 := (B.cell (p := ⟨w.heap.size, 1, none⟩) (by simp)).trans (show (w.alloc (rtc (0, 0))).cell? ⟨w.heap.size, 1, none⟩ = some (.int .i64 0) by go_simp)
      have f0 := (B.frozen (p := ⟨w.heap.size, 0, none⟩) (by simp)).trans (show (w.alloc (rtc (0, 0))).frozen? ⟨w.heap.size, 0, none⟩ = false by go_simp)
      have f1 := (B.frozen (p := ⟨w.heap.size, 1, none⟩) (by simp)).trans (show (w.alloc (rtc (0, 0))).frozen? ⟨w.heap.size, 1, none⟩ = false by go_simp)
      clear hg B
      go_wp2_with fail
      go_region
      all_goals
        go_wp2_with fail
        refine bodyPost_ret (v := rtv (n.tdiv (-x), d.tdiv (-x))) (by rw [results_cellF rfl]; go_simp; have := db1.out; have := db2.out; (first | (constructor <;> exact wrapB (by omega) (by omega)) | exact (Int.tdiv_eq_ediv_of_nonneg (by omega)).symm)) rfl ⟨rfl, ?_⟩
        have hB := HB.out
        (repeat' (first | exact Below.refl _ _ | refine bstep ?_ hB | refine Below.setCell ?_ (by simp <;> omega) _ | refine balloc ?_ _ | refine Below.drew ?_ | refine bdrewN ?_ _))
    · have t1 : (y != 0) = true := by simp [hy]
      have t2 : (y == 0) = false := by simp [hy]
      have hy0 : 0 < y := by omega
      have m1 := Int.emod_nonneg x hy
      have m2 := Int.emod_lt_of_pos x hy0
      have GS := Lib.hid (gI_mod x1 hg)
      have m3 : x % y ≤ 9000000000000000000 := by omega
      have M2 := Lib.hid m2
      clear hg B m2
      go_wp2_with fail
      go_quiet (fail)
      go_wp2_with fail
      go_roundw
      case rel => exact ⟨y, x % y, rfl, rfl, y1, y2, m1, m3, GS.out, by have hB := HB.out; exact bdrewN hB _⟩
      case measure => simp [intOf]; have := M2.out; omega
set_option maxHeartbeats 1000000 in
theorem ratio_pos (n d : Int) (w : World) (hd : 0 < d) (n1 : -9000000000000000000 ≤ n) (n2 : n ≤ 9000000000000000000) (d1 : -9000000000000000000 ≤ d) (d2 : d ≤ 9000000000000000000) :
    Calls Try.prog 28 #[.int .i64 n, .int .i64 d] w fun e w' => e = .returned (rtv (ratq n d)) ∧ Below w.heap.size w w' := by
  have e := ratq_pos (n := n) (by omega : ¬ d < 0)
  have g1 := gI_pos (n := n) (d := d) (by omega)
  have g2 := gI_le (n := n) (d := d) (by omega) d1 d2
  rw [e]
  clear e
  have S1 := Lib.hid (fun W => size_any n W (by omega) (by omega))
  have S2 := Lib.hid (fun W => size_any d W (by omega) (by omega))
  have GA := Lib.hid (gI_abs n d)
  obtain ⟨a1, a2⟩ := absI_bd n1 n2
  obtain ⟨b1, b2⟩ := absI_bd d1 d2
  generalize absI n = x0 at *
  generalize absI d = y0 at *
  generalize gI n d = g at *
  have db1 := Lib.hid (tdiv_bdB (n := n) (d := g) n1 n2)
  have db2 := Lib.hid (tdiv_bdB (n := d) (d := g) d1 d2)
  have g3 : g ≠ 0 := by omega
  have g4 : ¬ g = 0 := by omega
  go_enter Try.func28, Try.ntmps28
  go_wp2_with fail
  with_reducible refine (S1.out _).mono ?_
  rintro e w2 ⟨rfl, rfl⟩
  go_wp2_with fail
  with_reducible refine (S2.out _).mono ?_
  rintro e w2 ⟨rfl, rfl⟩
  go_wp2_with fail
  clear S1 S2
  go_loopw [5, 6] (fun xv yv wr => ∃ x y : Int, xv = .int .i64 x ∧ yv = .int .i64 y ∧ 0 ≤ x ∧ x ≤ 9000000000000000000 ∧ 0 ≤ y ∧ y ≤ 9000000000000000000 ∧ gI x y = g ∧ Below (w.alloc (rtc (0, 0))).heap.size (w.alloc (rtc (0, 0))) wr) (fun _ yv _ => (intOf yv).toNat)
  case atStart => exact ⟨x0, y0, rfl, rfl, a1, a2, b1, b2, GA.out, Below.refl _ _⟩
  case round =>
    obtain ⟨x, y, rfl, rfl, x1, x2, y1, y2, hg, B⟩ := hrel
    have HB := Lib.hid B
    by_cases hy : y = 0
    · subst hy
      obtain rfl := gI_end x1 hg
      have hs := B.size
      simp only [World.size_alloc] at hs
      have hlt : w.heap.size < wr.heap.size := by omega
      have c0 := (B.cell (p := ⟨w.heap.size, 0, none⟩) (by simp)).trans (show (w.alloc (rtc (0, 0))).cell? ⟨w.heap.size, 0, none⟩ = some (.int .i64 0) by go_simp)
      have c1 := (B.cell (p := ⟨w.heap.size, 1, none⟩) (by simp)).trans (show (w.alloc (rtc (0, 0))).cell? ⟨w.heap.size, 1, none⟩ = some (.int .i64 0) by go_simp)
      have f0 := (B.frozen (p := ⟨w.heap.size, 0, none⟩) (by simp)).trans (show (w.alloc (rtc (0, 0))).frozen? ⟨w.heap.size, 0, none⟩ = false by go_simp)
      have f1 := (B.frozen (p := ⟨w.heap.size, 1, none⟩) (by simp)).trans (show (w.alloc (rtc (0, 0))).frozen? ⟨w.heap.size, 1, none⟩ = false by go_simp)
      clear hg B
      go_wp2_with fail
      go_region
      all_goals
        go_wp2_with fail
        refine bodyPost_ret (v := rtv (n.tdiv x, d.tdiv x)) (by rw [results_cellF rfl]; go_simp; have := db1.out; have := db2.out; (first | (constructor <;> exact wrapB (by omega) (by omega)) | exact (Int.tdiv_eq_ediv_of_nonneg (by omega)).symm)) rfl ⟨rfl, ?_⟩
        have hB := HB.out
        (repeat' (first | exact Below.refl _ _ | refine bstep ?_ hB | refine Below.setCell ?_ (by simp <;> omega) _ | refine balloc ?_ _ | refine Below.drew ?_ | refine bdrewN ?_ _))
    · have t1 : (y != 0) = true := by simp [hy]
      have t2 : (y == 0) = false := by simp [hy]
      have hy0 : 0 < y := by omega
      have m1 := Int.emod_nonneg x hy
      have m2 := Int.emod_lt_of_pos x hy0
      have GS := Lib.hid (gI_mod x1 hg)
      have m3 : x % y ≤ 9000000000000000000 := by omega
      have M2 := Lib.hid m2
      clear hg B m2
      go_wp2_with fail
      go_quiet (fail)
      go_wp2_with fail
      go_roundw
      case rel => exact ⟨y, x % y, rfl, rfl, y1, y2, m1, m3, GS.out, by have hB := HB.out; exact bdrewN hB _⟩
      case measure => simp [intOf]; have := M2.out; omega
theorem ratio_any (n d : Int) (w : World) (hd : d ≠ 0) (n1 : -9000000000000000000 ≤ n) (n2 : n ≤ 9000000000000000000) (d1 : -9000000000000000000 ≤ d) (d2 : d ≤ 9000000000000000000) :
    Calls Try.prog 28 #[.int .i64 n, .int .i64 d] w fun e w' => e = .returned (rtv (ratq n d)) ∧ Below w.heap.size w w' := by
  by_cases h : d < 0
  · exact ratio_neg n d w h n1 n2 d1 d2
  · exact ratio_pos n d w (by omega) n1 n2 d1 d2

end Go.Proofs.Ytllonfaogbdbnaa
