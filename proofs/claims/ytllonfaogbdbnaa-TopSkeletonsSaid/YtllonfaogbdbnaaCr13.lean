/-
  Plain arithmetic of fractions in lowest terms; the contracts of commonDivisor, quotient and Ratio.
-/
import Derived.Test.YtllonfaogbdbnaaCr12
import Derived.RegionTactic
import Derived.ChangeAlike
import Derived.BigRegion
namespace Go.Proofs.Ytllonfaogbdbnaa
open Go.ChangeShapes Go.WideShapes Go.RowKit
open Cr
theorem results_cellF {fn : Func} {p : Tmp} {ty : TypeId} (h : fn.results = #[.cell p ty]) (tmps : Array Value) (P : Program) (w : World) :
    (results fn tmps).run P w =
      ((asAddr (tmps.getD p undef)).run P w).andThen fun a w₁ => (loadVar ty a).run P w₁ := by
  simp only [results, h]
  simp [Sem.run_bind, Result.andThen]
theorem results_cellF2 {fn : Func} {p u : Tmp} {ty : TypeId} (h : fn.results = #[.cell p ty, .tmp u]) (tmps : Array Value) (P : Program) (w : World) :
    (results fn tmps).run P w =
      ((asAddr (tmps.getD p undef)).run P w).andThen fun a w₁ => ((loadVar ty a).run P w₁).andThen fun x w₂ => .ok (.tuple #[x, tmps.getD u undef]) w₂ := by
  simp only [results, h]
  simp [Sem.run_bind, Result.andThen]
/-- the greatest common divisor -/
def gI (n d : Int) : Int := (Nat.gcd n.natAbs d.natAbs : Nat)
theorem gI_step {n d : Int} : gI d (n.tmod d) = gI n d := by
  unfold gI
  rw [Int.natAbs_tmod, Nat.gcd_comm n.natAbs d.natAbs, Nat.gcd_rec d.natAbs n.natAbs, Nat.gcd_comm]
theorem gI_zero (n : Int) : gI n 0 = absI n := by
  unfold gI absI
  rw [show (0 : Int).natAbs = 0 from rfl, Nat.gcd_zero_right]
  split <;> omega
theorem gI_abs (n d : Int) : gI (absI n) (absI d) = gI n d := by
  have h : ∀ x : Int, (absI x).natAbs = x.natAbs := fun x => by unfold absI; split <;> omega
  unfold gI; rw [h, h]
theorem gI_pos {n d : Int} (h : d ≠ 0) : 1 ≤ gI n d := by
  unfold gI
  have := Nat.gcd_pos_of_pos_right n.natAbs (show 0 < d.natAbs by omega)
  omega
theorem gI_le {n d B : Int} (h : d ≠ 0) (h1 : -B ≤ d) (h2 : d ≤ B) : gI n d ≤ B := by
  unfold gI
  have := Nat.gcd_le_right n.natAbs (show 0 < d.natAbs by omega)
  omega
theorem tmod_lt {n d : Int} (h : d ≠ 0) : (n.tmod d).natAbs < d.natAbs := by
  rw [Int.natAbs_tmod]; exact Nat.mod_lt _ (by omega)
theorem tmod_bdB {n d B : Int} (h : d ≠ 0) (h1 : -B ≤ d) (h2 : d ≤ B) : -B ≤ n.tmod d ∧ n.tmod d ≤ B := by
  have := tmod_lt (n := n) h
  omega
theorem tdiv_bdB {n d B : Int} (h1 : -B ≤ n) (h2 : n ≤ B) : -B ≤ n.tdiv d ∧ n.tdiv d ≤ B := by
  have e2 : (n.tdiv d).natAbs ≤ n.natAbs := by rw [Int.natAbs_tdiv]; exact Nat.div_le_self _ _
  omega
/-- n / d in lowest terms -/
def ratq (n d : Int) : Int × Int := let b := if d < 0 then -gI n d else gI n d; (n.tdiv b, d.tdiv b)
/-- a fraction as a value -/
abbrev rtv (r : Int × Int) : Value := .agg #[.int .i64 r.1, .int .i64 r.2]
abbrev rtc (r : Int × Int) : Obj := .cells #[.int .i64 r.1, .int .i64 r.2] 46
theorem ratq_neg {n d : Int} (h : d < 0) : ratq n d = (n.tdiv (-gI n d), d.tdiv (-gI n d)) := by unfold ratq; rw [if_pos h]
theorem ratq_pos {n d : Int} (h : ¬ d < 0) : ratq n d = (n.tdiv (gI n d), d.tdiv (gI n d)) := by unfold ratq; rw [if_neg h]
theorem wrapB {x : Int} (h1 : -9000000000000000000 ≤ x) (h2 : x ≤ 9000000000000000000) : wrap64 x = x := by
  exact IntWalk.wrap64_in x (by omega)
set_option maxHeartbeats 400000 in
theorem cd_any (n d : Int) (w : World) (n1 : -9000000000000000000 ≤ n) (n2 : n ≤ 9000000000000000000) (d1 : -9000000000000000000 ≤ d) (d2 : d ≤ 9000000000000000000) :
    Calls Try.prog 85 #[.int .i64 n, .int .i64 d] w fun e w' => e = .returned (.int .i64 (gI n d)) ∧ Below w.heap.size w w' := by
  go_enter Try.func85, Try.ntmps85
  go_wp2
  go_loopw [0, 1] (fun nv dv wr => ∃ x y : Int, nv = .int .i64 x ∧ dv = .int .i64 y ∧ -9000000000000000000 ≤ x ∧ x ≤ 9000000000000000000 ∧ -9000000000000000000 ≤ y ∧ y ≤ 9000000000000000000 ∧ gI x y = gI n d ∧ Below w.heap.size w wr) (fun _ dv _ => (intOf dv).natAbs)
  case atStart => exact ⟨n, d, rfl, rfl, n1, n2, d1, d2, rfl, Below.refl _ _⟩
  case round =>
    obtain ⟨x, y, rfl, rfl, x1, x2, y1, y2, hg, B⟩ := hrel
    have HG := Lib.hid hg
    have HB := Lib.hid B
    clear hg B n1 n2 d1 d2
    by_cases hy : y = 0
    · subst hy
      have HZ := Lib.hid ((gI_zero x).symm.trans HG.out)
      have CA := Lib.hid (fun W => absC_any x W (by omega) (by omega))
      rw [HZ.out] at CA
      go_wp2_with fail
      with_reducible refine (CA.out _).mono ?_
      rintro e w' ⟨rfl, rfl⟩
      go_wp2_with fail
      go_ret
      exact ⟨rfl, HB.out⟩
    · have t1 : (y != 0) = true := by simp [hy]
      have t2 : (y == 0) = false := by simp [hy]
      have ML := Lib.hid (Nat.mod_lt x.natAbs (show 0 < y.natAbs by omega))
      obtain ⟨m1, m2⟩ := tmod_bdB (n := x) (B := 9000000000000000000) hy y1 y2
      have GS := Lib.hid ((gI_step (n := x) (d := y)).trans HG.out)
      have WR := wrapB m1 m2
      go_wp2_with fail
      go_quiet (fail)
      go_wp2_with fail
      go_roundw
      case rel => exact ⟨y, x.tmod y, rfl, rfl, y1, y2, m1, m2, GS.out, by have hB := HB.out; (repeat' (first | exact Below.refl _ _ | refine bstep ?_ hB | refine Below.setCell ?_ (by simp <;> omega) _ | refine balloc ?_ _ | refine Below.drew ?_ | refine bdrewN ?_ _))⟩
      case measure => simp [intOf]; exact ML.out
theorem quo_neg (n d : Int) (w : World) (hd : d < 0) (n1 : -9000000000000000000 ≤ n) (n2 : n ≤ 9000000000000000000) (d1 : -9000000000000000000 ≤ d) (d2 : d ≤ 9000000000000000000) :
    Calls Try.prog 47 #[.int .i64 n, .int .i64 d] w fun e w' => e = .returned (rtv (ratq n d)) ∧ Below w.heap.size w w' := by
  have e := ratq_neg (n := n) hd
  have g1 := gI_pos (n := n) (d := d) (by omega)
  have g2 := gI_le (n := n) (d := d) (by omega) d1 d2
  rw [e]
  clear e
  have CD := Lib.hid (fun W => cd_any n d W n1 n2 d1 d2)
  generalize gI n d = g at *
  have db1 := Lib.hid (tdiv_bdB (n := n) (d := g) n1 n2)
  have db2 := Lib.hid (tdiv_bdB (n := d) (d := g) d1 d2)
  have g3 : (-g) ≠ 0 := by omega
  have g4 : ¬ g = 0 := by omega
  go_enter Try.func47, Try.ntmps47
  go_wp2_with fail
  with_reducible refine (CD.out _).mono ?_
  rintro e w2 ⟨rfl, hb2⟩
  have HB := Lib.hid hb2
  have hs := hb2.size
  simp only [World.size_alloc] at hs
  have hlt : w.heap.size < w2.heap.size := by omega
  have c0 := (hb2.cell (p := ⟨w.heap.size, 0, none⟩) (by simp)).trans (show (w.alloc (rtc (0, 0))).cell? ⟨w.heap.size, 0, none⟩ = some (.int .i64 0) by go_simp)
  have c1 := (hb2.cell (p := ⟨w.heap.size, 1, none⟩) (by simp)).trans (show (w.alloc (rtc (0, 0))).cell? ⟨w.heap.size, 1, none⟩ = some (.int .i64 0) by go_simp)
  have f0 := (hb2.frozen (p := ⟨w.heap.size, 0, none⟩) (by simp)).trans (show (w.alloc (rtc (0, 0))).frozen? ⟨w.heap.size, 0, none⟩ = false by go_simp)
  have f1 := (hb2.frozen (p := ⟨w.heap.size, 1, none⟩) (by simp)).trans (show (w.alloc (rtc (0, 0))).frozen? ⟨w.heap.size, 1, none⟩ = false by go_simp)
  clear hb2
  go_wp2_with fail
  go_region
  all_goals
    go_wp2_with fail
    refine bodyPost_ret (v := rtv (n.tdiv (-g), d.tdiv (-g))) (by rw [results_cellF rfl]; go_simp; have := db1.out; have := db2.out; (first | (constructor <;> exact wrapB (by omega) (by omega)) | exact (Int.tdiv_eq_ediv_of_nonneg (by omega)).symm)) rfl ⟨rfl, ?_⟩
    have hB := HB.out
    (repeat' (first | exact Below.refl _ _ | refine bstep ?_ hB | refine Below.setCell ?_ (by simp <;> omega) _ | refine balloc ?_ _ | refine Below.drew ?_ | refine bdrewN ?_ _))
theorem quo_pos (n d : Int) (w : World) (hd : 0 < d) (n1 : -9000000000000000000 ≤ n) (n2 : n ≤ 9000000000000000000) (d1 : -9000000000000000000 ≤ d) (d2 : d ≤ 9000000000000000000) :
    Calls Try.prog 47 #[.int .i64 n, .int .i64 d] w fun e w' => e = .returned (rtv (ratq n d)) ∧ Below w.heap.size w w' := by
  have e := ratq_pos (n := n) (by omega : ¬ d < 0)
  have g1 := gI_pos (n := n) (d := d) (by omega)
  have g2 := gI_le (n := n) (d := d) (by omega) d1 d2
  rw [e]
  clear e
  have CD := Lib.hid (fun W => cd_any n d W n1 n2 d1 d2)
  generalize gI n d = g at *
  have db1 := Lib.hid (tdiv_bdB (n := n) (d := g) n1 n2)
  have db2 := Lib.hid (tdiv_bdB (n := d) (d := g) d1 d2)
  have g3 : g ≠ 0 := by omega
  have g4 : ¬ g = 0 := by omega
  go_enter Try.func47, Try.ntmps47
  go_wp2_with fail
  with_reducible refine (CD.out _).mono ?_
  rintro e w2 ⟨rfl, hb2⟩
  have HB := Lib.hid hb2
  have hs := hb2.size
  simp only [World.size_alloc] at hs
  have hlt : w.heap.size < w2.heap.size := by omega
  have c0 := (hb2.cell (p := ⟨w.heap.size, 0, none⟩) (by simp)).trans (show (w.alloc (rtc (0, 0))).cell? ⟨w.heap.size, 0, none⟩ = some (.int .i64 0) by go_simp)
  have c1 := (hb2.cell (p := ⟨w.heap.size, 1, none⟩) (by simp)).trans (show (w.alloc (rtc (0, 0))).cell? ⟨w.heap.size, 1, none⟩ = some (.int .i64 0) by go_simp)
  have f0 := (hb2.frozen (p := ⟨w.heap.size, 0, none⟩) (by simp)).trans (show (w.alloc (rtc (0, 0))).frozen? ⟨w.heap.size, 0, none⟩ = false by go_simp)
  have f1 := (hb2.frozen (p := ⟨w.heap.size, 1, none⟩) (by simp)).trans (show (w.alloc (rtc (0, 0))).frozen? ⟨w.heap.size, 1, none⟩ = false by go_simp)
  clear hb2
  go_wp2_with fail
  go_region
  all_goals
    go_wp2_with fail
    refine bodyPost_ret (v := rtv (n.tdiv g, d.tdiv g)) (by rw [results_cellF rfl]; go_simp; have := db1.out; have := db2.out; (first | (constructor <;> exact wrapB (by omega) (by omega)) | exact (Int.tdiv_eq_ediv_of_nonneg (by omega)).symm)) rfl ⟨rfl, ?_⟩
    have hB := HB.out
    (repeat' (first | exact Below.refl _ _ | refine bstep ?_ hB | refine Below.setCell ?_ (by simp <;> omega) _ | refine balloc ?_ _ | refine Below.drew ?_ | refine bdrewN ?_ _))
theorem quo_any (n d : Int) (w : World) (hd : d ≠ 0) (n1 : -9000000000000000000 ≤ n) (n2 : n ≤ 9000000000000000000) (d1 : -9000000000000000000 ≤ d) (d2 : d ≤ 9000000000000000000) :
    Calls Try.prog 47 #[.int .i64 n, .int .i64 d] w fun e w' => e = .returned (rtv (ratq n d)) ∧ Below w.heap.size w w' := by
  by_cases h : d < 0
  · exact quo_neg n d w h n1 n2 d1 d2
  · exact quo_pos n d w (by omega) n1 n2 d1 d2

end Go.Proofs.Ytllonfaogbdbnaa
