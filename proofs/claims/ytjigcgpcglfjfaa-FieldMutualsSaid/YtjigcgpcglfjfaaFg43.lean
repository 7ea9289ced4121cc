/-
  A source's parts as they are seen from a triangle: the closure, the sum, the mean, seenFrom.
-/
import Derived.Test.YtjigcgpcglfjfaaFgMe
import Derived.Test.YtjigcgpcglfjfaaFg42
namespace Go.Proofs.Ytjigcgpcglfjfaa
open Go.ChangeShapes Go.WideShapes Go.RowKit
open Sh
attribute [local go_sem 1000000] run_min_mn run_max_mx
attribute [local go_sem high] run_max3' run_min3'
/-- a source in memory -/
def SrB (w : World) (q : Nat) (v : Value) (sc rm : Int) : Prop := (w.cell? ⟨q, 0, none⟩ = some v ∧ w.cell? ⟨q, 1, none⟩ = some (.int .i64 sc) ∧ w.cell? ⟨q, 2, none⟩ = some (.int .i64 rm)) ∧ q < w.heap.size
theorem srB_new (w : World) (v : Value) (sc rm : Int) (t : TypeId) : SrB (w.alloc (.cells #[v, .int .i64 sc, .int .i64 rm] t)) w.heap.size v sc rm := ⟨⟨by go_simp, by go_simp, by go_simp⟩, by simp⟩
theorem srB_in {w w1 : World} {N q : Nat} {v : Value} {sc rm : Int} (h : SrB w q v sc rm) (hb : Below N w w1) (hq : q < N) : SrB w1 q v sc rm :=
  ⟨⟨(hb.cell (p := ⟨q, 0, none⟩) hq).trans h.1.1, (hb.cell (p := ⟨q, 1, none⟩) hq).trans h.1.2.1, (hb.cell (p := ⟨q, 2, none⟩) hq).trans h.1.2.2⟩, Nat.lt_of_lt_of_le h.2 hb.size⟩
theorem srB_below {w w1 : World} {q : Nat} {v : Value} {sc rm : Int} (h : SrB w q v sc rm) (hb : Below w.heap.size w w1) : SrB w1 q v sc rm := srB_in h hb h.2
theorem srB_alloc {w : World} {q : Nat} {v : Value} {sc rm : Int} (h : SrB w q v sc rm) (o : Obj) : SrB (w.alloc o) q v sc rm := srB_below h ((Below.refl _ _).alloc (Nat.le_refl _) _)
set_option maxRecDepth 100000 in
set_option maxHeartbeats 4000000 in
theorem sfc_hit (b n c d m e : Nat) (al ah bl bh : P3) (sc rm : Int) (bv bs : Nat) (pv : Value) (w : World) (hv : VwP w bv d m e bl bh sc (.func (.func 50) #[] #[])) (hs : SrB w bs pv sc rm) (TC : Hid (∀ W, Calls Try.prog 108 #[vwv d m e bl bh sc (.func (.func 50) #[] #[]), grv b n c al ah] W fun e w' => e = .returned (.bool true) ∧ Below W.heap.size W w')) : Calls Try.prog 135 #[grv b n c al ah, .pointer (some ⟨bv, 0, none⟩), .pointer (some ⟨bs, 0, none⟩)] w fun e w' => e = .returned (.int .i64 rm) ∧ Below w.heap.size w w' := by
  have Y0 := Lib.hid (grp_new w b n c al ah 101)
  have V0 := Lib.hid (vwp_alloc hv (grb b n c al ah 101))
  have R0 := Lib.hid (srB_alloc hs (grb b n c al ah 101))
  have B0 := Lib.hid (show Below w.heap.size w (w.alloc (grb b n c al ah 101)) from (Below.refl _ w).alloc (Nat.le_refl _) _)
  clear hv hs
  obtain ⟨⟨k0, k1, k2, k3, k4, k5, k6, k7, k8⟩, k9⟩ := V0.out
  obtain ⟨⟨g0, g1, g2, g3, g4, g5, g6⟩, g9⟩ := Y0.out
  go_enter Try.func135, Try.ntmps135
  go_wp2_with fail
  with_reducible refine (TC.out _).mono ?_
  rintro e w1 ⟨rfl, hb1⟩
  have Y1 := Lib.hid (grp_below Y0.out hb1)
  have V1 := Lib.hid (vwp_in V0.out hb1 V0.out.2)
  have R1 := Lib.hid (srB_below R0.out hb1)
  have B1 := Lib.hid (bstep B0.out hb1)
  clear k0 k1 k2 k3 k4 k5 k6 k7 k8 k9 g0 g1 g2 g3 g4 g5 g6 g9 Y0 V0 R0 B0 hb1
  obtain ⟨⟨r0, r1, r2⟩, r9⟩ := R1.out
  go_wp2
  go_ret
  exact ⟨rfl, B1.out⟩
theorem sf_cells {W : World} {bv bs q b n c d m e : Nat} {al ah bl bh : P3} {sc rm : Int} {pv : Value} (h : VwP W bv d m e bl bh sc (.func (.func 50) #[] #[]) ∧ Grp W q b n c al ah ∧ SrB W bs pv sc rm) : (W.cell? ⟨bv, 0, none⟩ = some (.slice (some ⟨d, 0, none⟩) m e) ∧ W.cell? ⟨bv, 1, none⟩ = some (.int .i64 bl.1) ∧ W.cell? ⟨bv, 2, none⟩ = some (.int .i64 bl.2.1) ∧ W.cell? ⟨bv, 3, none⟩ = some (.int .i64 bl.2.2) ∧ W.cell? ⟨bv, 4, none⟩ = some (.int .i64 bh.1) ∧ W.cell? ⟨bv, 5, none⟩ = some (.int .i64 bh.2.1) ∧ W.cell? ⟨bv, 6, none⟩ = some (.int .i64 bh.2.2) ∧ W.cell? ⟨bv, 7, none⟩ = some (.int .i64 sc) ∧ W.cell? ⟨bv, 8, none⟩ = some (.func (.func 50) #[] #[])) ∧ (W.cell? ⟨q, 0, none⟩ = some (.slice (some ⟨b, 0, none⟩) n c) ∧ W.cell? ⟨q, 1, none⟩ = some (.int .i64 al.1) ∧ W.cell? ⟨q, 2, none⟩ = some (.int .i64 al.2.1) ∧ W.cell? ⟨q, 3, none⟩ = some (.int .i64 al.2.2) ∧ W.cell? ⟨q, 4, none⟩ = some (.int .i64 ah.1) ∧ W.cell? ⟨q, 5, none⟩ = some (.int .i64 ah.2.1) ∧ W.cell? ⟨q, 6, none⟩ = some (.int .i64 ah.2.2)) ∧ W.cell? ⟨bs, 2, none⟩ = some (.int .i64 rm) := ⟨h.1.1, h.2.1.1, h.2.2.1.2.2⟩
theorem sf_below {W W' : World} {bv bs q b n c d m e : Nat} {al ah bl bh : P3} {sc rm : Int} {pv : Value} (h : VwP W bv d m e bl bh sc (.func (.func 50) #[] #[]) ∧ Grp W q b n c al ah ∧ SrB W bs pv sc rm) (hb : Below W.heap.size W W') : VwP W' bv d m e bl bh sc (.func (.func 50) #[] #[]) ∧ Grp W' q b n c al ah ∧ SrB W' bs pv sc rm := ⟨vwp_in h.1 hb h.1.2, grp_below h.2.1 hb, srB_below h.2.2 hb⟩
set_option maxRecDepth 100000 in
set_option maxHeartbeats 4000000 in
theorem sfc_miss (b n c d m e : Nat) (al ah bl bh : P3) (sc rm : Int) (bv bs : Nat) (pv : Value) (y : Int) (w : World) (hv : VwP w bv d m e bl bh sc (.func (.func 50) #[] #[])) (hs : SrB w bs pv sc rm) (TC : Hid (∀ W, Calls Try.prog 108 #[vwv d m e bl bh sc (.func (.func 50) #[] #[]), grv b n c al ah] W fun e w' => e = .returned (.bool false) ∧ Below W.heap.size W w')) (HC : Hid (∀ W, Calls Try.prog 111 #[vwv d m e bl bh sc (.func (.func 50) #[] #[]), grv b n c al ah] W fun e w' => e = .returned (.int .i64 y) ∧ Below W.heap.size W w')) : Calls Try.prog 135 #[grv b n c al ah, .pointer (some ⟨bv, 0, none⟩), .pointer (some ⟨bs, 0, none⟩)] w fun e w' => e = .returned (.int .i64 (Sp.mn rm y)) ∧ Below w.heap.size w w' := by
  have Y0 := Lib.hid (grp_new w b n c al ah 101)
  have V0 := Lib.hid (vwp_alloc hv (grb b n c al ah 101))
  have R0 := Lib.hid (srB_alloc hs (grb b n c al ah 101))
  have B0 := Lib.hid (show Below w.heap.size w (w.alloc (grb b n c al ah 101)) from (Below.refl _ w).alloc (Nat.le_refl _) _)
  clear hv hs
  obtain ⟨⟨k0, k1, k2, k3, k4, k5, k6, k7, k8⟩, k9⟩ := V0.out
  obtain ⟨⟨g0, g1, g2, g3, g4, g5, g6⟩, g9⟩ := Y0.out
  go_enter Try.func135, Try.ntmps135
  go_wp2_with fail
  with_reducible refine (TC.out _).mono ?_
  rintro e w1 ⟨rfl, hb1⟩
  have Y1 := Lib.hid (grp_below Y0.out hb1)
  have V1 := Lib.hid (vwp_in V0.out hb1 V0.out.2)
  have R1 := Lib.hid (srB_below R0.out hb1)
  have B1 := Lib.hid (bstep B0.out hb1)
  clear k0 k1 k2 k3 k4 k5 k6 k7 k8 k9 g0 g1 g2 g3 g4 g5 g6 g9 Y0 V0 R0 B0 hb1
  obtain ⟨⟨r0, r1, r2⟩, r9⟩ := R1.out
  have i0 : VwP w1.drew bv d m e bl bh sc (.func (.func 50) #[] #[]) ∧ Grp w1.drew w.heap.size b n c al ah ∧ SrB w1.drew bs pv sc rm := ⟨V1.out, Y1.out, R1.out⟩
  have b0 := Lib.hid (show Below w.heap.size w w1.drew from Below.drew B1.out)
  clear r0 r1 r2 r9 V1 Y1 R1 B1
  go_wp2_with fail
  go_region_held3 (fun w' => (w'.cell? ⟨bv, 0, none⟩ = some (.slice (some ⟨d, 0, none⟩) m e) ∧ w'.cell? ⟨bv, 1, none⟩ = some (.int .i64 bl.1) ∧ w'.cell? ⟨bv, 2, none⟩ = some (.int .i64 bl.2.1) ∧ w'.cell? ⟨bv, 3, none⟩ = some (.int .i64 bl.2.2) ∧ w'.cell? ⟨bv, 4, none⟩ = some (.int .i64 bh.1) ∧ w'.cell? ⟨bv, 5, none⟩ = some (.int .i64 bh.2.1) ∧ w'.cell? ⟨bv, 6, none⟩ = some (.int .i64 bh.2.2) ∧ w'.cell? ⟨bv, 7, none⟩ = some (.int .i64 sc) ∧ w'.cell? ⟨bv, 8, none⟩ = some (.func (.func 50) #[] #[])) ∧ (w'.cell? ⟨w.heap.size, 0, none⟩ = some (.slice (some ⟨b, 0, none⟩) n c) ∧ w'.cell? ⟨w.heap.size, 1, none⟩ = some (.int .i64 al.1) ∧ w'.cell? ⟨w.heap.size, 2, none⟩ = some (.int .i64 al.2.1) ∧ w'.cell? ⟨w.heap.size, 3, none⟩ = some (.int .i64 al.2.2) ∧ w'.cell? ⟨w.heap.size, 4, none⟩ = some (.int .i64 ah.1) ∧ w'.cell? ⟨w.heap.size, 5, none⟩ = some (.int .i64 ah.2.1) ∧ w'.cell? ⟨w.heap.size, 6, none⟩ = some (.int .i64 ah.2.2)) ∧ w'.cell? ⟨bs, 2, none⟩ = some (.int .i64 rm))
    (first | (refine sf_cells i0) | (refine sf_cells i1) | fail)
    (first | (go_at_call 111; (with_reducible refine (HC.out _).mono ?_); rintro e v1 ⟨rfl, hv1⟩; have i1 := sf_below i0 hv1; have b1 := Lib.hid (bstep b0.out hv1)) | fail)
  all_goals
    go_wp2
    go_ret
    exact ⟨rfl, b1.out⟩
set_option maxRecDepth 100000 in
set_option maxHeartbeats 2000000 in
theorem gsc_any (bv bs q n c : Nat) (gs : List (Nat × P9)) (f : Nat → Int) (w : World) (r : RowGs w q n gs) (hn : n ≤ 1000) (CC : Hid (∀ k, k < n → ∀ W, Below w.heap.size w W → Calls Try.prog 135 #[grv (gA gs k).1 3 3 (loN (P3F (gA gs k).2) 3) (hiN (P3F (gA gs k).2) 3), .pointer (some ⟨bv, 0, none⟩), .pointer (some ⟨bs, 0, none⟩)] W fun e w' => e = .returned (.int .i64 (f k)) ∧ Below W.heap.size W w')) (BD : Hid (∀ k, k ≤ n → -4611686018427387904 ≤ sm f k ∧ sm f k ≤ 4611686018427387904)) :
    Calls Try.prog 156 #[.slice (some ⟨q, 0, none⟩) n c, .func (.func 135) #[] #[.pointer (some ⟨bv, 0, none⟩), .pointer (some ⟨bs, 0, none⟩)]] w fun e w' => e = .returned (.int .i64 (sm f n)) ∧ Below w.heap.size w w' := by
  have hn' : (n : Int) ≤ 1000 := by omega
  have R := Lib.hid r
  clear r
  go_enter Try.func156, Try.ntmps156
  go_wp2
  go_loopw [5, 10] (fun tv jv wr => ∃ k : Nat, k ≤ n ∧ jv = .int .i64 k ∧ tv = .int .i64 (sm f k) ∧ Below w.heap.size w wr) (fun _ jv _ => n - (intOf jv).toNat)
  case atStart => exact ⟨0, Nat.zero_le _, rfl, rfl, Below.refl _ _⟩
  case round =>
    obtain ⟨k, hk, rfl, rfl, BB⟩ := hrel
    have B0 := Lib.hid BB
    clear BB
    by_cases hlt : k < n
    · have hk1 : (k : Int) < (n : Int) := by omega
      have q1 := rowgs_in R.out B0.out
      obtain ⟨⟨c0, c1, c2, c3, c4, c5, c6⟩, _⟩ := q1.2 k hlt
      have s1 := q1.1
      have NX := Lib.hid (show sm f (k + 1) = sm f k + f k from rfl)
      have bb := BD.out (k + 1) hlt
      rw [NX.out] at bb
      obtain ⟨b1, b2⟩ := bb
      have CK := Lib.hid (CC.out k hlt)
      clear q1 CC BD
      generalize loN (P3F (gA gs k).2) 3 = lo at *
      generalize hiN (P3F (gA gs k).2) 3 = hi at *
      generalize (gA gs k).1 = g at *
      generalize f k = y at *
      generalize sm f k = x at *
      go_wp2_with fail
      go_at_call 135
      refine (CK.out _ (by have hB := B0.out; (repeat' (first | exact Below.refl _ _ | refine bstep ?_ hB | refine Below.setCell ?_ (by simp <;> omega) _ | refine balloc ?_ _ | refine Below.drew ?_ | refine bdrewN ?_ _)))).mono ?_
      rintro e w1 ⟨rfl, hb⟩
      go_wp2
      go_roundw
      case rel => exact ⟨k + 1, by omega, by go_num, by rw [NX.out], by have hB := B0.out; (repeat' (first | exact Below.refl _ _ | refine bstep ?_ hb | refine bstep ?_ hB | refine Below.setCell ?_ (by simp <;> omega) _ | refine balloc ?_ _ | refine Below.drew ?_ | refine bdrewN ?_ _))⟩
      case measure => simp [intOf]; omega
    · obtain rfl : k = n := by omega
      go_wp2
      go_ret
      exact ⟨rfl, B0.out⟩
set_option maxRecDepth 100000 in
set_option maxHeartbeats 2000000 in
theorem gavs_any (d m e : Nat) (bl bh : P3) (sc : Int) (bv bs : Nat) (q n c : Nat) (gs : List (Nat × P9)) (f h : Nat → Int) (w : World) (r : RowGs w q n gs) (hn0 : 0 < n) (hn : n ≤ 1000) (hf : ∀ k, k < n → 0 ≤ f k ∧ f k ≤ 1000000000) (hh : ∀ k, k < n → 0 ≤ h k ∧ h k ≤ 1000000000)
    (CL1 : Hid (∀ k, k < n → ∀ W, Below w.heap.size w W → Calls Try.prog 110 #[vwv d m e bl bh sc (.func (.func 50) #[] #[]), grv (gA gs k).1 3 3 (loN (P3F (gA gs k).2) 3) (hiN (P3F (gA gs k).2) 3)] W fun e w' => e = .returned (.int .i64 (f k)) ∧ Below W.heap.size W w')) (CH : Hid (∀ k, k < n → ∀ W, Below w.heap.size w W → Calls Try.prog 135 #[grv (gA gs k).1 3 3 (loN (P3F (gA gs k).2) 3) (hiN (P3F (gA gs k).2) 3), .pointer (some ⟨bv, 0, none⟩), .pointer (some ⟨bs, 0, none⟩)] W fun e w' => e = .returned (.int .i64 (h k)) ∧ Below W.heap.size W w')) :
    Calls Try.prog 109 #[.slice (some ⟨q, 0, none⟩) n c, .func (.func 110) #[vwv d m e bl bh sc (.func (.func 50) #[] #[])] #[], .func (.func 135) #[] #[.pointer (some ⟨bv, 0, none⟩), .pointer (some ⟨bs, 0, none⟩)]] w fun e w' => e = .returned (.agg #[.int .i64 (sm f n / (n : Int)), .int .i64 ((sm h n + (n : Int) - 1) / (n : Int))]) ∧ Below w.heap.size w w' := by
  have bd {g : Nat → Int} (hg : ∀ k, k < n → 0 ≤ g k ∧ g k ≤ 1000000000) : ∀ k, k ≤ n → 0 ≤ sm g k ∧ sm g k ≤ 1000000000000 := fun k hk => by
    have := sm_pos9 (n := k) fun i hi => hg i (by omega)
    have : (k : Int) * 1000000000 ≤ 1000 * 1000000000 := Int.mul_le_mul_of_nonneg_right (by omega) (by decide)
    omega
  have SL := Lib.hid (fun (W : World) (B : Below w.heap.size w W) => gsl_any d m e bl bh sc (.func (.func 50) #[] #[]) q n c gs f W (rowgs_in r B) hn (Lib.hid fun k hk W' B' => CL1.out k hk W' (Below.trans B (B'.mono B.size))) (Lib.hid fun k hk => by have := bd hf k hk; omega))
  have SH := Lib.hid (fun (W : World) (B : Below w.heap.size w W) => gsc_any bv bs q n c gs h W (rowgs_in r B) hn (Lib.hid fun k hk W' B' => CH.out k hk W' (Below.trans B (B'.mono B.size))) (Lib.hid fun k hk => by have := bd hh k hk; omega))
  obtain ⟨f1, f2⟩ := bd hf n (Nat.le_refl _)
  obtain ⟨h1, h2⟩ := bd hh n (Nat.le_refl _)
  have n1 : (0 : Int) < (n : Int) := by omega
  have n2 : (n : Int) ≤ 1000 := by omega
  have n3 : ¬ ((n : Int) = 0) := by omega
  have q1 : sm f n / (n : Int) ≤ sm f n := Int.ediv_le_self _ f1
  have q0 : 0 ≤ sm f n / (n : Int) := Int.ediv_nonneg f1 (by omega)
  have q3 : (sm h n + (n : Int) - 1) / (n : Int) ≤ sm h n + (n : Int) - 1 := Int.ediv_le_self _ (by omega)
  have q2 : 0 ≤ (sm h n + (n : Int) - 1) / (n : Int) := Int.ediv_nonneg (by omega) (by omega)
  have d1 := tdiv_pos9 (x := sm f n) (d := (n : Int)) f1
  have d2 := tdiv_pos9 (x := sm h n + (n : Int) - 1) (d := (n : Int)) (by omega)
  clear r CL1 CH hf hh bd
  generalize sm f n = x at *
  generalize sm h n = y at *
  generalize x / (n : Int) = xq at *
  generalize (y + (n : Int) - 1) / (n : Int) = yq at *
  have w1 : IntKind.i64.wrap (y + (n : Int)) = y + (n : Int) := IntWalk.i64_in _ (by omega)
  have w2 : IntKind.i64.wrap (y + (n : Int) - 1) = y + (n : Int) - 1 := IntWalk.i64_in _ (by omega)
  have w3 : IntKind.i64.wrap xq = xq := IntWalk.i64_in _ (by omega)
  have w4 : IntKind.i64.wrap yq = yq := IntWalk.i64_in _ (by omega)
  have P0 : OwP (w.alloc (.cells #[.int .i64 0, .int .i64 0] 35)).drew w.heap.size (0, 0) := owp_new w (0, 0) 35
  have BW : Below w.heap.size w (w.alloc (.cells #[.int .i64 0, .int .i64 0] 35)).drew := Below.drew (balloc (Below.refl _ _) _)
  have A1 := Lib.hid (SL.out _ BW)
  go_enter Try.func109, Try.ntmps109
  go_wp2_with fail
  go_region_with (first
    | (go_at_call 156; (with_reducible refine A1.out.mono ?_); rintro e v0 ⟨rfl, hv0⟩; have p1 := owp_below P0 hv0; have b1 := bstep BW hv0; have A2 := Lib.hid (SH.out _ b1))
    | (go_at_call 156; (with_reducible refine A2.out.mono ?_); rintro e v1 ⟨rfl, hv1⟩; obtain ⟨o0, o1, o2, o3, o4⟩ := owp_below p1 hv1; have b2 := bstep b1 hv1))
  all_goals
    go_wp2
    (try simp only [w1, w2, w3, w4, d1, d2])
    refine bodyPost_ret (v := .agg #[.int .i64 xq, .int .i64 yq]) (by rw [results_cell rfl]; go_simp) rfl ⟨rfl, ?_⟩
    (repeat' (first | with_reducible exact b2 | (with_reducible refine Below.setCell ?_ (by simp <;> omega) _)))
set_option maxRecDepth 100000 in
set_option maxHeartbeats 4000000 in
theorem sfr_walk (q N cp b n c : Nat) (al ah : P3) (sc rm x y : Int) (w : World)
    (AVH : Hid (∀ W bv bs, Below w.heap.size w W → VwP W bv b n c al ah sc (.func (.func 50) #[] #[]) → SrB W bs (.slice (some ⟨q, 0, none⟩) N cp) sc rm → Calls Try.prog 109 #[.slice (some ⟨q, 0, none⟩) N cp, .func (.func 110) #[vwv b n c al ah sc (.func (.func 50) #[] #[])] #[], .func (.func 135) #[] #[.pointer (some ⟨bv, 0, none⟩), .pointer (some ⟨bs, 0, none⟩)]] W fun e w' => e = .returned (.agg #[.int .i64 x, .int .i64 y]) ∧ Below W.heap.size W w')) :
    Calls Try.prog 69 #[.agg #[.slice (some ⟨q, 0, none⟩) N cp, .int .i64 sc, .int .i64 rm], grv b n c al ah] w fun e w' => e = .returned (.agg #[.int .i64 x, .int .i64 y]) ∧ Below w.heap.size w w' := by
  have S0 := Lib.hid (srB_alloc (srB_alloc (srB_new w (.slice (some ⟨q, 0, none⟩) N cp) sc rm 96) (grb b n c al ah 101)) (.cells #[.int .i64 0, .int .i64 0] 35))
  have Y0 := Lib.hid (grp_alloc (grp_new (w.alloc (.cells #[.slice (some ⟨q, 0, none⟩) N cp, .int .i64 sc, .int .i64 rm] 96)) b n c al ah 101) (.cells #[.int .i64 0, .int .i64 0] 35))
  have Z0 := Lib.hid (owp_new ((w.alloc (.cells #[.slice (some ⟨q, 0, none⟩) N cp, .int .i64 sc, .int .i64 rm] 96)).alloc (grb b n c al ah 101)) (0, 0) 35)
  simp only [World.size_alloc] at Y0 Z0
  have V0 := Lib.hid (vwp_new (((w.alloc (.cells #[.slice (some ⟨q, 0, none⟩) N cp, .int .i64 sc, .int .i64 rm] 96)).alloc (grb b n c al ah 101)).alloc (.cells #[.int .i64 0, .int .i64 0] 35)) b n c al ah sc (.func (.func 50) #[] #[]) 132)
  simp only [World.size_alloc] at V0
  have S1' := Lib.hid (srB_alloc S0.out (vwb b n c al ah sc (.func (.func 50) #[] #[]) 132))
  have Z1 := Lib.hid (owp_alloc Z0.out (vwb b n c al ah sc (.func (.func 50) #[] #[]) 132))
  have B0 := Lib.hid (show Below w.heap.size w ((((w.alloc (.cells #[.slice (some ⟨q, 0, none⟩) N cp, .int .i64 sc, .int .i64 rm] 96)).alloc (grb b n c al ah 101)).alloc (.cells #[.int .i64 0, .int .i64 0] 35)).alloc (vwb b n c al ah sc (.func (.func 50) #[] #[]) 132)) by (repeat' (first | exact Below.refl _ _ | refine Below.setCell ?_ (by simp <;> omega) _ | refine balloc ?_ _ | refine Below.drew ?_ | refine bdrewN ?_ _)))
  obtain ⟨⟨r0, r1, r2⟩, r9⟩ := S0.out
  obtain ⟨⟨g0, g1, g2, g3, g4, g5, g6⟩, g9⟩ := Y0.out
  go_enter Try.func69, Try.ntmps69
  go_upto_region 2 with fail
  clear r0 r1 r2 r9 g0 g1 g2 g3 g4 g5 g6 g9
  obtain ⟨⟨r0, r1, r2⟩, r9⟩ := S1'.out
  obtain ⟨⟨k0, k1, k2, k3, k4, k5, k6, k7, k8⟩, k9⟩ := V0.out
  go_wp2_with fail
  with_reducible refine (AVH.out _ _ _ B0.out V0.out S1'.out).mono ?_
  rintro e w1 ⟨rfl, hb1⟩
  clear r0 r1 r2 r9 k0 k1 k2 k3 k4 k5 k6 k7 k8 k9
  obtain ⟨o0, o1, o2, o3, o4⟩ := owp_below Z1.out hb1
  have hB := bstep B0.out hb1
  go_wp2
  refine bodyPost_ret (v := .agg #[.int .i64 x, .int .i64 y]) (by rw [results_cell rfl]; go_simp) rfl ⟨rfl, ?_⟩
  (repeat' (first | with_reducible exact hB | (with_reducible refine Below.setCell ?_ (by simp <;> omega) _)))

end Go.Proofs.Ytjigcgpcglfjfaa
