/-
  The walk of field.meanFrom: behind its callees' contracts.
-/
import Derived.Test.YtjigcgpcglfjfaaFg11
import Derived.Laws.EntriesVeiled
namespace Go.Proofs.Ytjigcgpcglfjfaa
open Go.ChangeShapes Go.WideShapes Go.RowKit
open Sh
theorem rwg_new1 (w : World) (y : P3) (t : TypeId) : RwG (w.alloc (ptc y t)) w.heap.size 1 (fun _ => y) := by
  refine ⟨by simp, fun k hk => ?_⟩
  obtain rfl : k = 0 := by omega
  exact ⟨by go_simp, by go_simp, by go_simp⟩
set_option maxRecDepth 100000 in
set_option maxHeartbeats 4000000 in
theorem mfwi (a b c x y lo hi : P3) (D sc : Int) (nz : Bool) (p q : Int) (w : World) (SH : Hid (wrap64 (2 ^ D.toNat) = sc)) (SB : 0 ≤ D ∧ D ≤ 3 ∧ 0 ≤ sc ∧ sc ≤ 8)
    (C1 : Hid (∀ W, Calls Try.prog 77 #[pnv a b c, ptv x, .int .i64 D] W fun e w' => e = .returned (.int .i64 0) ∧ Below W.heap.size W w'))
    (C2 : Hid (∀ W, Calls Try.prog 105 #[.int .i64 sc, ptv x] W fun e w' => e = .returned (ptv y) ∧ Below W.heap.size W w'))
    (C3 : Hid (∀ W q, RwG W q 1 (fun _ => y) → Calls Try.prog 104 #[.slice (some ⟨q, 0, none⟩) 1 1] W fun e w' => e = .returned (grv q 1 1 lo hi) ∧ Below W.heap.size W w'))
    (C4 : Hid (∀ W, Calls Try.prog 106 #[pnv a b c, .int .i64 D] W fun e w' => ∃ v gs, e = .returned v ∧ gs.map Prod.snd = cutP D.toNat (a, b, c) ∧ w'.ownsRow W.heap.size 101 7 v gs.length (gcs gs) ∧ (∀ g, g ∈ gs → PtB w' g.1 g.2) ∧ Below W.heap.size W w'))
    (C5 : Hid (∀ W v (gs : List (Nat × P9)) xb, W.ownsRow 0 101 7 v gs.length (gcs gs) → (∀ g, g ∈ gs → PtB W g.1 g.2) → gs.map Prod.snd = cutP D.toNat (a, b, c) → RwG W xb 1 (fun _ => y) → Calls Try.prog 107 #[v, .func (.func 108) #[vwv xb 1 1 lo hi sc (.func (.func 50) #[] #[])] #[]] W fun e w' => e = .returned (.bool nz) ∧ Below W.heap.size W w'))
    (C6 : Hid (nz = false → ∀ W v (gs : List (Nat × P9)) xb, W.ownsRow 0 101 7 v gs.length (gcs gs) → (∀ g, g ∈ gs → PtB W g.1 g.2) → gs.map Prod.snd = cutP D.toNat (a, b, c) → RwG W xb 1 (fun _ => y) → Calls Try.prog 109 #[v, .func (.func 110) #[vwv xb 1 1 lo hi sc (.func (.func 50) #[] #[])] #[], .func (.func 111) #[vwv xb 1 1 lo hi sc (.func (.func 50) #[] #[])] #[]] W fun e w' => e = .returned (.agg #[.int .i64 p, .int .i64 q]) ∧ Below W.heap.size W w')) :
    Calls Try.prog 49 #[pnv a b c, ptv x, .int .i64 D, .func (.func 50) #[] #[]] w fun e w' => e = .returned (spr (if nz = true then ((0, 0), 10) else ((p, q), 0))) ∧ Below w.heap.size w w' := by
  obtain ⟨s1, s2, s3, s4⟩ := SB
  have P0 := Lib.hid (pan_alloc (pan_alloc (pan_new w a b c 25) (ptc x 23)) (.cells #[.int .i64 0, .int .i64 0] 35))
  have X0 := Lib.hid (own_alloc (own_new (w.alloc (pnc a b c 25)) x 23) (.cells #[.int .i64 0, .int .i64 0] 35))
  have R0 := Lib.hid (owp_new ((w.alloc (pnc a b c 25)).alloc (ptc x 23)) (0, 0) 35)
  simp only [World.size_alloc] at X0 R0
  have B0 := Lib.hid (show Below w.heap.size w (((w.alloc (pnc a b c 25)).alloc (ptc x 23)).alloc (.cells #[.int .i64 0, .int .i64 0] 35)) by (repeat' (first | exact Below.refl _ _ | refine Below.setCell ?_ (by simp <;> omega) _ | refine balloc ?_ _ | refine Below.drew ?_ | refine bdrewN ?_ _)))
  go_enter Try.func49, Try.ntmps49
  go_wp2_with fail
  with_reducible refine (C1.out _).mono ?_
  rintro e w1 ⟨rfl, hb1⟩
  have P1 := Lib.hid (pan_below P0.out hb1)
  have X1 := Lib.hid (own_below X0.out hb1)
  have R1 := Lib.hid (owp_below R0.out hb1)
  have B1 := Lib.hid (bstep B0.out hb1)
  clear P0 X0 R0 B0 hb1
  obtain ⟨o0, o1, o2, o3, o4, o5, o6⟩ := id X1.out
  have sh := SH.out
  go_wp2_with fail
  with_reducible refine (C2.out _).mono ?_
  rintro e w2 ⟨rfl, hb2⟩
  have P2 := Lib.hid (pan_below P1.out hb2)
  have R2 := Lib.hid (owp_below R1.out hb2)
  have B2 := Lib.hid (bstep B1.out hb2)
  clear P1 X1 R1 B1 hb2 o0 o1 o2 o3 o4 o5 o6
  have Q3 := Lib.hid (rwg_new1 w2 y 23)
  go_wp2_with fail
  with_reducible refine (C3.out _ _ Q3.out).mono ?_
  rintro e w3 ⟨rfl, hb3⟩
  have Q4 := Lib.hid (rwg_below Q3.out hb3)
  have P3' := Lib.hid (pan_below (pan_alloc P2.out _) hb3)
  have R3 := Lib.hid (owp_below (owp_alloc R2.out _) hb3)
  have B3 := Lib.hid (bstep (balloc B2.out _) hb3)
  clear P2 R2 B2 hb3 Q3
  have V4 := Lib.hid (vwp_new w3 w2.heap.size 1 1 lo hi sc (.func (.func 50) #[] #[]) 132)
  have P4 := Lib.hid (pan_alloc P3'.out (vwb w2.heap.size 1 1 lo hi sc (.func (.func 50) #[] #[]) 132))
  have R4 := Lib.hid (owp_alloc R3.out (vwb w2.heap.size 1 1 lo hi sc (.func (.func 50) #[] #[]) 132))
  have Q5 := Lib.hid (rwg_below Q4.out ((Below.refl _ _).alloc (Nat.le_refl _) (vwb w2.heap.size 1 1 lo hi sc (.func (.func 50) #[] #[]) 132)))
  have B4 := Lib.hid (balloc B3.out (vwb w2.heap.size 1 1 lo hi sc (.func (.func 50) #[] #[]) 132))
  clear P3' R3 B3 Q4
  obtain ⟨k0, k1, k2, k3, k4, k5, k6, k7, k8, k9⟩ := id P4.out
  go_wp2_with fail
  with_reducible refine (C4.out _).mono ?_
  rintro e w4 ⟨v, gs, rfl, hgs, hrow, hpt, hb4⟩
  have V5 := Lib.hid (vwp_in V4.out hb4 V4.out.2)
  have R5 := Lib.hid (owp_below R4.out hb4)
  have Q6 := Lib.hid (rwg_below Q5.out hb4)
  have B5 := Lib.hid (bstep B4.out hb4)
  have HR := Lib.hid (own_base9 hrow (Nat.zero_le _))
  have HP := Lib.hid hpt
  have HG := Lib.hid hgs
  clear P4 R4 B4 Q5 V4 hb4 hrow hpt hgs k0 k1 k2 k3 k4 k5 k6 k7 k8 k9
  obtain ⟨⟨k0, k1, k2, k3, k4, k5, k6, k7, k8⟩, k9⟩ := id V5.out
  go_wp2_with fail
  with_reducible refine (C5.out _ v gs _ HR.out HP.out HG.out Q6.out).mono ?_
  rintro e w5 ⟨rfl, hb5⟩
  cases nz with
  | true =>
    obtain ⟨o0, o1, o2, o3, o4⟩ := owp_below R5.out hb5
    have hB := bstep B5.out hb5
    clear R5 B5 k0 k1 k2 k3 k4 k5 k6 k7 k8 k9
    go_wp2
    refine bodyPost_ret (v := spr ((0, 0), 10)) (by rw [results_cell_tmp rfl]; go_simp) rfl ⟨rfl, ?_⟩
    (repeat' (first | with_reducible exact hB | (with_reducible refine Below.setCell ?_ (by simp <;> omega) _)))
  | false =>
    have HR6 := Lib.hid (HR.out.kept (below_grown9 hb5) (by cases v.ownBlock <;> simp))
    have HP6 := Lib.hid (fun g hg => ptb_below (HP.out g hg) hb5)
    have Q7 := Lib.hid (rwg_below Q6.out hb5)
    have R6 := Lib.hid (owp_below R5.out hb5)
    have B6 := Lib.hid (bstep B5.out hb5)
    have V6 := Lib.hid (vwp_in V5.out hb5 V5.out.2)
    clear R5 B5 Q6 HR HP V5 k0 k1 k2 k3 k4 k5 k6 k7 k8 k9
    obtain ⟨⟨k0, k1, k2, k3, k4, k5, k6, k7, k8⟩, k9⟩ := id V6.out
    go_wp2_with fail
    with_reducible refine (C6.out trivial _ v gs _ HR6.out HP6.out HG.out Q7.out).mono ?_
    rintro e w6 ⟨rfl, hb6⟩
    obtain ⟨o0, o1, o2, o3, o4⟩ := owp_below R6.out hb6
    have hB := bstep B6.out hb6
    clear R6 B6 k0 k1 k2 k3 k4 k5 k6 k7 k8 k9
    go_wp2
    refine bodyPost_ret (v := spr ((p, q), 0)) (by rw [results_cell_tmp rfl]; go_simp) rfl ⟨rfl, ?_⟩
    (repeat' (first | with_reducible exact hB | (with_reducible refine Below.setCell ?_ (by simp <;> omega) _)))
set_option maxRecDepth 100000 in
set_option maxHeartbeats 4000000 in
theorem mfwc (a b c x y lo hi : P3) (D sc : Int) (nz : Bool) (p q : Int) (w : World) (SH : Hid (wrap64 (2 ^ D.toNat) = sc)) (SB : 0 ≤ D ∧ D ≤ 3 ∧ 0 ≤ sc ∧ sc ≤ 8)
    (C1 : Hid (∀ W, Calls Try.prog 77 #[pnv a b c, ptv x, .int .i64 D] W fun e w' => e = .returned (.int .i64 0) ∧ Below W.heap.size W w'))
    (C2 : Hid (∀ W, Calls Try.prog 105 #[.int .i64 sc, ptv x] W fun e w' => e = .returned (ptv y) ∧ Below W.heap.size W w'))
    (C3 : Hid (∀ W q, RwG W q 1 (fun _ => y) → Calls Try.prog 104 #[.slice (some ⟨q, 0, none⟩) 1 1] W fun e w' => e = .returned (grv q 1 1 lo hi) ∧ Below W.heap.size W w'))
    (C4 : Hid (∀ W, Calls Try.prog 106 #[pnv a b c, .int .i64 D] W fun e w' => ∃ v gs, e = .returned v ∧ gs.map Prod.snd = cutP D.toNat (a, b, c) ∧ w'.ownsRow W.heap.size 101 7 v gs.length (gcs gs) ∧ (∀ g, g ∈ gs → PtB w' g.1 g.2) ∧ Below W.heap.size W w'))
    (C5 : Hid (∀ W v (gs : List (Nat × P9)) xb, W.ownsRow 0 101 7 v gs.length (gcs gs) → (∀ g, g ∈ gs → PtB W g.1 g.2) → gs.map Prod.snd = cutP D.toNat (a, b, c) → RwG W xb 1 (fun _ => y) → Calls Try.prog 107 #[v, .func (.func 108) #[vwv xb 1 1 lo hi sc (.func (.func 53) #[] #[])] #[]] W fun e w' => e = .returned (.bool nz) ∧ Below W.heap.size W w'))
    (C6 : Hid (nz = false → ∀ W v (gs : List (Nat × P9)) xb, W.ownsRow 0 101 7 v gs.length (gcs gs) → (∀ g, g ∈ gs → PtB W g.1 g.2) → gs.map Prod.snd = cutP D.toNat (a, b, c) → RwG W xb 1 (fun _ => y) → Calls Try.prog 109 #[v, .func (.func 110) #[vwv xb 1 1 lo hi sc (.func (.func 53) #[] #[])] #[], .func (.func 111) #[vwv xb 1 1 lo hi sc (.func (.func 53) #[] #[])] #[]] W fun e w' => e = .returned (.agg #[.int .i64 p, .int .i64 q]) ∧ Below W.heap.size W w')) :
    Calls Try.prog 49 #[pnv a b c, ptv x, .int .i64 D, .func (.func 53) #[] #[]] w fun e w' => e = .returned (spr (if nz = true then ((0, 0), 10) else ((p, q), 0))) ∧ Below w.heap.size w w' := by
  obtain ⟨s1, s2, s3, s4⟩ := SB
  have P0 := Lib.hid (pan_alloc (pan_alloc (pan_new w a b c 25) (ptc x 23)) (.cells #[.int .i64 0, .int .i64 0] 35))
  have X0 := Lib.hid (own_alloc (own_new (w.alloc (pnc a b c 25)) x 23) (.cells #[.int .i64 0, .int .i64 0] 35))
  have R0 := Lib.hid (owp_new ((w.alloc (pnc a b c 25)).alloc (ptc x 23)) (0, 0) 35)
  simp only [World.size_alloc] at X0 R0
  have B0 := Lib.hid (show Below w.heap.size w (((w.alloc (pnc a b c 25)).alloc (ptc x 23)).alloc (.cells #[.int .i64 0, .int .i64 0] 35)) by (repeat' (first | exact Below.refl _ _ | refine Below.setCell ?_ (by simp <;> omega) _ | refine balloc ?_ _ | refine Below.drew ?_ | refine bdrewN ?_ _)))
  go_enter Try.func49, Try.ntmps49
  go_wp2_with fail
  with_reducible refine (C1.out _).mono ?_
  rintro e w1 ⟨rfl, hb1⟩
  have P1 := Lib.hid (pan_below P0.out hb1)
  have X1 := Lib.hid (own_below X0.out hb1)
  have R1 := Lib.hid (owp_below R0.out hb1)
  have B1 := Lib.hid (bstep B0.out hb1)
  clear P0 X0 R0 B0 hb1
  obtain ⟨o0, o1, o2, o3, o4, o5, o6⟩ := id X1.out
  have sh := SH.out
  go_wp2_with fail
  with_reducible refine (C2.out _).mono ?_
  rintro e w2 ⟨rfl, hb2⟩
  have P2 := Lib.hid (pan_below P1.out hb2)
  have R2 := Lib.hid (owp_below R1.out hb2)
  have B2 := Lib.hid (bstep B1.out hb2)
  clear P1 X1 R1 B1 hb2 o0 o1 o2 o3 o4 o5 o6
  have Q3 := Lib.hid (rwg_new1 w2 y 23)
  go_wp2_with fail
  with_reducible refine (C3.out _ _ Q3.out).mono ?_
  rintro e w3 ⟨rfl, hb3⟩
  have Q4 := Lib.hid (rwg_below Q3.out hb3)
  have P3' := Lib.hid (pan_below (pan_alloc P2.out _) hb3)
  have R3 := Lib.hid (owp_below (owp_alloc R2.out _) hb3)
  have B3 := Lib.hid (bstep (balloc B2.out _) hb3)
  clear P2 R2 B2 hb3 Q3
  have V4 := Lib.hid (vwp_new w3 w2.heap.size 1 1 lo hi sc (.func (.func 53) #[] #[]) 132)
  have P4 := Lib.hid (pan_alloc P3'.out (vwb w2.heap.size 1 1 lo hi sc (.func (.func 53) #[] #[]) 132))
  have R4 := Lib.hid (owp_alloc R3.out (vwb w2.heap.size 1 1 lo hi sc (.func (.func 53) #[] #[]) 132))
  have Q5 := Lib.hid (rwg_below Q4.out ((Below.refl _ _).alloc (Nat.le_refl _) (vwb w2.heap.size 1 1 lo hi sc (.func (.func 53) #[] #[]) 132)))
  have B4 := Lib.hid (balloc B3.out (vwb w2.heap.size 1 1 lo hi sc (.func (.func 53) #[] #[]) 132))
  clear P3' R3 B3 Q4
  obtain ⟨k0, k1, k2, k3, k4, k5, k6, k7, k8, k9⟩ := id P4.out
  go_wp2_with fail
  with_reducible refine (C4.out _).mono ?_
  rintro e w4 ⟨v, gs, rfl, hgs, hrow, hpt, hb4⟩
  have V5 := Lib.hid (vwp_in V4.out hb4 V4.out.2)
  have R5 := Lib.hid (owp_below R4.out hb4)
  have Q6 := Lib.hid (rwg_below Q5.out hb4)
  have B5 := Lib.hid (bstep B4.out hb4)
  have HR := Lib.hid (own_base9 hrow (Nat.zero_le _))
  have HP := Lib.hid hpt
  have HG := Lib.hid hgs
  clear P4 R4 B4 Q5 V4 hb4 hrow hpt hgs k0 k1 k2 k3 k4 k5 k6 k7 k8 k9
  obtain ⟨⟨k0, k1, k2, k3, k4, k5, k6, k7, k8⟩, k9⟩ := id V5.out
  go_wp2_with fail
  with_reducible refine (C5.out _ v gs _ HR.out HP.out HG.out Q6.out).mono ?_
  rintro e w5 ⟨rfl, hb5⟩
  cases nz with
  | true =>
    obtain ⟨o0, o1, o2, o3, o4⟩ := owp_below R5.out hb5
    have hB := bstep B5.out hb5
    clear R5 B5 k0 k1 k2 k3 k4 k5 k6 k7 k8 k9
    go_wp2
    refine bodyPost_ret (v := spr ((0, 0), 10)) (by rw [results_cell_tmp rfl]; go_simp) rfl ⟨rfl, ?_⟩
    (repeat' (first | with_reducible exact hB | (with_reducible refine Below.setCell ?_ (by simp <;> omega) _)))
  | false =>
    have HR6 := Lib.hid (HR.out.kept (below_grown9 hb5) (by cases v.ownBlock <;> simp))
    have HP6 := Lib.hid (fun g hg => ptb_below (HP.out g hg) hb5)
    have Q7 := Lib.hid (rwg_below Q6.out hb5)
    have R6 := Lib.hid (owp_below R5.out hb5)
    have B6 := Lib.hid (bstep B5.out hb5)
    have V6 := Lib.hid (vwp_in V5.out hb5 V5.out.2)
    clear R5 B5 Q6 HR HP V5 k0 k1 k2 k3 k4 k5 k6 k7 k8 k9
    obtain ⟨⟨k0, k1, k2, k3, k4, k5, k6, k7, k8⟩, k9⟩ := id V6.out
    go_wp2_with fail
    with_reducible refine (C6.out trivial _ v gs _ HR6.out HP6.out HG.out Q7.out).mono ?_
    rintro e w6 ⟨rfl, hb6⟩
    obtain ⟨o0, o1, o2, o3, o4⟩ := owp_below R6.out hb6
    have hB := bstep B6.out hb6
    clear R6 B6 k0 k1 k2 k3 k4 k5 k6 k7 k8 k9
    go_wp2
    refine bodyPost_ret (v := spr ((p, q), 0)) (by rw [results_cell_tmp rfl]; go_simp) rfl ⟨rfl, ?_⟩
    (repeat' (first | with_reducible exact hB | (with_reducible refine Below.setCell ?_ (by simp <;> omega) _)))

end Go.Proofs.Ytjigcgpcglfjfaa
