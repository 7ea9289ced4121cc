/-
  The law ShapeValidates: its walk, for any answers of its callees that belong together.
-/
import Derived.Test.YtcphdlcglaopjaaPanels2
namespace Go.Proofs.Ytcphdlcglaopjaa
open Go.ChangeShapes Go.WideShapes Go.RowKit
open Sh
/-- what Panels answers, with the number of its panels -/
def PansN (T : Nat → P3 × P3 × P3) (N : Nat) (code : Int) (w : World) (e : Ending) (w' : World) : Prop :=
  ∃ a cap, e = .returned (.tuple #[.slice a N cap, .int .i64 code]) ∧ Lst9 w' a N T ∧ Below w.heap.size w w'
theorem pansN_of {T : Nat → P3 × P3 × P3} {nf : Nat} {code : Int} {w w' : World} {e : Ending} (h : Pans T nf code w e w') : PansN T (if code = 0 then nf else 0) code w e w' := by
  obtain ⟨a, n, cap, h1, rfl, h2, h3⟩ := h
  exact ⟨a, cap, h1, h2, h3⟩
theorem lst9_drew {w : World} {a : Option Addr} {n : Nat} {T : Nat → P3 × P3 × P3} (h : Lst9 w a n T) : Lst9 w.drew a n T := h
theorem keep14 {w : World} {q t1 t2 t3 t4 : Nat} {a : Option Addr} {n c : Nat} {a' : Option Addr} {n' c' : Nat} {d1 d2 d3 d4 : P3} (h : Mes w q a n c a' n' c') (k1 : Own w t1 d1) (k2 : Own w t2 d2) (k3 : Own w t3 d3) (k4 : Own w t4 d4) :
  w.cell? ⟨q, 0, none⟩ = some (.slice a n c) ∧ w.cell? ⟨q, 1, none⟩ = some (.slice a' n' c') ∧
  w.cell? ⟨t1, 0, none⟩ = some (.int .i64 d1.1) ∧ w.cell? ⟨t1, 1, none⟩ = some (.int .i64 d1.2.1) ∧ w.cell? ⟨t1, 2, none⟩ = some (.int .i64 d1.2.2) ∧
  w.cell? ⟨t2, 0, none⟩ = some (.int .i64 d2.1) ∧ w.cell? ⟨t2, 1, none⟩ = some (.int .i64 d2.2.1) ∧ w.cell? ⟨t2, 2, none⟩ = some (.int .i64 d2.2.2) ∧
  w.cell? ⟨t3, 0, none⟩ = some (.int .i64 d3.1) ∧ w.cell? ⟨t3, 1, none⟩ = some (.int .i64 d3.2.1) ∧ w.cell? ⟨t3, 2, none⟩ = some (.int .i64 d3.2.2) ∧
  w.cell? ⟨t4, 0, none⟩ = some (.int .i64 d4.1) ∧ w.cell? ⟨t4, 1, none⟩ = some (.int .i64 d4.2.1) ∧ w.cell? ⟨t4, 2, none⟩ = some (.int .i64 d4.2.2) :=
  ⟨h.1, h.2.1, k1.1, k1.2.1, k1.2.2.1, k2.1, k2.2.1, k2.2.2.1, k3.1, k3.2.1, k3.2.2.1, k4.1, k4.2.1, k4.2.2.1⟩
theorem long_any (a : Option Addr) (np c : Nat) (a' : Option Addr) (nf c' : Nat) (w : World) (hn : np ≤ 9223372036854775807) (hm : nf ≤ 9223372036854775807) :
    Calls Try.prog 14 #[msv a np c a' nf c'] w fun e w' => e = .returned (.bool (decide (200 < np ∨ 300 < nf))) ∧ Below w.heap.size w w' := by
  have hn' : (np : Int) ≤ 9223372036854775807 := by omega
  have hm' : (nf : Int) ≤ 9223372036854775807 := by omega
  by_cases h : 200 < np
  · rw [decide_eq_true (Or.inl h)]
    have t1 : (200 : Int) < (np : Int) := by omega
    clear h hn hm
    go_enter Try.func14, Try.ntmps14
    go_wp2
    go_ret
    exact ⟨rfl, by (repeat' (first | exact Below.refl _ _ | refine Below.setCell ?_ (by simp <;> omega) _ | refine balloc ?_ _ | refine Below.drew ?_ | refine bdrewN ?_ _))⟩
  · have t1 : decide ((200 : Int) < (np : Int)) = false := decide_eq_false (by omega)
    by_cases k : 300 < nf
    · rw [decide_eq_true (Or.inr k)]
      have t2 : (300 : Int) < (nf : Int) := by omega
      clear h k hn hm
      go_enter Try.func14, Try.ntmps14
      go_wp2
      go_ret
      exact ⟨rfl, by (repeat' (first | exact Below.refl _ _ | refine Below.setCell ?_ (by simp <;> omega) _ | refine balloc ?_ _ | refine Below.drew ?_ | refine bdrewN ?_ _))⟩
    · rw [decide_eq_false (show ¬ (200 < np ∨ 300 < nf) by omega)]
      have t2 : decide ((300 : Int) < (nf : Int)) = false := decide_eq_false (by omega)
      clear h k hn hm
      go_enter Try.func14, Try.ntmps14
      go_wp2
      go_ret
      exact ⟨rfl, by (repeat' (first | exact Below.refl _ _ | refine Below.setCell ?_ (by simp <;> omega) _ | refine balloc ?_ _ | refine Below.drew ?_ | refine bdrewN ?_ _))⟩
theorem vals_long (a : Option Addr) (np c : Nat) (a' : Option Addr) (nf c' : Nat) (w : World) (hL : Hid (∀ W, Calls Try.prog 14 #[msv a np c a' nf c'] W fun e' w' => e' = .returned (.bool true) ∧ Below W.heap.size W w')) (hK : Hid (∀ W, Calls Try.prog 15 #[] W fun e' w' => e' = .returned (.bool true) ∧ Below W.heap.size W w')) :
    Calls Try.prog 3 #[msv a np c a' nf c'] w fun e w' => e = .returned (.bool true) ∧ Below w.heap.size w w' := by
  go_enter Try.func3, Try.ntmps3
  go_wp2_with fail
  refine (hL.out _).mono ?_
  rintro e' w1 ⟨rfl, hb1⟩
  go_wp2_with fail
  refine (hK.out _).mono ?_
  rintro e' w2 ⟨rfl, hb2⟩
  go_wp2
  go_ret
  exact ⟨rfl, by (repeat' (first | exact Below.refl _ _ | refine bstep ?_ hb1 | refine bstep ?_ hb2 | refine Below.setCell ?_ (by simp <;> omega) _ | refine balloc ?_ _ | refine Below.drew ?_ | refine bdrewN ?_ _))⟩
set_option maxRecDepth 100000 in
set_option maxHeartbeats 4000000 in
theorem vals_walk0 (a : Option Addr) (np c : Nat) (a' : Option Addr) (nf c' : Nat) (T : Nat → P3 × P3 × P3) (N : Nat) (lo hi : P3) (code : Int) (w : World) (hL : Hid (∀ W, Calls Try.prog 14 #[msv a np c a' nf c'] W fun e' w' => e' = .returned (.bool false) ∧ Below W.heap.size W w')) (hP : Hid (∀ W, Below w.heap.size w W → Calls Try.prog 16 #[msv a np c a' nf c'] W (PansN T N code W))) (hQ : Hid (∀ W, Below w.heap.size w W → Calls Try.prog 17 #[msv a np c a' nf c'] W (PansN T N code W))) (hB : Hid (∀ W, Below w.heap.size w W → Calls Try.prog 18 #[msv a np c a' nf c'] W fun e' w' => e' = .returned (.tuple #[ptv lo, ptv hi, .int .i64 code]) ∧ Below W.heap.size W w')) (hC : Hid (∀ W, Below w.heap.size w W → Calls Try.prog 19 #[msv a np c a' nf c'] W fun e' w' => e' = .returned (.tuple #[ptv lo, ptv hi, .int .i64 code]) ∧ Below W.heap.size W w')) (hV : Hid (∀ W, Below w.heap.size w W → Calls Try.prog 20 #[msv a np c a' nf c'] W fun e' w' => e' = .returned (.int .i64 code) ∧ Below W.heap.size W w')) (hW : Hid (∀ W, Below w.heap.size w W → Calls Try.prog 21 #[msv a np c a' nf c'] W fun e' w' => e' = .returned (.int .i64 code) ∧ Below W.heap.size W w')) (hK : Hid (∀ W, Calls Try.prog 15 #[] W fun e' w' => e' = .returned (.bool true) ∧ Below W.heap.size W w')) (hN : N ≤ 1000000) :
    Calls Try.prog 3 #[msv a np c a' nf c'] w fun e w' => e = .returned (.bool true) ∧ Below w.heap.size w w' := by
  have HN := Lib.hid hN
  clear hN
  go_enter Try.func3, Try.ntmps3
  go_wp2_with fail
  refine (hL.out _).mono ?_
  rintro e' w1 ⟨rfl, hb1⟩
  have M1 := Lib.hid (mes_below (mes_new w a np c a' nf c' 25) hb1)
  have B1 := Lib.hid (bstep (balloc (Below.refl _ w) _) hb1)
  clear hb1
  obtain ⟨m1, m2, m3⟩ := M1.out
  go_wp2_with fail
  refine (hP.out _ B1.out).mono ?_
  rintro e' w2 ⟨a1, cap1, rfl, l1, hb2⟩
  have L1 := Lib.hid l1
  have M2 := Lib.hid (mes_below M1.out hb2)
  have B2 := Lib.hid (bstep B1.out hb2)
  clear l1 hb2 m1 m2 m3
  obtain ⟨m1, m2, m3⟩ := M2.out
  go_wp2_with fail
  refine (hQ.out _ B2.out).mono ?_
  rintro e' w3 ⟨a2, cap2, rfl, l2, hb3⟩
  have L2 := Lib.hid l2
  have L1' := Lib.hid (lst9_below L1.out hb3)
  have M3 := Lib.hid (mes_below M2.out hb3)
  have B3 := Lib.hid (bstep B2.out hb3)
  clear l2 hb3 m1 m2 m3
  obtain ⟨m1, m2, m3⟩ := M3.out
  go_wp2_with fail
  refine (hB.out _ B3.out).mono ?_
  rintro e' w4 ⟨rfl, hb4⟩
  have P1 := Lib.hid (lst9_below (lst9_below L1'.out hb4) (((Below.refl _ _).alloc (Nat.le_refl _) (.cells #[.int .i64 lo.1, .int .i64 lo.2.1, .int .i64 lo.2.2] 33)).alloc (by simp) (.cells #[.int .i64 hi.1, .int .i64 hi.2.1, .int .i64 hi.2.2] 33)))
  have P2 := Lib.hid (lst9_below (lst9_below L2.out hb4) (((Below.refl _ _).alloc (Nat.le_refl _) (.cells #[.int .i64 lo.1, .int .i64 lo.2.1, .int .i64 lo.2.2] 33)).alloc (by simp) (.cells #[.int .i64 hi.1, .int .i64 hi.2.1, .int .i64 hi.2.2] 33)))
  have M4 := Lib.hid (mes_alloc (mes_alloc (mes_below M3.out hb4) (.cells #[.int .i64 lo.1, .int .i64 lo.2.1, .int .i64 lo.2.2] 33)) (.cells #[.int .i64 hi.1, .int .i64 hi.2.1, .int .i64 hi.2.2] 33))
  have B4 := Lib.hid (balloc (balloc (bstep B3.out hb4) (.cells #[.int .i64 lo.1, .int .i64 lo.2.1, .int .i64 lo.2.2] 33)) (.cells #[.int .i64 hi.1, .int .i64 hi.2.1, .int .i64 hi.2.2] 33))
  have X4 := Lib.hid (own_alloc (own_new w4 lo 33) (.cells #[.int .i64 hi.1, .int .i64 hi.2.1, .int .i64 hi.2.2] 33))
  have Y4 := Lib.hid (own_new (w4.alloc (.cells #[.int .i64 lo.1, .int .i64 lo.2.1, .int .i64 lo.2.2] 33)) hi 33)
  simp only [World.size_alloc] at Y4
  clear hb4 m1 m2 m3
  obtain ⟨m1, m2, m3⟩ := M4.out
  go_wp2_with fail
  refine (hC.out _ B4.out).mono ?_
  rintro e' w5 ⟨rfl, hb5⟩
  have Q1 := Lib.hid (lst9_below (lst9_below P1.out hb5) (((Below.refl _ _).alloc (Nat.le_refl _) (.cells #[.int .i64 lo.1, .int .i64 lo.2.1, .int .i64 lo.2.2] 33)).alloc (by simp) (.cells #[.int .i64 hi.1, .int .i64 hi.2.1, .int .i64 hi.2.2] 33)))
  have Q2 := Lib.hid (lst9_below (lst9_below P2.out hb5) (((Below.refl _ _).alloc (Nat.le_refl _) (.cells #[.int .i64 lo.1, .int .i64 lo.2.1, .int .i64 lo.2.2] 33)).alloc (by simp) (.cells #[.int .i64 hi.1, .int .i64 hi.2.1, .int .i64 hi.2.2] 33)))
  have im := mes_drew (mes_alloc (mes_alloc (mes_below M4.out hb5) (.cells #[.int .i64 lo.1, .int .i64 lo.2.1, .int .i64 lo.2.2] 33)) (.cells #[.int .i64 hi.1, .int .i64 hi.2.1, .int .i64 hi.2.2] 33))
  have BB := Lib.hid (Below.drew (balloc (balloc (bstep B4.out hb5) (.cells #[.int .i64 lo.1, .int .i64 lo.2.1, .int .i64 lo.2.2] 33)) (.cells #[.int .i64 hi.1, .int .i64 hi.2.1, .int .i64 hi.2.2] 33)))
  have ix := own_drew (own_alloc (own_alloc (own_below X4.out hb5) (.cells #[.int .i64 lo.1, .int .i64 lo.2.1, .int .i64 lo.2.2] 33)) (.cells #[.int .i64 hi.1, .int .i64 hi.2.1, .int .i64 hi.2.2] 33))
  have iy := own_drew (own_alloc (own_alloc (own_below Y4.out hb5) (.cells #[.int .i64 lo.1, .int .i64 lo.2.1, .int .i64 lo.2.2] 33)) (.cells #[.int .i64 hi.1, .int .i64 hi.2.1, .int .i64 hi.2.2] 33))
  have iu := own_drew (own_alloc (own_new w5 lo 33) (.cells #[.int .i64 hi.1, .int .i64 hi.2.1, .int .i64 hi.2.2] 33))
  have iv := own_drew (own_new (w5.alloc (.cells #[.int .i64 lo.1, .int .i64 lo.2.1, .int .i64 lo.2.2] 33)) hi 33)
  simp only [World.size_alloc] at iv
  clear hb5 m1 m2 m3
  go_wp2_with fail
  go_region_held3 (fun w' => w'.cell? ⟨w.heap.size, 0, none⟩ = some (.slice a np c) ∧ w'.cell? ⟨w.heap.size, 1, none⟩ = some (.slice a' nf c') ∧ w'.cell? ⟨w4.heap.size, 0, none⟩ = some (.int .i64 lo.1) ∧ w'.cell? ⟨w4.heap.size, 1, none⟩ = some (.int .i64 lo.2.1) ∧ w'.cell? ⟨w4.heap.size, 2, none⟩ = some (.int .i64 lo.2.2) ∧ w'.cell? ⟨w4.heap.size + 1, 0, none⟩ = some (.int .i64 hi.1) ∧ w'.cell? ⟨w4.heap.size + 1, 1, none⟩ = some (.int .i64 hi.2.1) ∧ w'.cell? ⟨w4.heap.size + 1, 2, none⟩ = some (.int .i64 hi.2.2) ∧ w'.cell? ⟨w5.heap.size, 0, none⟩ = some (.int .i64 lo.1) ∧ w'.cell? ⟨w5.heap.size, 1, none⟩ = some (.int .i64 lo.2.1) ∧ w'.cell? ⟨w5.heap.size, 2, none⟩ = some (.int .i64 lo.2.2) ∧ w'.cell? ⟨w5.heap.size + 1, 0, none⟩ = some (.int .i64 hi.1) ∧ w'.cell? ⟨w5.heap.size + 1, 1, none⟩ = some (.int .i64 hi.2.1) ∧ w'.cell? ⟨w5.heap.size + 1, 2, none⟩ = some (.int .i64 hi.2.2))
    (first | exact keep14 im ix iy iu iv | exact keep14 jm jx jy ju jv | exact keep14 km kx ky ku kv | exact keep14 lm lx ly lu lv | exact keep14 nm nx ny nu nv | fail)
    (first | (go_at_call 20; (with_reducible refine (hV.out _ BB.out).mono ?_); rintro e' v1 ⟨rfl, hv1⟩; have jm := mes_below im hv1; have jx := own_below ix hv1; have jy := own_below iy hv1; have ju := own_below iu hv1; have jv := own_below iv hv1; have BC := Lib.hid (bstep BB.out hv1); have R1 := Lib.hid (lst9_below (lst9_drew Q1.out) hv1); have R2 := Lib.hid (lst9_below (lst9_drew Q2.out) hv1)) | (go_at_call 21; (with_reducible refine (hW.out _ BC.out).mono ?_); rintro e' v2 ⟨rfl, hv2⟩; have km := mes_below jm hv2; have kx := own_below jx hv2; have ky := own_below jy hv2; have ku := own_below ju hv2; have kv := own_below jv hv2; have BD := Lib.hid (bstep BC.out hv2); have S1 := Lib.hid (lst9_below R1.out hv2); have S2 := Lib.hid (lst9_below R2.out hv2)) | (go_at_call 22; (with_reducible refine (samep_any a1 N cap1 a2 cap2 T _ S1.out S2.out HN.out).mono ?_); rintro e' v3 ⟨rfl, hv3⟩; have lm := mes_below km hv3; have lx := own_below kx hv3; have ly := own_below ky hv3; have lu := own_below ku hv3; have lv := own_below kv hv3; have BE := Lib.hid (bstep BD.out hv3)) | (go_at_call 15; (with_reducible refine (hK.out _).mono ?_); rintro e' v4 ⟨rfl, hv4⟩; have nm := mes_below lm hv4; have nx := own_below lx hv4; have ny := own_below ly hv4; have nu := own_below lu hv4; have nv := own_below lv hv4; have BG := Lib.hid (bstep BE.out hv4)) | fail)
  all_goals
    go_wp2
    go_ret
    exact ⟨rfl, BG.out⟩

end Go.Proofs.Ytcphdlcglaopjaa
