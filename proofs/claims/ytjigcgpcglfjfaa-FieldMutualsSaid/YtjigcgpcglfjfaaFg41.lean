/-
  The contracts of rim, in the program and in the document's answer.
-/
import Derived.Test.YtjigcgpcglfjfaaFg40
namespace Go.Proofs.Ytjigcgpcglfjfaa
open Go.ChangeShapes Go.WideShapes Go.RowKit
open Sh
theorem rroot_any (n : Nat) (w : World) (h : n ≤ 1152921504606846976) : Calls Try.prog 134 #[.int .i64 n] w fun e w' => e = .returned (.int .i64 ((Rt.isq n : Nat) : Int)) ∧ w = w' := by
  have R := Lib.hid (fun W => floor_any n W h)
  go_enter Try.func134, Try.ntmps134
  go_wp2_with fail
  refine (R.out _).mono ?_
  rintro e w1 ⟨rfl, rfl⟩
  go_wp2
  go_ret
  exact ⟨rfl, rfl⟩
theorem pw_nn {a : P3} (h : BdP 32768 a) : BdP 1152921504606846976 (pw a a) := by
  obtain ⟨a1, a2, a3, a4, a5, a6⟩ := h
  have x1 := mul_bd a1 a2 a1 a2
  have x2 := mul_bd a3 a4 a3 a4
  have x3 := mul_bd a5 a6 a5 a6
  simp only [BdP, pw]
  omega
theorem wrap64_in9 {x : Int} (h : -9223372036854775808 ≤ x) (k : x ≤ 9223372036854775807) : wrap64 x = x := by
  rw [← IntWalk.i64_left]
  exact IntWalk.i64_in _ ⟨h, by omega⟩
set_option maxRecDepth 100000 in
set_option maxHeartbeats 4000000 in
theorem frim_walk (t : P9) (D sc : Int) (n : P3) (d lo hi : Int) (S L r : Nat) (w : World) (SH : Hid (wrap64 (2 ^ D.toNat) = sc)) (d0 : 0 ≤ D) (d3 : D ≤ 3) (N1 : Hid (∀ W, Calls Try.prog 54 #[pnv t.1 t.2.1 t.2.2] W fun e w' => e = .returned (.tuple #[ptv n, .int .i64 0]) ∧ Below W.heap.size W w')) (S1 : Hid (∀ W, Calls Try.prog 55 #[ptv n, ptv n] W fun e w' => e = .returned (.int .i64 d) ∧ Below W.heap.size W w')) (L1 : Hid (∀ W, Calls Try.prog 131 #[.int .i64 d] W fun e w' => e = .returned (spr ((lo, hi), 0)) ∧ Below W.heap.size W w'))
    (l0 : 0 ≤ lo) (l1 : lo ≤ 1099511627776) (EQ : Hid (lo / 1048576 = (S : Int))) (S1' : 1 ≤ S) (S2' : S ≤ 60000) (s1 : 1 ≤ sc) (s2 : sc ≤ 8) (EL : Hid ((rW sc + 128 * (S : Int) - 1) / (128 * (S : Int)) = (L : Int))) (LB : (L : Int) ≤ 4503599627370496)
    (SR : Hid (∀ W b, W.cell? ⟨b, 0, none⟩ = some (.int .i64 L) → b < W.heap.size → Calls Try.prog 132 #[.int .i64 67108864, .func (.func 133) #[] #[.pointer (some ⟨b, 0, none⟩)]] W fun e w' => e = .returned (.int .i64 r) ∧ Below W.heap.size W w')) :
    Calls Try.prog 65 #[pnv t.1 t.2.1 t.2.2, .int .i64 D] w fun e w' => e = .returned (.tuple #[.int .i64 r, .int .i64 0]) ∧ Below w.heap.size w w' := by
  have P0 := Lib.hid (pan_new w t.1 t.2.1 t.2.2 25)
  have wb := rW_bd s1 s2
  have el := EL.out
  unfold rW at wb el
  obtain ⟨b1, b2, b3, b4, b5, b6⟩ := wb
  have S3 : (1 : Int) ≤ (S : Int) := by omega
  have S4 : (S : Int) ≤ 60000 := by omega
  have L0 : (0 : Int) ≤ (L : Int) := by omega
  have tp : 0 ≤ 1099511627776 * sc * sc * 3217 + 128 * (S : Int) - 1 := by omega
  have td := tdiv_pos9 (x := 1099511627776 * sc * sc * 3217 + 128 * (S : Int) - 1) (d := 128 * (S : Int)) tp
  rw [el] at td
  have tq := tdiv_pos9 (x := lo) (d := 1048576) l0
  rw [EQ.out] at tq
  have nz : ¬ (128 * (S : Int) = 0) := by omega
  have eq := EQ.out
  generalize hW : 1099511627776 * sc * sc * 3217 = W3 at *
  generalize hV : 1099511627776 * sc * sc = W2 at *
  generalize hU : 1099511627776 * sc = W1 at *
  have w1 : IntKind.i64.wrap (W3 + 128 * (S : Int)) = W3 + 128 * (S : Int) := IntWalk.i64_in _ (by omega)
  have w2 : IntKind.i64.wrap (W3 + 128 * (S : Int) - 1) = W3 + 128 * (S : Int) - 1 := IntWalk.i64_in _ (by omega)
  have w3 : IntKind.i64.wrap (L : Int) = (L : Int) := IntWalk.i64_in _ (by omega)
  have k1 := Lib.hid (wrap64_in9 (x := W1) (by omega) (by omega))
  have k2 := Lib.hid (wrap64_in9 (x := W2) (by omega) (by omega))
  have k3 := Lib.hid (wrap64_in9 (x := W3) (by omega) (by omega))
  have k4 := Lib.hid (wrap64_in9 (x := W3 + 128 * (S : Int)) (by omega) (by omega))
  have k5 := Lib.hid (wrap64_in9 (x := W3 + 128 * (S : Int) - 1) (by omega) (by omega))
  have k6 := Lib.hid (wrap64_in9 (x := (L : Int)) (by omega) (by omega))
  have hW' := Lib.hid hW
  have hV' := Lib.hid hV
  have hU' := Lib.hid hU
  have td' := Lib.hid td
  clear w1 w2 w3 hW hV hU td b1 b2 b3 b4 b5 b6 L0 LB tp el tq s1 s2
  have sh := SH.out
  obtain ⟨c0, c1, c2, c3, c4, c5, c6, c7, c8, c9⟩ := P0.out
  go_enter Try.func65, Try.ntmps65
  go_wp2_with fail
  with_reducible refine (N1.out _).mono ?_
  rintro e u1 ⟨rfl, hb1⟩
  have N2 := Lib.hid (own_new u1 n 23)
  have B1 := Lib.hid (show Below w.heap.size w (u1.alloc (ptc n 23)) by (repeat' (first | exact Below.refl _ _ | refine bstep ?_ hb1 | refine Below.setCell ?_ (by simp <;> omega) _ | refine balloc ?_ _ | refine Below.drew ?_ | refine bdrewN ?_ _)))
  clear c0 c1 c2 c3 c4 c5 c6 c7 c8 c9 P0 hb1
  obtain ⟨o0, o1, o2, o3, o4, o5, o6⟩ := N2.out
  go_wp2_with fail
  with_reducible refine (S1.out _).mono ?_
  rintro e u2 ⟨rfl, hb2⟩
  have B2 := Lib.hid (bstep B1.out hb2)
  clear o0 o1 o2 o3 o4 o5 o6 hb2 B1
  go_wp2_with fail
  with_reducible refine (L1.out _).mono ?_
  rintro e u3 ⟨rfl, hb3⟩
  have B3 := Lib.hid (balloc (bstep B2.out hb3) (.cells #[.int .i64 lo, .int .i64 hi] 35))
  obtain ⟨v0, v1, v2, v3, v4⟩ := owp_new u3 (lo, hi) 35
  clear hb3 B2
  go_wp2_with fail
  have key : wrap64 ((wrap64 (wrap64 (wrap64 (wrap64 (wrap64 (1099511627776 * sc) * sc) * 3217) + 128 * (S : Int)) - 1)).tdiv (128 * (S : Int))) = (L : Int) := by
    rw [hU'.out, k1.out, hV'.out, k2.out, hW'.out, k3.out, k4.out, k5.out, td'.out, k6.out]
  rw [key]
  have BX := balloc B3.out (.cells #[.int .i64 (L : Int)] 3)
  clear key v0 v1 v2 v3 v4 B3
  refine (SR.out _ _ (by go_simp) (by simp)).mono ?_
  rintro e u4 ⟨rfl, hb4⟩
  go_wp2
  go_ret2
  exact ⟨rfl, bstep BX hb4⟩
theorem frim_any (t : P9) (D : Int) (w : World) (h : pcode t.1 t.2.1 t.2.2 = 0) (d0 : 0 ≤ D) (d3 : D ≤ 3) : Calls Try.prog 65 #[pnv t.1 t.2.1 t.2.2, .int .i64 D] w fun e w' => e = .returned (.tuple #[.int .i64 ((rimN (rS t) (scl D) : Nat) : Int), .int .i64 0]) ∧ Below w.heap.size w w' := by
  obtain ⟨sw, s1, s2⟩ := scl_vals d0 d3
  obtain ⟨S1, S2, e1, e2⟩ := rS_bd h
  have hB := pcode_64 h
  have nb := nrm_bd hB.1 hB.2.1 hB.2.2
  obtain ⟨l1, l2, l3⟩ := rL_bd S1 S2 s1 s2
  have NN := fun W => norm_any t.1 t.2.1 t.2.2 W
  rw [h] at NN
  have SC := fun W => fscalar_any (nrm t.1 t.2.1 t.2.2) (nrm t.1 t.2.1 t.2.2) W (pw_nn (Sh.nrm_bd hB.1 hB.2.1 hB.2.2))
  have LL := fun W => len_any (dot (nrm t.1 t.2.1 t.2.2) (nrm t.1 t.2.1 t.2.2)) W
  have el : lenR (dot (nrm t.1 t.2.1 t.2.2) (nrm t.1 t.2.1 t.2.2)) = ((((Rt.isq ((dot (nrm t.1 t.2.1 t.2.2) (nrm t.1 t.2.1 t.2.2)).toNat * 1099511627776) : Nat) : Int), ((Rt.csq ((dot (nrm t.1 t.2.1 t.2.2) (nrm t.1 t.2.1 t.2.2)).toNat * 1099511627776) : Nat) : Int)), 0) ∧ Rt.isq ((dot (nrm t.1 t.2.1 t.2.2) (nrm t.1 t.2.1 t.2.2)).toNat * 1099511627776) ≤ 1099511627776 := by
    generalize dot (nrm t.1 t.2.1 t.2.2) (nrm t.1 t.2.1 t.2.2) = d at *
    unfold lenR
    rw [if_pos ⟨by omega, by omega⟩]
    have a := isq_scaled d.toNat
    have sb : Rt.isq d.toNat ≤ 60000 := Classical.byContradiction fun c => by
      have q := Nat.mul_le_mul (show 60001 ≤ Rt.isq d.toNat by omega) (show 60001 ≤ Rt.isq d.toNat by omega)
      have := (Rt.isq_spec d.toNat).1
      omega
    have i1 : Rt.isq (d.toNat * 1099511627776) ≤ 62915639295 := by omega
    have c1 : Rt.csq (d.toNat * 1099511627776) ≤ Rt.isq (d.toNat * 1099511627776) + 1 := by unfold Rt.csq; split <;> omega
    have c2 : Rt.isq (d.toNat * 1099511627776) ≤ Rt.csq (d.toNat * 1099511627776) := by unfold Rt.csq; split <;> omega
    exact ⟨Sp.told_yes (Sp.vld_iff.2 ⟨by omega, by omega, by omega⟩), by omega⟩
  rw [el.1] at LL
  exact frim_walk t D (scl D) (nrm t.1 t.2.1 t.2.2) _ _ _ (rS t) (rL (rS t) (scl D)) (rimN (rS t) (scl D)) w (Lib.hid sw) d0 d3 (Lib.hid NN) (Lib.hid SC) (Lib.hid LL) (by omega) (by omega) (Lib.hid (by
    have a := isq_scaled (dot (nrm t.1 t.2.1 t.2.2) (nrm t.1 t.2.1 t.2.2)).toNat
    have b : rS t = Rt.isq (dot (nrm t.1 t.2.1 t.2.2) (nrm t.1 t.2.1 t.2.2)).toNat := rfl
    rw [← b] at a
    omega)) S1 S2 s1 s2 (Lib.hid l1.symm) (by omega) (Lib.hid fun W b hc hl => srch_any b _ W hc hl (rimN_le S1 S2 s1 s2))

end Go.Proofs.Ytjigcgpcglfjfaa
