/-
  The contract of rim, in the document's answer.
-/
import Derived.Test.YtjigcgpcglfjfaaFg41
namespace Go.Proofs.Ytjigcgpcglfjfaa
open Go.ChangeShapes Go.WideShapes Go.RowKit
open Sh
set_option maxRecDepth 100000 in
set_option maxHeartbeats 4000000 in
theorem rrim_walk (t : P9) (D sc : Int) (n : P3) (d : Int) (S L : Nat) (w : World) (SH : Hid (wrap64 (2 ^ D.toNat) = sc)) (d0 : 0 ≤ D) (d3 : D ≤ 3) (N1 : Hid (∀ W, Calls Try.prog 102 #[pnv t.1 t.2.1 t.2.2] W fun e w' => e = .returned (ptv n) ∧ Below W.heap.size W w')) (S1 : Hid (∀ W, Calls Try.prog 126 #[ptv n, ptv n] W fun e w' => e = .returned (.int .i64 d) ∧ Below W.heap.size W w')) (L1 : Hid (∀ W, Calls Try.prog 134 #[.int .i64 d] W fun e w' => e = .returned (.int .i64 S) ∧ W = w'))
    (S1' : 1 ≤ S) (S2' : S ≤ 60000) (s1 : 1 ≤ sc) (s2 : sc ≤ 8) (U1 : Hid (∀ W, Calls Try.prog 119 #[.int .i64 (rW sc), .int .i64 (128 * (S : Int))] W fun e w' => e = .returned (.int .i64 L) ∧ W = w')) (LB : Rt.csq L ≤ 67108864) :
    Calls Try.prog 66 #[pnv t.1 t.2.1 t.2.2, .int .i64 D] w fun e w' => e = .returned (.int .i64 ((Rt.csq L : Nat) : Int)) ∧ Below w.heap.size w w' := by
  have P0 := Lib.hid (pan_new w t.1 t.2.1 t.2.2 25)
  have Y := Lib.hid (fun k => (csq_le (n := L) (k := k)))
  obtain ⟨r, hr⟩ : ∃ r, Rt.csq L = r := ⟨_, rfl⟩
  rw [hr] at LB Y ⊢
  have wb := rW_bd s1 s2
  have ew : rW sc = 1099511627776 * sc * sc * 3217 := rfl
  rw [ew] at wb U1
  obtain ⟨b1, b2, b3, b4, b5, b6⟩ := wb
  have S3 : (1 : Int) ≤ (S : Int) := by omega
  have S4 : (S : Int) ≤ 60000 := by omega
  clear hr ew
  generalize hW : 1099511627776 * sc * sc * 3217 = W3 at *
  generalize hV : 1099511627776 * sc * sc = W2 at *
  generalize hU : 1099511627776 * sc = W1 at *
  have k1 := Lib.hid (wrap64_in9 (x := W1) (by omega) (by omega))
  have k2 := Lib.hid (wrap64_in9 (x := W2) (by omega) (by omega))
  have k3 := Lib.hid (wrap64_in9 (x := W3) (by omega) (by omega))
  have hW' := Lib.hid hW
  have hV' := Lib.hid hV
  have hU' := Lib.hid hU
  clear hW hV hU b1 b2 b3 b4 b5 b6 s1 s2
  have sh := SH.out
  obtain ⟨c0, c1, c2, c3, c4, c5, c6, c7, c8, c9⟩ := P0.out
  go_enter Try.func66, Try.ntmps66
  go_wp2_with fail
  with_reducible refine (N1.out _).mono ?_
  rintro e u1 ⟨rfl, hb1⟩
  have N2 := Lib.hid (own_new u1 n 23)
  have B1 := Lib.hid (show Below w.heap.size w (u1.alloc (ptc n 23)) by (repeat' (first | exact Below.refl _ _ | refine bstep ?_ hb1 | refine Below.setCell ?_ (by simp <;> omega) _ | refine balloc ?_ _ | refine Below.drew ?_ | refine bdrewN ?_ _)))
  clear c0 c1 c2 c3 c4 c5 c6 c7 c8 c9 P0 hb1
  obtain ⟨o0, o1, o2, o3, o4, o5, o6⟩ := N2.out
  go_wp2_with fail
  with_reducible refine (S1.out _).mono ?_
  rintro e u2 ⟨rfl, hb2⟩
  have B2 := Lib.hid (bstep B1.out hb2)
  clear o0 o1 o2 o3 o4 o5 o6 hb2 B1
  go_wp2_with fail
  with_reducible refine (L1.out _).mono ?_
  rintro e u3 ⟨rfl, rfl⟩
  go_wp2_with fail
  have key : wrap64 (wrap64 (wrap64 (1099511627776 * sc) * sc) * 3217) = W3 := by rw [hU'.out, k1.out, hV'.out, k2.out, hW'.out, k3.out]
  (try rw [key])
  clear k1 k2 k3 hW' hV' hU' sh key
  go_loopw [9, 10] (fun lv gv wr => ∃ l g : Nat, l ≤ r ∧ r ≤ g ∧ g ≤ 268435456 ∧ lv = .int .i64 l ∧ gv = .int .i64 g ∧ Below u2.heap.size u2 wr) (fun lv gv _ => (intOf gv - intOf lv).toNat)
  case atStart => exact ⟨0, 268435456, by omega, by omega, by omega, rfl, rfl, Below.refl _ _⟩
  case round =>
    obtain ⟨l, g, h1, h2, h3, rfl, rfl, BB⟩ := hrel
    have B0 := Lib.hid BB
    clear BB
    by_cases hlt : l < g
    · have hlt' : (l : Int) < (g : Int) := by omega
      have gb : (g : Int) ≤ 268435456 := by omega
      obtain ⟨k, hk⟩ : ∃ k, (l + g) / 2 = k := ⟨_, rfl⟩
      have e1 : ((l : Int) + (g : Int)) / 2 = (k : Int) := by omega
      have hk2 : (k : Int) ≤ 268435456 := by omega
      have kk := mul_bd (x := (k : Int)) (y := (k : Int)) (A := 268435456) (B := 268435456) (by omega) (by omega) (by omega) (by omega)
      obtain ⟨kk1, kk2⟩ := kk
      have K := Lib.hid (show l ≤ k ∧ k < g by omega)
      clear hk
      go_wp2_with fail
      refine (U1.out _).mono ?_
      rintro e u4 ⟨rfl, rfl⟩
      by_cases c : L ≤ k * k
      · have hy := (Y.out k).2 c
        have cI : (L : Int) ≤ (k : Int) * (k : Int) := by rw [← Int.natCast_mul]; omega
        clear c
        go_wp2_with fail
        go_roundw
        case rel => exact ⟨l, k, h1, hy, by omega, rfl, rfl, B0.out⟩
        case measure => have := K.out; simp [intOf]; omega
      · have hy : k < r := Nat.lt_of_not_le fun x => c ((Y.out k).1 x)
        have cI : decide ((L : Int) ≤ (k : Int) * (k : Int)) = false := decide_eq_false (by rw [← Int.natCast_mul]; omega)
        clear c
        go_wp2_with fail
        go_roundw
        case rel => exact ⟨k + 1, g, by omega, h2, h3, by go_num, rfl, B0.out⟩
        case measure => have := K.out; simp [intOf]; omega
    · obtain rfl : l = g := by omega
      obtain rfl : r = l := by omega
      go_wp2
      go_ret
      exact ⟨rfl, bjoin B2.out B0.out⟩
theorem rrim_any (t : P9) (D : Int) (w : World) (h : pcode t.1 t.2.1 t.2.2 = 0) (d0 : 0 ≤ D) (d3 : D ≤ 3) : Calls Try.prog 66 #[pnv t.1 t.2.1 t.2.2, .int .i64 D] w fun e w' => e = .returned (.int .i64 ((rimN (rS t) (scl D) : Nat) : Int)) ∧ Below w.heap.size w w' := by
  obtain ⟨sw, s1, s2⟩ := scl_vals d0 d3
  obtain ⟨S1, S2, e1, e2⟩ := rS_bd h
  have hB := pcode_64 h
  obtain ⟨l1, l2, l3⟩ := rL_bd S1 S2 s1 s2
  have wb := rW_bd s1 s2
  have AA := fun W => across_any t.1 t.2.1 t.2.2 W (hB.1.mono (by decide)) (hB.2.1.mono (by decide)) (hB.2.2.mono (by decide))
  have SC := fun W => rdot_any (nrm t.1 t.2.1 t.2.2) (nrm t.1 t.2.1 t.2.2) W (pw_nn (Sh.nrm_bd hB.1 hB.2.1 hB.2.2))
  have RR := fun W => rroot_any (dot (nrm t.1 t.2.1 t.2.2) (nrm t.1 t.2.1 t.2.2)).toNat W (by omega)
  rw [show (((dot (nrm t.1 t.2.1 t.2.2) (nrm t.1 t.2.1 t.2.2)).toNat : Nat) : Int) = dot (nrm t.1 t.2.1 t.2.2) (nrm t.1 t.2.1 t.2.2) by omega] at RR
  have UU := fun W => rup_any (rW (scl D)) (128 * (rS t : Int)) W ⟨by omega, by omega, by omega, by omega⟩ (by omega)
  rw [ce_up (by omega), ← l1] at UU
  exact rrim_walk t D (scl D) (nrm t.1 t.2.1 t.2.2) _ (rS t) (rL (rS t) (scl D)) w (Lib.hid sw) d0 d3 (Lib.hid AA) (Lib.hid SC) (Lib.hid RR) S1 S2 s1 s2 (Lib.hid UU) (rimN_le S1 S2 s1 s2)

end Go.Proofs.Ytjigcgpcglfjfaa
