/-
  The document's seen.
-/
import Derived.Test.YtjigcgpcglfjfaaFg47
namespace Go.Proofs.Ytjigcgpcglfjfaa
open Go.ChangeShapes Go.WideShapes Go.RowKit
open Sh
attribute [local go_sem 1000000] run_min_mn run_max_mx
theorem cf_eq (t u : P9) : cG (P3F t) (P3F u) 3 3 = fG (P3F t) (P3F u) 3 3 := by
  have h := fun a : P3 => sq_nn a
  simp only [cG, cI, fG, fI, Sp.mx_eq]
  have e00 := h (sub (P3F t 0) (P3F u 0))
  generalize sq (sub (P3F t 0) (P3F u 0)) = a0 at *
  generalize sq (sub (P3F t 0) (P3F u 1)) = a1 at *
  generalize sq (sub (P3F t 0) (P3F u 2)) = a2 at *
  generalize sq (sub (P3F t 1) (P3F u 0)) = b0 at *
  generalize sq (sub (P3F t 1) (P3F u 1)) = b1 at *
  generalize sq (sub (P3F t 1) (P3F u 2)) = b2 at *
  generalize sq (sub (P3F t 2) (P3F u 0)) = c0 at *
  generalize sq (sub (P3F t 2) (P3F u 1)) = c1 at *
  generalize sq (sub (P3F t 2) (P3F u 2)) = c2 at *
  clear h
  ac_rfl
set_option maxRecDepth 100000 in
set_option maxHeartbeats 8000000 in
theorem rsee_walk (a b c x y z : P3) (D sc rm : Int) (n : Nat) (L : Nat → P9) (nd fd lo hi : Nat → Int) (w : World) (SH : Hid (wrap64 (2 ^ D.toNat) = sc)) (SB : 0 ≤ D ∧ D ≤ 3 ∧ 0 ≤ sc ∧ sc ≤ 8) (n0 : 0 < n) (n1 : n ≤ 64)
    (CC : Hid (∀ W, Calls Try.prog 48 #[pnv a b c, .int .i64 D] W fun e w' => ∃ g off cap, e = .returned (.slice (some ⟨g, off, none⟩) n cap) ∧ RowP w' g off n L ∧ Below W.heap.size W w'))
    (CR : Hid (∀ W, Calls Try.prog 66 #[pnv a b c, .int .i64 D] W fun e w' => e = .returned (.int .i64 rm) ∧ Below W.heap.size W w'))
    (CN : Hid (∀ k, k < n → ∀ W q, RwG W q 3 (P3F (x, y, z)) → Calls Try.prog 114 #[p9w (L k), .slice (some ⟨q, 0, none⟩) 3 3] W fun e w' => e = .returned (.int .i64 (nd k)) ∧ Below W.heap.size W w'))
    (CF : Hid (∀ k, k < n → ∀ W q, RwG W q 3 (P3F (x, y, z)) → Calls Try.prog 116 #[p9w (L k), .slice (some ⟨q, 0, none⟩) 3 3] W fun e w' => e = .returned (.int .i64 (fd k)) ∧ Below W.heap.size W w'))
    (CI : Hid (∀ m W, Calls Try.prog 115 #[.int .i64 m, .int .i64 sc] W fun e w' => e = .returned (spr (kV false m sc)) ∧ Below W.heap.size W w'))
    (LL : Hid (∀ k, (kV false (fd k) sc).1.1 = lo k)) (HH : Hid (∀ k, (nd k = 0 → hi k = rm) ∧ (0 < nd k → Sp.mn rm (kV false (nd k) sc).1.2 = hi k))) (BL : Hid (∀ k, k < n → 0 ≤ nd k ∧ (0 ≤ lo k ∧ lo k ≤ 1000000000) ∧ 0 ≤ hi k ∧ hi k ≤ 1000000000)) :
    Calls Try.prog 72 #[pnv a b c, .int .i64 D, pnv x y z] w fun e w' => e = .returned (.agg #[.int .i64 (Sp.fl (sm lo n) n), .int .i64 (Sp.ce (sm hi n) n)]) ∧ Below w.heap.size w w' := by
  obtain ⟨s1, s2, s3, s4⟩ := SB
  obtain rfl := SH.out
  have P0 := Lib.hid (pan_alloc (pan_alloc (pan_new w a b c 25) (pnc x y z 25)) (.cells #[.int .i64 0, .int .i64 0] 35))
  have U0 := Lib.hid (pan_alloc (pan_new (w.alloc (pnc a b c 25)) x y z 25) (.cells #[.int .i64 0, .int .i64 0] 35))
  have Z0 := Lib.hid (owp_new ((w.alloc (pnc a b c 25)).alloc (pnc x y z 25)) (0, 0) 35)
  simp only [World.size_alloc] at U0 Z0
  have B0 := Lib.hid (show Below w.heap.size w (((w.alloc (pnc a b c 25)).alloc (pnc x y z 25)).alloc (.cells #[.int .i64 0, .int .i64 0] 35)) by (repeat' (first | exact Below.refl _ _ | refine Below.setCell ?_ (by simp <;> omega) _ | refine balloc ?_ _ | refine Below.drew ?_ | refine bdrewN ?_ _)))
  obtain ⟨k0, k1, k2, k3, k4, k5, k6, k7, k8, k9⟩ := id P0.out
  go_enter Try.func72, Try.ntmps72
  go_wp2_with fail
  with_reducible refine (CC.out _).mono ?_
  rintro e w1 ⟨g, off, cap, rfl, hrow, hb1⟩
  have P1 := Lib.hid (pan_alloc (pan_below P0.out hb1) (pnc x y z 23))
  have U1 := Lib.hid (pan_below U0.out hb1)
  have Z1 := Lib.hid (owp_alloc (owp_below Z0.out hb1) (pnc x y z 23))
  have B1 := Lib.hid (balloc (bstep B0.out hb1) (pnc x y z 23))
  have ROW1 := Lib.hid (rowP_in hrow ((Below.refl w1.heap.size w1).alloc (Nat.le_refl _) (pnc x y z 23)) hrow.1)
  have Q1 := Lib.hid (ptb_new w1 x y z)
  clear P0 U0 Z0 B0 hb1 hrow k0 k1 k2 k3 k4 k5 k6 k7 k8 k9
  obtain ⟨u0, u1, u2, u3, u4, u5, u6, u7, u8, u9⟩ := id U1.out
  obtain ⟨k0, k1, k2, k3, k4, k5, k6, k7, k8, k9⟩ := id P1.out
  go_wp2_with fail
  with_reducible refine (CR.out _).mono ?_
  rintro e w2 ⟨rfl, hb2⟩
  have Z2 := Lib.hid (owp_below Z1.out hb2)
  have B2 := Lib.hid (bstep B1.out hb2)
  have ROW2 := Lib.hid (rowP_in ROW1.out hb2 ROW1.out.1)
  have Q2 := Lib.hid (ptb_row (ptb_below Q1.out hb2))
  have hg2 : g < w2.heap.size := ROW2.out.1
  clear P1 U1 Z1 B1 ROW1 Q1 hb2 u0 u1 u2 u3 u4 u5 u6 u7 u8 u9 k0 k1 k2 k3 k4 k5 k6 k7 k8 k9
  go_wp2_with fail
  go_loopw [11, 12, 13] (fun lv hv kv wr => ∃ k : Nat, k ≤ n ∧ kv = .int .i64 k ∧ lv = .int .i64 (sm lo k) ∧ hv = .int .i64 (sm hi k) ∧ (0 ≤ sm lo k ∧ sm lo k ≤ (k : Int) * 1000000000) ∧ (0 ≤ sm hi k ∧ sm hi k ≤ (k : Int) * 1000000000) ∧ Below w2.heap.size w2 wr) (fun _ _ kv _ => n - (intOf kv).toNat)
  case atStart => exact ⟨0, Nat.zero_le _, rfl, rfl, rfl, ⟨Int.le_refl _, Int.le_refl _⟩, ⟨Int.le_refl _, Int.le_refl _⟩, Below.refl _ _⟩
  case round =>
    obtain ⟨k, hk, rfl, rfl, rfl, ⟨l1, l2⟩, ⟨h1, h2⟩, BB⟩ := hrel
    have B3 := Lib.hid BB
    clear BB
    by_cases hlt : k < n
    · have hk1 : (k : Int) < (n : Int) := by omega
      have hk0 : 0 ≤ (k : Int) := by omega
      have hkn : (k : Int) ≤ 64 := by omega
      have ROW3 := Lib.hid (rowP_in ROW2.out B3.out hg2)
      have Q3 := Lib.hid (rwg_below Q2.out B3.out)
      have CNk := Lib.hid (CN.out k hlt)
      have CFk := Lib.hid (CF.out k hlt)
      have bl := BL.out k hlt
      have LLk := LL.out k
      have HHk := Lib.hid (HH.out k)
      have SL := Lib.hid (show sm lo (k + 1) = sm lo k + lo k from rfl)
      have SHk := Lib.hid (show sm hi (k + 1) = sm hi k + hi k from rfl)
      obtain ⟨c0, c1, c2, c3, c4, c5, c6, c7, c8⟩ := ROW3.out.2 k hlt
      have cz := ROW3.out.1
      obtain ⟨q, hq⟩ : ∃ q, L k = q := ⟨_, rfl⟩
      have ROK := Lib.hid (fun (W : World) (h : Below wr.heap.size wr W) => (rowP_in ROW3.out h ROW3.out.1).2 k hlt)
      rw [hq] at CNk CFk c0 c1 c2 c3 c4 c5 c6 c7 c8
      rw [hq] at ROK
      generalize nd k = nk at *
      generalize fd k = fk at *
      generalize lo k = lk at *
      generalize hi k = uk at *
      generalize sm lo k = sl at *
      generalize sm hi k = su at *
      clear hq
      obtain ⟨nn, ⟨l3, l4⟩, h3, h4⟩ := bl
      obtain ⟨r1, e1⟩ : ∃ r, kV false fk (wrap64 (2 ^ D.toNat)) = r := ⟨_, rfl⟩
      obtain ⟨r2, e2⟩ : ∃ r, kV false nk (wrap64 (2 ^ D.toNat)) = r := ⟨_, rfl⟩
      have CI1 : Hid (∀ W, Calls Try.prog 115 #[.int .i64 fk, .int .i64 (wrap64 (2 ^ D.toNat))] W fun e w' => e = .returned (spr r1) ∧ Below W.heap.size W w') := Lib.hid fun W => by rw [← e1]; exact CI.out fk W
      have CI2 : Hid (∀ W, Calls Try.prog 115 #[.int .i64 nk, .int .i64 (wrap64 (2 ^ D.toNat))] W fun e w' => e = .returned (spr r2) ∧ Below W.heap.size W w') := Lib.hid fun W => by rw [← e2]; exact CI.out nk W
      rw [e1] at LLk
      have HHk2 := Lib.hid (by have z := HHk.out; rw [e2] at z; exact z)
      clear e1 e2 HHk
      obtain ⟨⟨r1a, r1b⟩, r1c⟩ := r1
      obtain ⟨⟨r2a, r2b⟩, r2c⟩ := r2
      obtain rfl : r1a = lk := LLk
      go_wp2_with fail
      with_reducible refine (CFk.out _ _ Q3.out).mono ?_
      rintro e w4 ⟨rfl, hb4⟩
      clear c0 c1 c2 c3 c4 c5 c6 c7 c8
      go_wp2_with fail
      with_reducible refine (CI1.out _).mono ?_
      rintro e w5 ⟨rfl, hb5⟩
      have V5 := Lib.hid (owp_new w5 (r1a, r1b) 35)
      have hB5 := Lib.hid (balloc (Below.trans hb4 (hb5.mono hb4.size)) (.cells #[.int .i64 r1a, .int .i64 r1b] 35))
      have Q5 := Lib.hid (rwg_below Q3.out hB5.out)
      obtain ⟨c0, c1, c2, c3, c4, c5, c6, c7, c8⟩ := ROK.out _ hB5.out
      have cz5 : g < w5.heap.size := Nat.lt_of_lt_of_le cz (Nat.le_trans hb4.size hb5.size)
      go_wp2_with fail
      with_reducible refine (CNk.out _ _ Q5.out).mono ?_
      rintro e w6 ⟨rfl, hb6⟩
      have V6 := Lib.hid (owp_below V5.out hb6)
      have BX := Lib.hid (bstep (bstep B3.out hB5.out) hb6)
      clear c0 c1 c2 c3 c4 c5 c6 c7 c8 hb4 hb5 hb6 V5 Q5 hB5
      by_cases z0 : nk = 0
      · obtain rfl : uk = rm := HHk2.out.1 z0
        obtain rfl := z0
        obtain ⟨v0, v1, v2, v3, v4⟩ := V6.out
        go_wp2_with fail
        go_roundw
        case rel => exact ⟨k + 1, by omega, by go_num, by rw [SL.out], by rw [SHk.out], by rw [SL.out]; omega, by rw [SHk.out]; omega, BX.out⟩
        case measure => simp [intOf]; omega
      · have z1 : 0 < nk := by omega
        have mq := Lib.hid (HHk2.out.2 z1)
        clear z0
        go_wp2_with fail
        with_reducible refine (CI2.out _).mono ?_
        rintro e w7 ⟨rfl, hb7⟩
        have V7 := Lib.hid (owp_alloc (owp_below V6.out hb7) (.cells #[.int .i64 r2a, .int .i64 r2b] 35))
        have U7 := Lib.hid (owp_new w7 (r2a, r2b) 35)
        have BY := Lib.hid (balloc (bstep BX.out hb7) (.cells #[.int .i64 r2a, .int .i64 r2b] 35))
        obtain ⟨v0, v1, v2, v3, v4⟩ := V7.out
        obtain ⟨u0, u1, u2, u3, u4⟩ := U7.out
        have mq' := mq.out
        clear hb7
        go_wp2_with fail
        go_roundw
        case rel => exact ⟨k + 1, by omega, by go_num, by rw [SL.out], by rw [SHk.out], by rw [SL.out]; omega, by rw [SHk.out]; omega, BY.out⟩
        case measure => simp [intOf]; omega
    · obtain rfl : k = n := by omega
      have SL1 : Sm (sm lo k) (k : Int) := ⟨by omega, by omega, by omega, by omega⟩
      have SU1 : Sm (sm hi k) (k : Int) := ⟨by omega, by omega, by omega, by omega⟩
      have DD := Lib.hid (fun W => rdown_any (sm lo k) (k : Int) W SL1 (by omega))
      have DU := Lib.hid (fun W => rup_any (sm hi k) (k : Int) W SU1 (by omega))
      have Z3 := Lib.hid (owp_in Z2.out B3.out Z2.out.2.2.2.2)
      have hB := bjoin B2.out B3.out
      clear SL1 SU1
      obtain ⟨ra, hra⟩ : ∃ ra, Sp.fl (sm lo k) (k : Int) = ra := ⟨_, rfl⟩
      obtain ⟨rb, hrb⟩ : ∃ rb, Sp.ce (sm hi k) (k : Int) = rb := ⟨_, rfl⟩
      rw [hra] at DD
      rw [hrb] at DU
      have HRA := Lib.hid hra
      have HRB := Lib.hid hrb
      clear hra hrb
      obtain ⟨o0, o1, o2, o3, o4⟩ := Z3.out
      go_wp2_with (first | (go_at_call 118; (with_reducible refine (DD.out _).mono ?_); rintro e W1 ⟨rfl, rfl⟩) | (go_at_call 119; (with_reducible refine (DU.out _).mono ?_); rintro e W1 ⟨rfl, rfl⟩) | fail)
      refine bodyPost_ret (v := .agg #[.int .i64 ra, .int .i64 rb]) (by rw [results_cell rfl]; go_simp) rfl ⟨by rw [HRA.out, HRB.out], ?_⟩
      (repeat' (first | with_reducible exact hB | (with_reducible refine Below.setCell ?_ (by simp <;> omega) _)))

end Go.Proofs.Ytjigcgpcglfjfaa
