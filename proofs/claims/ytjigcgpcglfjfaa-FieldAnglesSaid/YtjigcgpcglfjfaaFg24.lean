/-
  The walk of the document's mean: behind its callees' contracts.
-/
import Derived.Test.YtjigcgpcglfjfaaFg23
import Derived.Test.YtjigcgpcglfjfaaFg19
namespace Go.Proofs.Ytjigcgpcglfjfaa
open Go.ChangeShapes Go.WideShapes Go.RowKit
open Sh
theorem owp_in {w w1 : World} {N b : Nat} {p : Int × Int} (h : OwP w b p) (hb : Below N w w1) (hN : b < N) : OwP w1 b p := by
  obtain ⟨h1, h2, h3, h4, h5⟩ := h
  exact ⟨(hb.cell (p := ⟨b, 0, none⟩) hN).trans h1, (hb.cell (p := ⟨b, 1, none⟩) hN).trans h2, (hb.frozen (p := ⟨b, 0, none⟩) hN).trans h3, (hb.frozen (p := ⟨b, 1, none⟩) hN).trans h4, Nat.lt_of_lt_of_le h5 hb.size⟩
theorem owp_set2 {w : World} {b c : Nat} {p : Int × Int} {v v' : Value} (h : OwP w b p) (n : b ≠ c) : OwP ((w.setCell ⟨c, 0, none⟩ v).setCell ⟨c, 1, none⟩ v') b p := by
  obtain ⟨h1, h2, h3, h4, h5⟩ := h
  have n' : ¬ c = b := fun e => n e.symm
  exact ⟨by go_simp, by go_simp, by go_simp, by go_simp, by simpa using h5⟩
theorem bjoin {w u v : World} (h : Below w.heap.size w u) (k : Below u.heap.size u v) : Below w.heap.size w v := h.trans (k.mono h.size)
set_option maxRecDepth 100000 in
set_option maxHeartbeats 8000000 in
theorem rmwf (a b c x y : P3) (D sc : Int) (n : Nat) (L : Nat → P9) (nd fd lo hi : Nat → Int) (res : Sp.R) (w : World) (SH : Hid (wrap64 (2 ^ D.toNat) = sc)) (SB : 0 ≤ D ∧ D ≤ 3 ∧ 0 ≤ sc ∧ sc ≤ 8) (n0 : 0 < n) (n1 : n ≤ 64)
    (CC : Hid (∀ W, Calls Try.prog 48 #[pnv a b c, .int .i64 D] W fun e w' => ∃ g off cap, e = .returned (.slice (some ⟨g, off, none⟩) n cap) ∧ RowP w' g off n L ∧ Below W.heap.size W w'))
    (CT : Hid (∀ W, Calls Try.prog 73 #[ptv x, .int .i64 sc] W fun e w' => e = .returned (ptv y) ∧ Below W.heap.size W w'))
    (CN : Hid (∀ k, k < n → ∀ W q, RwG W q 1 (fun _ => y) → Calls Try.prog 114 #[p9w (L k), .slice (some ⟨q, 0, none⟩) 1 1] W fun e w' => e = .returned (.int .i64 (nd k)) ∧ Below W.heap.size W w'))
    (CF : Hid (∀ k, k < n → ∀ W q, RwG W q 1 (fun _ => y) → Calls Try.prog 116 #[p9w (L k), .slice (some ⟨q, 0, none⟩) 1 1] W fun e w' => e = .returned (.int .i64 (fd k)) ∧ Below W.heap.size W w'))
    (CI : Hid (∀ m W, Calls Try.prog 115 #[.int .i64 m, .int .i64 sc] W fun e w' => e = .returned (spr (kV false m sc)) ∧ Below W.heap.size W w'))
    (CK : Hid (∀ m W, Calls Try.prog 117 #[.int .i64 m, .int .i64 sc] W fun e w' => e = .returned (spr (kV true m sc)) ∧ Below W.heap.size W w'))
    (FL : Hid (∀ k, (kV false (fd k) sc).1.1 = lo k ∧ (kV false (nd k) sc).1.2 = hi k)) (BL : Hid (∀ k, k < n → nd k ≠ 0 → (0 ≤ lo k ∧ lo k ≤ 1000000000) ∧ 0 ≤ hi k ∧ hi k ≤ 1000000000))
    (R1 : Hid (∀ k, k < n → nd k = 0 → res = ((0, 0), 10))) (R2 : Hid (anyz nd n = false → res = ((Sp.fl (sm lo n) n, Sp.ce (sm hi n) n), 0))) :
    Calls Try.prog 52 #[pnv a b c, ptv x, .int .i64 D, .bool false] w fun e w' => e = .returned (spr res) ∧ Below w.heap.size w w' := by
  obtain ⟨s1, s2, s3, s4⟩ := SB
  obtain rfl := SH.out
  have P0 := Lib.hid (pan_alloc (pan_alloc (pan_new w a b c 25) (ptc x 23)) (.cells #[.int .i64 0, .int .i64 0] 35))
  have X0 := Lib.hid (own_alloc (own_new (w.alloc (pnc a b c 25)) x 23) (.cells #[.int .i64 0, .int .i64 0] 35))
  have Z0 := Lib.hid (owp_new ((w.alloc (pnc a b c 25)).alloc (ptc x 23)) (0, 0) 35)
  simp only [World.size_alloc] at X0 Z0
  have B0 := Lib.hid (show Below w.heap.size w (((w.alloc (pnc a b c 25)).alloc (ptc x 23)).alloc (.cells #[.int .i64 0, .int .i64 0] 35)) by (repeat' (first | exact Below.refl _ _ | refine Below.setCell ?_ (by simp <;> omega) _ | refine balloc ?_ _ | refine Below.drew ?_ | refine bdrewN ?_ _)))
  obtain ⟨k0, k1, k2, k3, k4, k5, k6, k7, k8, k9⟩ := id P0.out
  go_enter Try.func52, Try.ntmps52
  go_wp2_with fail
  with_reducible refine (CC.out _).mono ?_
  rintro e w1 ⟨g, off, cap, rfl, hrow, hb1⟩
  have X1 := Lib.hid (own_below X0.out hb1)
  have Z1 := Lib.hid (owp_below Z0.out hb1)
  have B1 := Lib.hid (bstep B0.out hb1)
  have ROW1 := Lib.hid hrow
  have hgl : g < w1.heap.size := hrow.1
  clear P0 X0 Z0 B0 hb1 hrow k0 k1 k2 k3 k4 k5 k6 k7 k8 k9
  obtain ⟨o0, o1, o2, o3, o4, o5, o6⟩ := id X1.out
  go_wp2_with fail
  with_reducible refine (CT.out _).mono ?_
  rintro e w2 ⟨rfl, hb2⟩
  have Z2 := Lib.hid (owp_alloc (owp_below Z1.out hb2) (ptc y 23))
  have B2 := Lib.hid (balloc (bstep B1.out hb2) (ptc y 23))
  have ROW2 := Lib.hid (rowP_in ROW1.out (hb2.alloc hb2.size (ptc y 23)) hgl)
  have Q2 := Lib.hid (rwg_new1 w2 y 23)
  have hg2 : g < (w2.alloc (ptc y 23)).heap.size := ROW2.out.1
  clear X1 Z1 B1 ROW1 hb2 o0 o1 o2 o3 o4 o5 o6 hgl
  go_wp2_with fail
  go_loopw [13, 14, 15] (fun lv hv kv wr => ∃ k : Nat, k ≤ n ∧ kv = .int .i64 k ∧ lv = .int .i64 (sm lo k) ∧ hv = .int .i64 (sm hi k) ∧ anyz nd k = false ∧ (0 ≤ sm lo k ∧ sm lo k ≤ (k : Int) * 1000000000) ∧ (0 ≤ sm hi k ∧ sm hi k ≤ (k : Int) * 1000000000) ∧ Below (w2.alloc (ptc y 23)).heap.size (w2.alloc (ptc y 23)) wr) (fun _ _ kv _ => n - (intOf kv).toNat)
  case atStart => exact ⟨0, Nat.zero_le _, rfl, rfl, rfl, rfl, ⟨Int.le_refl _, Int.le_refl _⟩, ⟨Int.le_refl _, Int.le_refl _⟩, Below.refl _ _⟩
  case round =>
    obtain ⟨k, hk, rfl, rfl, rfl, hz, ⟨l1, l2⟩, ⟨h1, h2⟩, BB⟩ := hrel
    have HZ := Lib.hid hz
    have B3 := Lib.hid BB
    clear hz BB
    by_cases hlt : k < n
    · have hk1 : (k : Int) < (n : Int) := by omega
      have hk0 : 0 ≤ (k : Int) := by omega
      have hkn : (k : Int) ≤ 64 := by omega
      have ROW3 := Lib.hid (rowP_in ROW2.out B3.out hg2)
      have Q3 := Lib.hid (rwg_in Q2.out B3.out (by simp))
      have Z3 := Lib.hid (owp_in Z2.out B3.out Z2.out.2.2.2.2)
      have CNk := Lib.hid (CN.out k hlt)
      have CFk := Lib.hid (CF.out k hlt)
      have BLk := Lib.hid (BL.out k hlt)
      have R1k := Lib.hid (R1.out k hlt)
      have FLk := Lib.hid (FL.out k)
      have NZ := Lib.hid (fun h : nd k ≠ 0 => anyz_next HZ.out h)
      have SL := Lib.hid (show sm lo (k + 1) = sm lo k + lo k from rfl)
      have SHk := Lib.hid (show sm hi (k + 1) = sm hi k + hi k from rfl)
      obtain ⟨c0, c1, c2, c3, c4, c5, c6, c7, c8⟩ := ROW3.out.2 k hlt
      have cz := ROW3.out.1
      obtain ⟨q, hq⟩ : ∃ q, L k = q := ⟨_, rfl⟩
      have ROK := Lib.hid (fun (W : World) (h : Below wr.heap.size wr W) => (rowP_in ROW3.out h ROW3.out.1).2 k hlt)
      rw [hq] at CNk CFk c0 c1 c2 c3 c4 c5 c6 c7 c8
      rw [hq] at ROK
      generalize nd k = nk at *
      generalize fd k = fk at *
      generalize lo k = lk at *
      generalize hi k = uk at *
      generalize sm lo k = sl at *
      generalize sm hi k = su at *
      clear hq
      go_wp2_with fail
      with_reducible refine (CNk.out _ _ Q3.out).mono ?_
      rintro e w4 ⟨rfl, hb4⟩
      by_cases z : nk = 0
      · have hres := R1k.out z
        subst hres
        subst z
        obtain ⟨o0, o1, o2, o3, o4⟩ := owp_below Z3.out hb4
        have hB := bstep (bjoin B2.out B3.out) hb4
        clear c0 c1 c2 c3 c4 c5 c6 c7 c8
        go_wp2
        refine bodyPost_ret (v := spr ((0, 0), 10)) (by rw [results_cell_tmp rfl]; go_simp) rfl ⟨rfl, ?_⟩
        (repeat' (first | with_reducible exact hB | (with_reducible refine Below.setCell ?_ (by simp <;> omega) _)))
      · have z1 : (nk == 0) = false := beq_eq_false_iff_ne.2 z
        have bl := BLk.out z
        obtain ⟨r1, e1⟩ : ∃ r, kV false fk (wrap64 (2 ^ D.toNat)) = r := ⟨_, rfl⟩
        obtain ⟨r2, e2⟩ : ∃ r, kV false nk (wrap64 (2 ^ D.toNat)) = r := ⟨_, rfl⟩
        obtain ⟨r3, e3⟩ : ∃ r, kV true fk (wrap64 (2 ^ D.toNat)) = r := ⟨_, rfl⟩
        obtain ⟨r4, e4⟩ : ∃ r, kV true nk (wrap64 (2 ^ D.toNat)) = r := ⟨_, rfl⟩
        have CI1 : Hid (∀ W, Calls Try.prog 115 #[.int .i64 fk, .int .i64 (wrap64 (2 ^ D.toNat))] W fun e w' => e = .returned (spr r1) ∧ Below W.heap.size W w') := Lib.hid fun W => by rw [← e1]; exact CI.out fk W
        have CI2 : Hid (∀ W, Calls Try.prog 115 #[.int .i64 nk, .int .i64 (wrap64 (2 ^ D.toNat))] W fun e w' => e = .returned (spr r2) ∧ Below W.heap.size W w') := Lib.hid fun W => by rw [← e2]; exact CI.out nk W
        have CK3 : Hid (∀ W, Calls Try.prog 117 #[.int .i64 fk, .int .i64 (wrap64 (2 ^ D.toNat))] W fun e w' => e = .returned (spr r3) ∧ Below W.heap.size W w') := Lib.hid fun W => by rw [← e3]; exact CK.out fk W
        have CK4 : Hid (∀ W, Calls Try.prog 117 #[.int .i64 nk, .int .i64 (wrap64 (2 ^ D.toNat))] W fun e w' => e = .returned (spr r4) ∧ Below W.heap.size W w') := Lib.hid fun W => by rw [← e4]; exact CK.out nk W
        obtain ⟨⟨l3, l4⟩, h3, h4⟩ := bl
        obtain ⟨f1, f2⟩ := FLk.out
        rw [e1] at f1
        rw [e2] at f2
        clear e1 e2 e3 e4
        obtain ⟨⟨r1a, r1b⟩, r1c⟩ := r1
        obtain ⟨⟨r2a, r2b⟩, r2c⟩ := r2
        obtain ⟨⟨r3a, r3b⟩, r3c⟩ := r3
        obtain ⟨⟨r4a, r4b⟩, r4c⟩ := r4
        obtain rfl : r1a = lk := f1
        obtain rfl : r2b = uk := f2
        clear c0 c1 c2 c3 c4 c5 c6 c7 c8
        obtain ⟨c0, c1, c2, c3, c4, c5, c6, c7, c8⟩ := ROK.out w4 hb4
        have cz4 : g < w4.heap.size := Nat.lt_of_lt_of_le cz hb4.size
        go_wp2_with fail
        with_reducible refine (CFk.out _ _ (rwg_below Q3.out hb4)).mono ?_
        rintro e w5 ⟨rfl, hb5⟩
        clear c0 c1 c2 c3 c4 c5 c6 c7 c8
        go_wp2_with fail
        with_reducible refine (CI1.out _).mono ?_
        rintro e w6 ⟨rfl, hb6⟩
        have V6 := Lib.hid (owp_new w6 (r1a, r1b) 35)
        go_wp2_with fail
        with_reducible refine (CI2.out _).mono ?_
        rintro e w7 ⟨rfl, hb7⟩
        have V7 := Lib.hid (owp_alloc (owp_below V6.out hb7) (.cells #[.int .i64 r2a, .int .i64 r2b] 35))
        have U7 := Lib.hid (owp_new w7 (r2a, r2b) 35)
        have hB7 := Lib.hid (show Below wr.heap.size wr w7 from ((hb4.trans (hb5.mono hb4.size)).trans (hb6.mono (Nat.le_trans hb4.size hb5.size))).trans (((Below.refl w6.heap.size w6).alloc (Nat.le_refl _) _).trans (hb7.mono (by simp)) |>.mono (Nat.le_trans hb4.size (Nat.le_trans hb5.size hb6.size))))
        have BX := Lib.hid (balloc (bstep B3.out hB7.out) (.cells #[.int .i64 r2a, .int .i64 r2b] 35))
        obtain ⟨v0, v1, v2, v3, v4⟩ := V7.out
        obtain ⟨u0, u1, u2, u3, u4⟩ := U7.out
        clear hb4 hb5 hb6 hb7
        go_wp2_with fail
        go_roundw
        case rel => exact ⟨k + 1, by omega, by go_num, by rw [SL.out], by rw [SHk.out], NZ.out z, by rw [SL.out]; omega, by rw [SHk.out]; omega, BX.out⟩
        case measure => simp [intOf]; omega
    · obtain rfl : k = n := by omega
      have hres := R2.out HZ.out
      subst hres
      have SL1 : Sm (sm lo k) (k : Int) := ⟨by omega, by omega, by omega, by omega⟩
      have SU1 : Sm (sm hi k) (k : Int) := ⟨by omega, by omega, by omega, by omega⟩
      have DD := Lib.hid (fun W => rdown_any (sm lo k) (k : Int) W SL1 (by omega))
      have DU := Lib.hid (fun W => rup_any (sm hi k) (k : Int) W SU1 (by omega))
      have Z3 := Lib.hid (owp_in Z2.out B3.out Z2.out.2.2.2.2)
      have hB := bjoin B2.out B3.out
      clear SL1 SU1
      obtain ⟨ra, hra⟩ : ∃ ra, Sp.fl (sm lo k) (k : Int) = ra := ⟨_, rfl⟩
      obtain ⟨rb, hrb⟩ : ∃ rb, Sp.ce (sm hi k) (k : Int) = rb := ⟨_, rfl⟩
      rw [hra] at DD
      rw [hrb] at DU
      have HRA := Lib.hid hra
      have HRB := Lib.hid hrb
      clear hra hrb
      obtain ⟨o0, o1, o2, o3, o4⟩ := Z3.out
      go_wp2_with (first | (go_at_call 118; (with_reducible refine (DD.out _).mono ?_); rintro e W1 ⟨rfl, rfl⟩) | (go_at_call 119; (with_reducible refine (DU.out _).mono ?_); rintro e W1 ⟨rfl, rfl⟩) | fail)
      refine bodyPost_ret (v := spr ((ra, rb), 0)) (by rw [results_cell_tmp rfl]; go_simp) rfl ⟨by rw [HRA.out, HRB.out], ?_⟩
      (repeat' (first | with_reducible exact hB | (with_reducible refine Below.setCell ?_ (by simp <;> omega) _)))
set_option maxRecDepth 100000 in
set_option maxHeartbeats 8000000 in
theorem rmwt (a b c x y : P3) (D sc : Int) (n : Nat) (L : Nat → P9) (nd fd lo hi : Nat → Int) (res : Sp.R) (w : World) (SH : Hid (wrap64 (2 ^ D.toNat) = sc)) (SB : 0 ≤ D ∧ D ≤ 3 ∧ 0 ≤ sc ∧ sc ≤ 8) (n0 : 0 < n) (n1 : n ≤ 64)
    (CC : Hid (∀ W, Calls Try.prog 48 #[pnv a b c, .int .i64 D] W fun e w' => ∃ g off cap, e = .returned (.slice (some ⟨g, off, none⟩) n cap) ∧ RowP w' g off n L ∧ Below W.heap.size W w'))
    (CT : Hid (∀ W, Calls Try.prog 73 #[ptv x, .int .i64 sc] W fun e w' => e = .returned (ptv y) ∧ Below W.heap.size W w'))
    (CN : Hid (∀ k, k < n → ∀ W q, RwG W q 1 (fun _ => y) → Calls Try.prog 114 #[p9w (L k), .slice (some ⟨q, 0, none⟩) 1 1] W fun e w' => e = .returned (.int .i64 (nd k)) ∧ Below W.heap.size W w'))
    (CF : Hid (∀ k, k < n → ∀ W q, RwG W q 1 (fun _ => y) → Calls Try.prog 116 #[p9w (L k), .slice (some ⟨q, 0, none⟩) 1 1] W fun e w' => e = .returned (.int .i64 (fd k)) ∧ Below W.heap.size W w'))
    (CI : Hid (∀ m W, Calls Try.prog 115 #[.int .i64 m, .int .i64 sc] W fun e w' => e = .returned (spr (kV false m sc)) ∧ Below W.heap.size W w'))
    (CK : Hid (∀ m W, Calls Try.prog 117 #[.int .i64 m, .int .i64 sc] W fun e w' => e = .returned (spr (kV true m sc)) ∧ Below W.heap.size W w'))
    (FL : Hid (∀ k, (kV true (fd k) sc).1.1 = lo k ∧ (kV true (nd k) sc).1.2 = hi k)) (BL : Hid (∀ k, k < n → nd k ≠ 0 → (0 ≤ lo k ∧ lo k ≤ 1000000000) ∧ 0 ≤ hi k ∧ hi k ≤ 1000000000))
    (R1 : Hid (∀ k, k < n → nd k = 0 → res = ((0, 0), 10))) (R2 : Hid (anyz nd n = false → res = ((Sp.fl (sm lo n) n, Sp.ce (sm hi n) n), 0))) :
    Calls Try.prog 52 #[pnv a b c, ptv x, .int .i64 D, .bool true] w fun e w' => e = .returned (spr res) ∧ Below w.heap.size w w' := by
  obtain ⟨s1, s2, s3, s4⟩ := SB
  obtain rfl := SH.out
  have P0 := Lib.hid (pan_alloc (pan_alloc (pan_new w a b c 25) (ptc x 23)) (.cells #[.int .i64 0, .int .i64 0] 35))
  have X0 := Lib.hid (own_alloc (own_new (w.alloc (pnc a b c 25)) x 23) (.cells #[.int .i64 0, .int .i64 0] 35))
  have Z0 := Lib.hid (owp_new ((w.alloc (pnc a b c 25)).alloc (ptc x 23)) (0, 0) 35)
  simp only [World.size_alloc] at X0 Z0
  have B0 := Lib.hid (show Below w.heap.size w (((w.alloc (pnc a b c 25)).alloc (ptc x 23)).alloc (.cells #[.int .i64 0, .int .i64 0] 35)) by (repeat' (first | exact Below.refl _ _ | refine Below.setCell ?_ (by simp <;> omega) _ | refine balloc ?_ _ | refine Below.drew ?_ | refine bdrewN ?_ _)))
  obtain ⟨k0, k1, k2, k3, k4, k5, k6, k7, k8, k9⟩ := id P0.out
  go_enter Try.func52, Try.ntmps52
  go_wp2_with fail
  with_reducible refine (CC.out _).mono ?_
  rintro e w1 ⟨g, off, cap, rfl, hrow, hb1⟩
  have X1 := Lib.hid (own_below X0.out hb1)
  have Z1 := Lib.hid (owp_below Z0.out hb1)
  have B1 := Lib.hid (bstep B0.out hb1)
  have ROW1 := Lib.hid hrow
  have hgl : g < w1.heap.size := hrow.1
  clear P0 X0 Z0 B0 hb1 hrow k0 k1 k2 k3 k4 k5 k6 k7 k8 k9
  obtain ⟨o0, o1, o2, o3, o4, o5, o6⟩ := id X1.out
  go_wp2_with fail
  with_reducible refine (CT.out _).mono ?_
  rintro e w2 ⟨rfl, hb2⟩
  have Z2 := Lib.hid (owp_alloc (owp_below Z1.out hb2) (ptc y 23))
  have B2 := Lib.hid (balloc (bstep B1.out hb2) (ptc y 23))
  have ROW2 := Lib.hid (rowP_in ROW1.out (hb2.alloc hb2.size (ptc y 23)) hgl)
  have Q2 := Lib.hid (rwg_new1 w2 y 23)
  have hg2 : g < (w2.alloc (ptc y 23)).heap.size := ROW2.out.1
  clear X1 Z1 B1 ROW1 hb2 o0 o1 o2 o3 o4 o5 o6 hgl
  go_wp2_with fail
  go_loopw [13, 14, 15] (fun lv hv kv wr => ∃ k : Nat, k ≤ n ∧ kv = .int .i64 k ∧ lv = .int .i64 (sm lo k) ∧ hv = .int .i64 (sm hi k) ∧ anyz nd k = false ∧ (0 ≤ sm lo k ∧ sm lo k ≤ (k : Int) * 1000000000) ∧ (0 ≤ sm hi k ∧ sm hi k ≤ (k : Int) * 1000000000) ∧ Below (w2.alloc (ptc y 23)).heap.size (w2.alloc (ptc y 23)) wr) (fun _ _ kv _ => n - (intOf kv).toNat)
  case atStart => exact ⟨0, Nat.zero_le _, rfl, rfl, rfl, rfl, ⟨Int.le_refl _, Int.le_refl _⟩, ⟨Int.le_refl _, Int.le_refl _⟩, Below.refl _ _⟩
  case round =>
    obtain ⟨k, hk, rfl, rfl, rfl, hz, ⟨l1, l2⟩, ⟨h1, h2⟩, BB⟩ := hrel
    have HZ := Lib.hid hz
    have B3 := Lib.hid BB
    clear hz BB
    by_cases hlt : k < n
    · have hk1 : (k : Int) < (n : Int) := by omega
      have hk0 : 0 ≤ (k : Int) := by omega
      have hkn : (k : Int) ≤ 64 := by omega
      have ROW3 := Lib.hid (rowP_in ROW2.out B3.out hg2)
      have Q3 := Lib.hid (rwg_in Q2.out B3.out (by simp))
      have Z3 := Lib.hid (owp_in Z2.out B3.out Z2.out.2.2.2.2)
      have CNk := Lib.hid (CN.out k hlt)
      have CFk := Lib.hid (CF.out k hlt)
      have BLk := Lib.hid (BL.out k hlt)
      have R1k := Lib.hid (R1.out k hlt)
      have FLk := Lib.hid (FL.out k)
      have NZ := Lib.hid (fun h : nd k ≠ 0 => anyz_next HZ.out h)
      have SL := Lib.hid (show sm lo (k + 1) = sm lo k + lo k from rfl)
      have SHk := Lib.hid (show sm hi (k + 1) = sm hi k + hi k from rfl)
      obtain ⟨c0, c1, c2, c3, c4, c5, c6, c7, c8⟩ := ROW3.out.2 k hlt
      have cz := ROW3.out.1
      obtain ⟨q, hq⟩ : ∃ q, L k = q := ⟨_, rfl⟩
      have ROK := Lib.hid (fun (W : World) (h : Below wr.heap.size wr W) => (rowP_in ROW3.out h ROW3.out.1).2 k hlt)
      rw [hq] at CNk CFk c0 c1 c2 c3 c4 c5 c6 c7 c8
      rw [hq] at ROK
      generalize nd k = nk at *
      generalize fd k = fk at *
      generalize lo k = lk at *
      generalize hi k = uk at *
      generalize sm lo k = sl at *
      generalize sm hi k = su at *
      clear hq
      go_wp2_with fail
      with_reducible refine (CNk.out _ _ Q3.out).mono ?_
      rintro e w4 ⟨rfl, hb4⟩
      by_cases z : nk = 0
      · have hres := R1k.out z
        subst hres
        subst z
        obtain ⟨o0, o1, o2, o3, o4⟩ := owp_below Z3.out hb4
        have hB := bstep (bjoin B2.out B3.out) hb4
        clear c0 c1 c2 c3 c4 c5 c6 c7 c8
        go_wp2
        refine bodyPost_ret (v := spr ((0, 0), 10)) (by rw [results_cell_tmp rfl]; go_simp) rfl ⟨rfl, ?_⟩
        (repeat' (first | with_reducible exact hB | (with_reducible refine Below.setCell ?_ (by simp <;> omega) _)))
      · have z1 : (nk == 0) = false := beq_eq_false_iff_ne.2 z
        have bl := BLk.out z
        obtain ⟨r1, e1⟩ : ∃ r, kV false fk (wrap64 (2 ^ D.toNat)) = r := ⟨_, rfl⟩
        obtain ⟨r2, e2⟩ : ∃ r, kV false nk (wrap64 (2 ^ D.toNat)) = r := ⟨_, rfl⟩
        obtain ⟨r3, e3⟩ : ∃ r, kV true fk (wrap64 (2 ^ D.toNat)) = r := ⟨_, rfl⟩
        obtain ⟨r4, e4⟩ : ∃ r, kV true nk (wrap64 (2 ^ D.toNat)) = r := ⟨_, rfl⟩
        have CI1 : Hid (∀ W, Calls Try.prog 115 #[.int .i64 fk, .int .i64 (wrap64 (2 ^ D.toNat))] W fun e w' => e = .returned (spr r1) ∧ Below W.heap.size W w') := Lib.hid fun W => by rw [← e1]; exact CI.out fk W
        have CI2 : Hid (∀ W, Calls Try.prog 115 #[.int .i64 nk, .int .i64 (wrap64 (2 ^ D.toNat))] W fun e w' => e = .returned (spr r2) ∧ Below W.heap.size W w') := Lib.hid fun W => by rw [← e2]; exact CI.out nk W
        have CK3 : Hid (∀ W, Calls Try.prog 117 #[.int .i64 fk, .int .i64 (wrap64 (2 ^ D.toNat))] W fun e w' => e = .returned (spr r3) ∧ Below W.heap.size W w') := Lib.hid fun W => by rw [← e3]; exact CK.out fk W
        have CK4 : Hid (∀ W, Calls Try.prog 117 #[.int .i64 nk, .int .i64 (wrap64 (2 ^ D.toNat))] W fun e w' => e = .returned (spr r4) ∧ Below W.heap.size W w') := Lib.hid fun W => by rw [← e4]; exact CK.out nk W
        obtain ⟨⟨l3, l4⟩, h3, h4⟩ := bl
        obtain ⟨f1, f2⟩ := FLk.out
        rw [e3] at f1
        rw [e4] at f2
        clear e1 e2 e3 e4
        obtain ⟨⟨r1a, r1b⟩, r1c⟩ := r1
        obtain ⟨⟨r2a, r2b⟩, r2c⟩ := r2
        obtain ⟨⟨r3a, r3b⟩, r3c⟩ := r3
        obtain ⟨⟨r4a, r4b⟩, r4c⟩ := r4
        clear c0 c1 c2 c3 c4 c5 c6 c7 c8
        obtain ⟨c0, c1, c2, c3, c4, c5, c6, c7, c8⟩ := ROK.out w4 hb4
        have cz4 : g < w4.heap.size := Nat.lt_of_lt_of_le cz hb4.size
        go_wp2_with fail
        with_reducible refine (CFk.out _ _ (rwg_below Q3.out hb4)).mono ?_
        rintro e w5 ⟨rfl, hb5⟩
        clear c0 c1 c2 c3 c4 c5 c6 c7 c8
        go_wp2_with fail
        with_reducible refine (CI1.out _).mono ?_
        rintro e w6 ⟨rfl, hb6⟩
        have V6 := Lib.hid (owp_new w6 (r1a, r1b) 35)
        go_wp2_with fail
        with_reducible refine (CI2.out _).mono ?_
        rintro e w7 ⟨rfl, hb7⟩
        have V7 := Lib.hid (owp_alloc (owp_below V6.out hb7) (.cells #[.int .i64 r2a, .int .i64 r2b] 35))
        have U7 := Lib.hid (owp_new w7 (r2a, r2b) 35)
        have hB7 := Lib.hid (show Below wr.heap.size wr w7 from ((hb4.trans (hb5.mono hb4.size)).trans (hb6.mono (Nat.le_trans hb4.size hb5.size))).trans (((Below.refl w6.heap.size w6).alloc (Nat.le_refl _) _).trans (hb7.mono (by simp)) |>.mono (Nat.le_trans hb4.size (Nat.le_trans hb5.size hb6.size))))
        have BX := Lib.hid (balloc (bstep B3.out hB7.out) (.cells #[.int .i64 r2a, .int .i64 r2b] 35))
        have hsz67 := Lib.hid (show w6.heap.size < w7.heap.size from Nat.lt_of_lt_of_le (by simp) hb7.size)
        have hw6 := Lib.hid (show (w2.alloc (ptc y 23)).heap.size ≤ w6.heap.size from Nat.le_trans B3.out.size (Nat.le_trans hb4.size (Nat.le_trans hb5.size hb6.size)))
        have hw7 := Lib.hid (Nat.le_trans hw6.out (Nat.le_of_lt hsz67.out))
        obtain ⟨c0, c1, c2, c3, c4, c5, c6, c7, c8⟩ := ROK.out _ (balloc hB7.out (.cells #[.int .i64 r2a, .int .i64 r2b] 35))
        have cz7 : g < w7.heap.size := Nat.lt_of_lt_of_le cz hB7.out.size
        have Q7 := Lib.hid (rwg_below Q3.out (balloc hB7.out (.cells #[.int .i64 r2a, .int .i64 r2b] 35)))
        clear hb4 hb5 hb6 hb7
        go_wp2_with fail
        with_reducible refine (CFk.out _ _ Q7.out).mono ?_
        rintro e w8 ⟨rfl, hb8⟩
        have V8 := Lib.hid (owp_below V7.out hb8)
        have U8 := Lib.hid (owp_below U7.out hb8)
        clear c0 c1 c2 c3 c4 c5 c6 c7 c8
        go_wp2_with fail
        with_reducible refine (CK3.out _).mono ?_
        rintro e w9 ⟨rfl, hb9⟩
        have V9 := Lib.hid (owp_below V8.out hb9)
        have U9 := Lib.hid (owp_below U8.out hb9)
        obtain rfl : r3a = lk := f1
        obtain ⟨v0, v1, v2, v3, v4⟩ := id V9.out
        have ne : ¬ (w7.heap.size = w6.heap.size) := by have := V6.out.2.2.2.2; have := hB7.out.size; have := V7.out.2.2.2.2; have := U7.out.2.2.2.2; have := hsz67.out; omega
        have V10 := Lib.hid (owp_put V9.out (r3a, r3b))
        have U10 := Lib.hid (owp_set2 (v := .int .i64 r3a) (v' := .int .i64 r3b) U9.out ne)
        have BY := Lib.hid (((bstep (bstep BX.out hb8) hb9).setCell (p := ⟨w6.heap.size, 0, none⟩) hw6.out (.int .i64 r3a)).setCell (p := ⟨w6.heap.size, 1, none⟩) hw6.out (.int .i64 r3b))
        clear hb8 hb9
        go_wp2_with fail
        with_reducible refine (CK4.out _).mono ?_
        rintro e w11 ⟨rfl, hb11⟩
        obtain rfl : r4b = uk := f2
        clear v0 v1 v2 v3 v4
        have V11 := Lib.hid (owp_set2 (v := .int .i64 r4a) (v' := .int .i64 r4b) (owp_below V10.out hb11) (fun h => ne h.symm))
        have U11 := Lib.hid (owp_below U10.out hb11)
        have BZ := Lib.hid (((bstep BY.out hb11).setCell (p := ⟨w7.heap.size, 0, none⟩) hw7.out (.int .i64 r4a)).setCell (p := ⟨w7.heap.size, 1, none⟩) hw7.out (.int .i64 r4b))
        have U12 := Lib.hid (owp_put U11.out (r4a, r4b))
        obtain ⟨u0, u1, u2, u3, u4⟩ := id U11.out
        obtain ⟨x0, x1, _, _, x4⟩ := owp_below V10.out hb11
        go_wp2_with fail
        go_roundw
        case rel => exact ⟨k + 1, by omega, by go_num, by rw [SL.out], by rw [SHk.out], NZ.out z, by rw [SL.out]; omega, by rw [SHk.out]; omega, BZ.out⟩
        case measure => simp [intOf]; omega
    · obtain rfl : k = n := by omega
      have hres := R2.out HZ.out
      subst hres
      have SL1 : Sm (sm lo k) (k : Int) := ⟨by omega, by omega, by omega, by omega⟩
      have SU1 : Sm (sm hi k) (k : Int) := ⟨by omega, by omega, by omega, by omega⟩
      have DD := Lib.hid (fun W => rdown_any (sm lo k) (k : Int) W SL1 (by omega))
      have DU := Lib.hid (fun W => rup_any (sm hi k) (k : Int) W SU1 (by omega))
      have Z3 := Lib.hid (owp_in Z2.out B3.out Z2.out.2.2.2.2)
      have hB := bjoin B2.out B3.out
      clear SL1 SU1
      obtain ⟨ra, hra⟩ : ∃ ra, Sp.fl (sm lo k) (k : Int) = ra := ⟨_, rfl⟩
      obtain ⟨rb, hrb⟩ : ∃ rb, Sp.ce (sm hi k) (k : Int) = rb := ⟨_, rfl⟩
      rw [hra] at DD
      rw [hrb] at DU
      have HRA := Lib.hid hra
      have HRB := Lib.hid hrb
      clear hra hrb
      obtain ⟨o0, o1, o2, o3, o4⟩ := Z3.out
      go_wp2_with (first | (go_at_call 118; (with_reducible refine (DD.out _).mono ?_); rintro e W1 ⟨rfl, rfl⟩) | (go_at_call 119; (with_reducible refine (DU.out _).mono ?_); rintro e W1 ⟨rfl, rfl⟩) | fail)
      refine bodyPost_ret (v := spr ((ra, rb), 0)) (by rw [results_cell_tmp rfl]; go_simp) rfl ⟨by rw [HRA.out, HRB.out], ?_⟩
      (repeat' (first | with_reducible exact hB | (with_reducible refine Below.setCell ?_ (by simp <;> omega) _)))

end Go.Proofs.Ytjigcgpcglfjfaa
