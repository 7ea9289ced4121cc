/-
  The contract of SameRats at equal lists; the walk of CrossProducts.
-/
import Derived.Test.YtefmlcojbfiehaaCrP6
namespace Go.Proofs.Ytefmlcojbfiehaa
open Go.ChangeShapes Go.WideShapes Go.RowKit
open Cr
set_option maxHeartbeats 1000000 in
theorem same_rats (A B : Option Addr) (c d : Nat) (l : List (Int × Int)) (w : World) (hA : RLs w A l) (hB : RLs w B l) (hn : l.length ≤ 1000) : Calls Try.prog 37 #[.slice A l.length c, .slice B l.length d] w fun e w' => e = .returned (.bool true) ∧ Below w.heap.size w w' := by
  have HA := Lib.hid hA
  have HB := Lib.hid hB
  obtain ⟨n, hnn⟩ : ∃ n, l.length = n := ⟨_, rfl⟩
  rw [hnn] at hn ⊢
  have NN := Lib.hid hnn
  have hn' : (n : Int) ≤ 1000 := by omega
  clear hA hB hnn
  go_enter Try.func37, Try.ntmps37
  go_wp2
  go_loopw [5] (fun kv wr => ∃ k : Nat, k ≤ n ∧ kv = .int .i64 k ∧ Below w.heap.size w wr) (fun kv _ => n - (intOf kv).toNat)
  case atStart => exact ⟨0, Nat.zero_le _, rfl, Below.refl _ _⟩
  case round =>
    obtain ⟨k, hk, rfl, Bw⟩ := hrel
    by_cases hlt : k < n
    · have hk1 : (k : Int) < (n : Int) := by omega
      have hk0 : 0 ≤ (k : Int) := by omega
      obtain ⟨b1, o1, rfl, hb1, hc1, hd1⟩ := rls_in HA.out Bw k (by rw [NN.out]; exact hlt)
      obtain ⟨b2, o2, rfl, hb2, hc2, hd2⟩ := rls_in HB.out Bw k (by rw [NN.out]; exact hlt)
      have BW := Lib.hid Bw
      generalize (rat_ l k).1 = y at *
      generalize (rat_ l k).2 = z at *
      clear Bw
      go_wp2_with fail
      go_quiet (fail)
      go_wp2_with fail
      go_roundw
      case rel => exact ⟨k + 1, by omega, by go_num, bdrewN BW.out _⟩
      case measure => simp [intOf]; omega
    · obtain rfl : k = n := by omega
      go_wp2
      go_ret
      exact ⟨rfl, Bw⟩
theorem prL_sm (M : List (List Int)) (x : List Int) (h : M.length ≤ 20) : (pL M x).length ≤ 1000 := by
  unfold pL; split
  · rw [prL_len]; omega
  · simp
theorem fL_sm (M : List (List Int)) (rows cols x : List Int) (h : M.length ≤ 20) : (fL M rows cols x).length ≤ 1000 := by
  unfold fL; split
  · rw [fsL_len]; omega
  · simp
def KW (w : World) (R : Option Addr) (k cr : Nat) (C : Option Addr) (l cc : Nat) (X : Option Addr) (m cx : Nat) (w1 : World) : Prop := w1.cell? ⟨w.heap.size, 0, none⟩ = some (.slice R k cr) ∧ w1.cell? ⟨w.heap.size, 1, none⟩ = some (.slice C l cc) ∧ w1.cell? ⟨w.heap.size, 2, none⟩ = some (.slice X m cx) ∧ Below w.heap.size w w1 ∧ w.heap.size < w1.heap.size
theorem kw_s {w : World} {R : Option Addr} {k cr : Nat} {C : Option Addr} {l cc : Nat} {X : Option Addr} {m cx : Nat} {w1 : World} (h : KW w R k cr C l cc X m cx w1) : w1.cell? ⟨w.heap.size, 0, none⟩ = some (.slice R k cr) ∧ w1.cell? ⟨w.heap.size, 1, none⟩ = some (.slice C l cc) ∧ w1.cell? ⟨w.heap.size, 2, none⟩ = some (.slice X m cx) ∧ Below w.heap.size w w1 ∧ w.heap.size < w1.heap.size := h
theorem kw_of {w : World} {R : Option Addr} {k cr : Nat} {C : Option Addr} {l cc : Nat} {X : Option Addr} {m cx : Nat} {w1 : World} (h : w1.cell? ⟨w.heap.size, 0, none⟩ = some (.slice R k cr) ∧ w1.cell? ⟨w.heap.size, 1, none⟩ = some (.slice C l cc) ∧ w1.cell? ⟨w.heap.size, 2, none⟩ = some (.slice X m cx) ∧ Below w.heap.size w w1 ∧ w.heap.size < w1.heap.size) : KW w R k cr C l cc X m cx w1 := h
theorem kw_drew {w : World} {R : Option Addr} {k cr : Nat} {C : Option Addr} {l cc : Nat} {X : Option Addr} {m cx : Nat} {w1 : World} (h : KW w R k cr C l cc X m cx w1) : KW w R k cr C l cc X m cx w1.drew := by
  obtain ⟨h0, h1, h2, hB, b0⟩ := h
  exact ⟨h0, h1, h2, Below.drew hB, b0⟩
theorem kw_drewN {w : World} {R : Option Addr} {k cr : Nat} {C : Option Addr} {l cc : Nat} {X : Option Addr} {m cx : Nat} {w1 : World} (h : KW w R k cr C l cc X m cx w1) (kk : Nat) : KW w R k cr C l cc X m cx (w1.drewN kk) := by
  obtain ⟨h0, h1, h2, hB, b0⟩ := h
  exact ⟨h0, h1, h2, bdrewN hB kk, b0⟩
theorem kw_bel {w : World} {R : Option Addr} {k cr : Nat} {C : Option Addr} {l cc : Nat} {X : Option Addr} {m cx : Nat} {w1 : World} (h : KW w R k cr C l cc X m cx w1) : Below w.heap.size w w1 := by
  obtain ⟨h0, h1, h2, hB, b0⟩ := h
  exact hB
theorem kw_below {w : World} {R : Option Addr} {k cr : Nat} {C : Option Addr} {l cc : Nat} {X : Option Addr} {m cx : Nat} {w1 w2 : World} (h : KW w R k cr C l cc X m cx w1) (hb : Below w1.heap.size w1 w2) : KW w R k cr C l cc X m cx w2 := by
  obtain ⟨h0, h1, h2, hB, b0⟩ := h
  exact ⟨(hb.cell (p := ⟨w.heap.size, 0, none⟩) b0).trans h0, (hb.cell (p := ⟨w.heap.size, 1, none⟩) b0).trans h1, (hb.cell (p := ⟨w.heap.size, 2, none⟩) b0).trans h2, bstep hB hb, Nat.lt_of_lt_of_le b0 hb.size⟩
theorem kw_new (w : World) (R : Option Addr) (k cr : Nat) (C : Option Addr) (l cc : Nat) (X : Option Addr) (m cx : Nat) : KW w R k cr C l cc X m cx (w.alloc (.cells #[.slice R k cr, .slice C l cc, .slice X m cx] 62)) := ⟨by go_simp, by go_simp, by go_simp, balloc (Below.refl _ _) _, by simp⟩
set_option maxRecDepth 100000 in
set_option maxHeartbeats 8000000 in
theorem products_walk (A : Option Addr) (c : Nat) (M : List (List Int)) (R : Option Addr) (cr : Nat) (rows : List Int) (C : Option Addr) (cc : Nat) (cols : List Int) (X : Option Addr) (cx : Nat) (x : List Int) (w : World) (lM : M.length ≤ c) (cM : c ≤ maxLen) (hM : ML w A M) (lR : rows.length ≤ cr) (cR : cr ≤ maxLen) (hR : IL w R rows) (lC : cols.length ≤ cc) (cC : cc ≤ maxLen) (hC : IL w C cols) (lX : x.length ≤ cx) (cX : cx ≤ maxLen) (hX : IL w X x) :
    Calls Try.prog 10 #[.slice A M.length c, .agg #[.slice R rows.length cr, .slice C cols.length cc, .slice X x.length cx]] w fun e w' => e = .returned (.bool true) ∧ Below w.heap.size w w' := by
  have hm0 : M.length ≤ 9223372036854775807 := by unfold maxLen at cM; omega
  have hk0 : rows.length ≤ 9223372036854775807 := by unfold maxLen at cR; omega
  have hl0 : cols.length ≤ 9223372036854775807 := by unfold maxLen at cC; omega
  have hx0 : x.length ≤ 9223372036854775807 := by unfold maxLen at cX; omega
  have LO := Lib.hid (fun W (B : Below w.heap.size w W) => long_any6 A c M W (ml_in hM B) hm0)
  have KN := Lib.hid (fun W => known6_any W)
  have X0 := Lib.hid (kw_new w R rows.length cr C cols.length cc X x.length cx)
  cases hlo : longB M with
  | true =>
    rw [hlo] at LO
    clear lM cM hM lR cR hR lC cC hC lX cX hX hlo
    go_enter Try.func10, Try.ntmps10
    go_wp2_with fail
    with_reducible refine (LO.out _ (kw_bel X0.out)).mono ?_
    rintro e w2 ⟨rfl, rfl⟩
    have HB := Lib.hid (kw_bel X0.out)
    go_wp2_with fail
    with_reducible refine (KN.out _).mono ?_
    rintro e w9 ⟨rfl, hb9⟩
    have HB9 := Lib.hid (bstep HB.out hb9)
    clear hb9
    go_wp2_with fail
    go_ret
    exact ⟨rfl, HB9.out⟩
  | false =>
    rw [hlo] at LO
    by_cases h1 : 40 < rows.length
    · have i1 : (40 : Int) < (rows.length : Int) := by omega
      obtain ⟨q0, q1, q2, _, q3⟩ := kw_s X0.out
      clear lM cM hM lR cR hR lC cC hC lX cX hX hlo h1
      go_enter Try.func10, Try.ntmps10
      go_wp2_with fail
      with_reducible refine (LO.out _ (kw_bel X0.out)).mono ?_
      rintro e w2 ⟨rfl, rfl⟩
      have HB := Lib.hid (kw_bel X0.out)
      go_wp2_with fail
      with_reducible refine (KN.out _).mono ?_
      rintro e w9 ⟨rfl, hb9⟩
      have HB9 := Lib.hid (bstep HB.out hb9)
      clear hb9
      go_wp2_with fail
      go_ret
      exact ⟨rfl, HB9.out⟩
    have i1 : ¬ (40 : Int) < (rows.length : Int) := by omega
    by_cases h2 : 40 < cols.length
    · have i2 : (40 : Int) < (cols.length : Int) := by omega
      obtain ⟨q0, q1, q2, _, q3⟩ := kw_s X0.out
      clear lM cM hM lR cR hR lC cC hC lX cX hX hlo h1 h2
      go_enter Try.func10, Try.ntmps10
      go_wp2_with fail
      with_reducible refine (LO.out _ (kw_bel X0.out)).mono ?_
      rintro e w2 ⟨rfl, rfl⟩
      have HB := Lib.hid (kw_bel X0.out)
      go_wp2_with fail
      with_reducible refine (KN.out _).mono ?_
      rintro e w9 ⟨rfl, hb9⟩
      have HB9 := Lib.hid (bstep HB.out hb9)
      clear hb9
      go_wp2_with fail
      go_ret
      exact ⟨rfl, HB9.out⟩
    have i2 : ¬ (40 : Int) < (cols.length : Int) := by omega
    by_cases h3 : 40 < x.length
    · have i3 : (40 : Int) < (x.length : Int) := by omega
      obtain ⟨q0, q1, q2, _, q3⟩ := kw_s X0.out
      clear lM cM hM lR cR hR lC cC hC lX cX hX hlo h1 h2 h3
      go_enter Try.func10, Try.ntmps10
      go_wp2_with fail
      with_reducible refine (LO.out _ (kw_bel X0.out)).mono ?_
      rintro e w2 ⟨rfl, rfl⟩
      have HB := Lib.hid (kw_bel X0.out)
      go_wp2_with fail
      with_reducible refine (KN.out _).mono ?_
      rintro e w9 ⟨rfl, hb9⟩
      have HB9 := Lib.hid (bstep HB.out hb9)
      clear hb9
      go_wp2_with fail
      go_ret
      exact ⟨rfl, HB9.out⟩
    have i3 : ¬ (40 : Int) < (x.length : Int) := by omega
    have AG := Lib.hid (show ArX w A M R C X rows cols x from ⟨arg_of hM hR hC hlo h1 h2, hX, by omega⟩)
    have ml20 : M.length ≤ 20 := (long_no hlo).1
    have P1 := Lib.hid (fun W (B : Below w.heap.size w W) => prodP_any A X c cx M x W (ml_in AG.out.arg.mat B) AG.out.arg.len AG.out.arg.wid (il_in AG.out.xI B) AG.out.nx)
    have P2 := Lib.hid (fun W (B : Below w.heap.size w W) => rprod_any A X c cx M x W (ml_in AG.out.arg.mat B) AG.out.arg.len AG.out.arg.wid (il_in AG.out.xI B) AG.out.nx)
    have P3 := Lib.hid (fun W (B : Below w.heap.size w W) => fast_any A R C X c cr cc cx M rows cols x W (arx_in AG.out B))
    have P4 := Lib.hid (fun W (B : Below w.heap.size w W) => rfast_any A R C X c cr cc cx M rows cols x W (arx_in AG.out B) lR lC)
    have P5 := Lib.hid (fun W (B : Below w.heap.size w W) => off_any A R C X c cr cc cx M rows cols x W (arx_in AG.out B))
    have P6 := Lib.hid (fun W (B : Below w.heap.size w W) => roff_any A R C X c cr cc cx M rows cols x W (arx_in AG.out B) lR lC)
    have S1 := Lib.hid (fun A' B' c' d' W (a : IL W A' (pL M x)) (b : IL W B' (pL M x)) => same_ints A' B' c' d' (pL M x) W a b (prL_sm M x ml20))
    have S2 := Lib.hid (fun A' B' c' d' W (a : RLs W A' (fL M rows cols x)) (b : RLs W B' (fL M rows cols x)) => same_rats A' B' c' d' (fL M rows cols x) W a b (fL_sm M rows cols x ml20))
    clear lM cM hM lR cR hR lC cC hC lX cX hX hlo h1 h2 h3 ml20
    generalize pL M x = pl at *
    generalize fL M rows cols x = fl at *
    generalize pcode M x = pc at *
    generalize fcd M rows cols x = fc at *
    generalize (offd M rows cols x).2 = oc at *
    generalize (offd M rows cols x).1 = od at *
    obtain ⟨o1, o2⟩ := od
    obtain ⟨q0, q1, q2, _, q3⟩ := kw_s X0.out
    go_enter Try.func10, Try.ntmps10
    go_wp2_with fail
    with_reducible refine (LO.out _ (kw_bel X0.out)).mono ?_
    rintro e w2 ⟨rfl, rfl⟩
    go_wp2_with fail
    with_reducible refine (P1.out _ (kw_bel X0.out)).mono ?_
    rintro e w1 ⟨A1, c1, rfl, il1, hb⟩
    have I1 := Lib.hid il1
    have X1 := Lib.hid (kw_below X0.out hb)
    clear hb il1
    clear q0 q1 q2 q3
    obtain ⟨q0, q1, q2, _, q3⟩ := kw_s X1.out
    go_wp2_with fail
    with_reducible refine (P2.out _ (kw_bel X1.out)).mono ?_
    rintro e w2 ⟨A2, c2, rfl, il2, hb⟩
    have I1 := Lib.hid (il_in I1.out hb)
    have I2 := Lib.hid il2
    have X2 := Lib.hid (kw_below X1.out hb)
    clear hb il2
    clear q0 q1 q2 q3
    obtain ⟨q0, q1, q2, _, q3⟩ := kw_s X2.out
    go_wp2_with fail
    with_reducible refine (P3.out _ (kw_bel X2.out)).mono ?_
    rintro e w3 ⟨A3, c3, rfl, il3, hb⟩
    have I1 := Lib.hid (il_in I1.out hb)
    have I2 := Lib.hid (il_in I2.out hb)
    have I3 := Lib.hid il3
    have X3 := Lib.hid (kw_below X2.out hb)
    clear hb il3
    clear q0 q1 q2 q3
    obtain ⟨q0, q1, q2, _, q3⟩ := kw_s X3.out
    go_wp2_with fail
    with_reducible refine (P4.out _ (kw_bel X3.out)).mono ?_
    rintro e w4 ⟨A4, c4, rfl, il4, hb⟩
    have I1 := Lib.hid (il_in I1.out hb)
    have I2 := Lib.hid (il_in I2.out hb)
    have I3 := Lib.hid (rls_in I3.out hb)
    have I4 := Lib.hid il4
    have X4 := Lib.hid (kw_below X3.out hb)
    clear hb il4
    clear q0 q1 q2 q3
    obtain ⟨q0, q1, q2, _, q3⟩ := kw_s X4.out
    go_wp2_with fail
    with_reducible refine (P5.out _ (kw_bel X4.out)).mono ?_
    rintro e w5 ⟨rfl, hb⟩
    have HB5 := Lib.hid (hb.trans ((alloc_below w5 (rtc (o1, o2))).mono hb.size))
    have Y5 := Lib.hid (rbk_new w5 (o1, o2))
    have I1 := Lib.hid (il_in I1.out HB5.out)
    have I2 := Lib.hid (il_in I2.out HB5.out)
    have I3 := Lib.hid (rls_in I3.out HB5.out)
    have I4 := Lib.hid (rls_in I4.out HB5.out)
    have X5 := Lib.hid (kw_below X4.out HB5.out)
    clear hb
    clear q0 q1 q2 q3
    obtain ⟨q0, q1, q2, _, q3⟩ := kw_s X5.out
    go_wp2_with fail
    with_reducible refine (P6.out _ (kw_bel X5.out)).mono ?_
    rintro e w6 ⟨rfl, hb⟩
    have HB6 := Lib.hid (hb.trans ((alloc_below w6 (rtc (o1, o2))).mono hb.size))
    have Y6 := Lib.hid (rbk_new w6 (o1, o2))
    have Y5 := Lib.hid (rbk_below Y5.out HB6.out)
    have I1 := Lib.hid (il_in I1.out HB6.out)
    have I2 := Lib.hid (il_in I2.out HB6.out)
    have I3 := Lib.hid (rls_in I3.out HB6.out)
    have I4 := Lib.hid (rls_in I4.out HB6.out)
    have X6 := Lib.hid (kw_below X5.out HB6.out)
    clear hb
    clear q0 q1 q2 q3
    go_wp2_with fail
    with_reducible refine (S1.out A1 A2 c1 c2 _ I1.out I2.out).mono ?_
    rintro e w7 ⟨rfl, hb⟩
    have Y6 := Lib.hid (rbk_below Y6.out hb)
    have Y5 := Lib.hid (rbk_below Y5.out hb)
    have I3 := Lib.hid (rls_in I3.out hb)
    have I4 := Lib.hid (rls_in I4.out hb)
    have X7 := Lib.hid (kw_below X6.out hb)
    clear hb
    go_wp2_with fail
    with_reducible refine (S2.out A3 A4 c3 c4 _ I3.out I4.out).mono ?_
    rintro e w8 ⟨rfl, hb⟩
    have Y6 := Lib.hid (rbk_below Y6.out hb)
    have Y5 := Lib.hid (rbk_below Y5.out hb)
    have X8 := Lib.hid (kw_below X7.out hb)
    clear hb
    have HB := Lib.hid (kw_bel X8.out)
    obtain ⟨y0, y1, y2⟩ := rbk_s Y5.out
    obtain ⟨z0, z1, z2⟩ := rbk_s Y6.out
    go_wp2_with fail
    with_reducible refine (KN.out _).mono ?_
    rintro e w9 ⟨rfl, hb9⟩
    have HB9 := Lib.hid (bstep HB.out hb9)
    clear hb9
    go_wp2_with fail
    go_ret
    exact ⟨rfl, HB9.out⟩

end Go.Proofs.Ytefmlcojbfiehaa
