/-
  The walk of CrossOff.
-/
import Derived.Test.YtefmlcojbfiehaaCrOff0
namespace Go.Proofs.Ytefmlcojbfiehaa
open Go.ChangeShapes Go.WideShapes Go.RowKit
open Cr
def OF (w : World) (b o k : Nat) (y : Int) (q : Nat) (u v : Int) (w1 : World) : Prop := w1.cell? ⟨b, o + k * 2 + 1, none⟩ = some (.int .i64 y) ∧ w1.cell? ⟨q, 0, none⟩ = some (.int .i64 u) ∧ w1.cell? ⟨q, 1, none⟩ = some (.int .i64 v) ∧ Below w.heap.size w w1 ∧ b < w1.heap.size ∧ q < w1.heap.size
theorem of6_s {w : World} {b o k : Nat} {y : Int} {q : Nat} {u v : Int} {w1 : World} (h : OF w b o k y q u v w1) : w1.cell? ⟨b, o + k * 2 + 1, none⟩ = some (.int .i64 y) ∧ w1.cell? ⟨q, 0, none⟩ = some (.int .i64 u) ∧ w1.cell? ⟨q, 1, none⟩ = some (.int .i64 v) ∧ Below w.heap.size w w1 ∧ b < w1.heap.size ∧ q < w1.heap.size := h
theorem of6_of {w : World} {b o k : Nat} {y : Int} {q : Nat} {u v : Int} {w1 : World} (h : w1.cell? ⟨b, o + k * 2 + 1, none⟩ = some (.int .i64 y) ∧ w1.cell? ⟨q, 0, none⟩ = some (.int .i64 u) ∧ w1.cell? ⟨q, 1, none⟩ = some (.int .i64 v) ∧ Below w.heap.size w w1 ∧ b < w1.heap.size ∧ q < w1.heap.size) : OF w b o k y q u v w1 := h
theorem of6_drew {w : World} {b o k : Nat} {y : Int} {q : Nat} {u v : Int} {w1 : World} (h : OF w b o k y q u v w1) : OF w b o k y q u v w1.drew := by
  obtain ⟨h0, h1, h2, hB, b0, b1⟩ := h
  exact ⟨h0, h1, h2, Below.drew hB, b0, b1⟩
theorem of6_drewN {w : World} {b o k : Nat} {y : Int} {q : Nat} {u v : Int} {w1 : World} (h : OF w b o k y q u v w1) (kk : Nat) : OF w b o k y q u v (w1.drewN kk) := by
  obtain ⟨h0, h1, h2, hB, b0, b1⟩ := h
  exact ⟨h0, h1, h2, bdrewN hB kk, b0, b1⟩
theorem of6_bel {w : World} {b o k : Nat} {y : Int} {q : Nat} {u v : Int} {w1 : World} (h : OF w b o k y q u v w1) : Below w.heap.size w w1 := by
  obtain ⟨h0, h1, h2, hB, b0, b1⟩ := h
  exact hB
theorem of6_below {w : World} {b o k : Nat} {y : Int} {q : Nat} {u v : Int} {w1 w2 : World} (h : OF w b o k y q u v w1) (hb : Below w1.heap.size w1 w2) : OF w b o k y q u v w2 := by
  obtain ⟨h0, h1, h2, hB, b0, b1⟩ := h
  exact ⟨(hb.cell (p := ⟨b, o + k * 2 + 1, none⟩) b0).trans h0, (hb.cell (p := ⟨q, 0, none⟩) b1).trans h1, (hb.cell (p := ⟨q, 1, none⟩) b1).trans h2, bstep hB hb, Nat.lt_of_lt_of_le b0 hb.size, Nat.lt_of_lt_of_le b1 hb.size⟩
theorem offd_code {M : List (List Int)} {rows cols x : List Int} : (offd M rows cols x).2 = fcd M rows cols x := by
  unfold offd
  split
  · rename_i h; rw [h]
  · rfl
theorem fcd_p {M : List (List Int)} {rows cols x : List Int} (h : fcd M rows cols x = 0) : vcode M = 0 ∧ fitB M x = true ∧ chB M rows cols = true ∧ detR M rows cols ≠ 0 := by
  have hv : vcode M = 0 := Classical.byContradiction fun n => by rw [fcd_v n] at h; exact n h
  have hf : fitB M x = true := by
    cases e : fitB M x with
    | true => rfl
    | false => rw [fcd_f hv e] at h; cases h
  have hc : chB M rows cols = true := by
    cases e : chB M rows cols with
    | true => rfl
    | false => rw [fcd_c hv e] at h; cases h
  exact ⟨hv, hf, hc, fun d => by rw [fcd_z hv hf hc d] at h; cases h⟩
set_option maxRecDepth 100000 in
set_option maxHeartbeats 16000000 in
theorem off_walk (A : Option Addr) (c : Nat) (M : List (List Int)) (R : Option Addr) (cr : Nat) (rows : List Int) (C : Option Addr) (cc : Nat) (cols : List Int) (X : Option Addr) (cx : Nat) (x : List Int) (w : World) (lM : M.length ≤ c) (cM : c ≤ maxLen) (hM : ML w A M) (lR : rows.length ≤ cr) (cR : cr ≤ maxLen) (hR : IL w R rows) (lC : cols.length ≤ cc) (cC : cc ≤ maxLen) (hC : IL w C cols) (lX : x.length ≤ cx) (cX : cx ≤ maxLen) (hX : IL w X x) :
    Calls Try.prog 11 #[.slice A M.length c, .agg #[.slice R rows.length cr, .slice C cols.length cc, .slice X x.length cx]] w fun e w' => e = .returned (.bool true) ∧ Below w.heap.size w w' := by
  have hm0 : M.length ≤ 9223372036854775807 := by unfold maxLen at cM; omega
  have hk0 : rows.length ≤ 9223372036854775807 := by unfold maxLen at cR; omega
  have hl0 : cols.length ≤ 9223372036854775807 := by unfold maxLen at cC; omega
  have hx0 : x.length ≤ 9223372036854775807 := by unfold maxLen at cX; omega
  have LO := Lib.hid (fun W (B : Below w.heap.size w W) => long_any6 A c M W (ml_in hM B) hm0)
  have KN := Lib.hid (fun W => known6_any W)
  have X0 := Lib.hid (kw_new w R rows.length cr C cols.length cc X x.length cx)
  cases hlo : longB M with
  | true =>
    rw [hlo] at LO
    clear lM cM hM lR cR hR lC cC hC lX cX hX hlo
    go_enter Try.func11, Try.ntmps11
    go_wp2_with fail
    with_reducible refine (LO.out _ (kw_bel X0.out)).mono ?_
    rintro e w2 ⟨rfl, rfl⟩
    have HB := Lib.hid (kw_bel X0.out)
    go_wp2_with fail
    with_reducible refine (KN.out _).mono ?_
    rintro e w9 ⟨rfl, hb9⟩
    have HB9 := Lib.hid (bstep HB.out hb9)
    clear hb9
    go_wp2_with fail
    go_ret
    exact ⟨rfl, HB9.out⟩
  | false =>
    rw [hlo] at LO
    by_cases h1 : 40 < rows.length
    · have i1 : (40 : Int) < (rows.length : Int) := by omega
      obtain ⟨q0, q1, q2, _, q3⟩ := kw_s X0.out
      clear lM cM hM lR cR hR lC cC hC lX cX hX hlo h1
      go_enter Try.func11, Try.ntmps11
      go_wp2_with fail
      with_reducible refine (LO.out _ (kw_bel X0.out)).mono ?_
      rintro e w2 ⟨rfl, rfl⟩
      have HB := Lib.hid (kw_bel X0.out)
      go_wp2_with fail
      with_reducible refine (KN.out _).mono ?_
      rintro e w9 ⟨rfl, hb9⟩
      have HB9 := Lib.hid (bstep HB.out hb9)
      clear hb9
      go_wp2_with fail
      go_ret
      exact ⟨rfl, HB9.out⟩
    have i1 : ¬ (40 : Int) < (rows.length : Int) := by omega
    by_cases h2 : 40 < cols.length
    · have i2 : (40 : Int) < (cols.length : Int) := by omega
      obtain ⟨q0, q1, q2, _, q3⟩ := kw_s X0.out
      clear lM cM hM lR cR hR lC cC hC lX cX hX hlo h1 h2
      go_enter Try.func11, Try.ntmps11
      go_wp2_with fail
      with_reducible refine (LO.out _ (kw_bel X0.out)).mono ?_
      rintro e w2 ⟨rfl, rfl⟩
      have HB := Lib.hid (kw_bel X0.out)
      go_wp2_with fail
      with_reducible refine (KN.out _).mono ?_
      rintro e w9 ⟨rfl, hb9⟩
      have HB9 := Lib.hid (bstep HB.out hb9)
      clear hb9
      go_wp2_with fail
      go_ret
      exact ⟨rfl, HB9.out⟩
    have i2 : ¬ (40 : Int) < (cols.length : Int) := by omega
    by_cases h3 : 40 < x.length
    · have i3 : (40 : Int) < (x.length : Int) := by omega
      obtain ⟨q0, q1, q2, _, q3⟩ := kw_s X0.out
      clear lM cM hM lR cR hR lC cC hC lX cX hX hlo h1 h2 h3
      go_enter Try.func11, Try.ntmps11
      go_wp2_with fail
      with_reducible refine (LO.out _ (kw_bel X0.out)).mono ?_
      rintro e w2 ⟨rfl, rfl⟩
      have HB := Lib.hid (kw_bel X0.out)
      go_wp2_with fail
      with_reducible refine (KN.out _).mono ?_
      rintro e w9 ⟨rfl, hb9⟩
      have HB9 := Lib.hid (bstep HB.out hb9)
      clear hb9
      go_wp2_with fail
      go_ret
      exact ⟨rfl, HB9.out⟩
    have i3 : ¬ (40 : Int) < (x.length : Int) := by omega
    have AG := Lib.hid (show ArX w A M R C X rows cols x from ⟨arg_of hM hR hC hlo h1 h2, hX, by omega⟩)
    have ml20 : M.length ≤ 20 := (long_no hlo).1
    have P1 := Lib.hid (fun W (B : Below w.heap.size w W) => prodP_any A X c cx M x W (ml_in AG.out.arg.mat B) AG.out.arg.len AG.out.arg.wid (il_in AG.out.xI B) AG.out.nx)
    have P3 := Lib.hid (fun W (B : Below w.heap.size w W) => fast_any A R C X c cr cc cx M rows cols x W (arx_in AG.out B))
    have P5 := Lib.hid (fun W (B : Below w.heap.size w W) => off_any A R C X c cr cc cx M rows cols x W (arx_in AG.out B))
    rw [offd_code] at P5
    by_cases z : fcd M rows cols x = 0
    · obtain ⟨hv, hf, hc, dz⟩ := fcd_p z
      have ho := chs_of AG.out.arg (kcode_good hv hc)
      obtain ⟨fx, bx⟩ := fitB_of hf
      have bx' : ∀ k, k < (rw_ M 0).length → -1000 ≤ at_ x k ∧ at_ x k ≤ 1000 := fun k hk => bx k (by omega)
      rw [(pcode_0 hv hf).1, (pcode_0 hv hf).2] at P1
      rw [fL_ok z, z] at P3
      rw [z, offd_0 z] at P5
      have ROW := Lib.hid (fun k (hk : k < rows.length) => (show ∃ i : Nat, at_ rows k = (i : Int) ∧ i < M.length ∧ rat_ (fsL M rows cols x) i = (at_ (prL M x) i, 1) from by
        have u := ho.cho.ur k hk
        refine ⟨(at_ rows k).toNat, by omega, by omega, ?_⟩
        rw [fsL_at M rows cols x (by omega), prL_at M x (by omega)]
        unfold fsr
        rw [show (((at_ rows k).toNat : Nat) : Int) = at_ rows k by omega, at_chosen hk dz]
        unfold mns
        simp))
      have EL := Lib.hid (fun k (hk : k < M.length) => (show ∃ L1 L2 : Int, rat_ (fsL M rows cols x) k = (at_ (prL M x) k * L2 - L1, L2) ∧ 1 ≤ L2 ∧ L2 ≤ 1200000000000 ∧ -4320000000000000000 ≤ L1 ∧ L1 ≤ 4320000000000000000 ∧ -720000000000000000 ≤ at_ (prL M x) k * L2 ∧ at_ (prL M x) k * L2 ≤ 720000000000000000 ∧
          ∀ W, Calls Try.prog 50 #[rtv (absI L1, L2), rtv (ratq (wst M rows cols * asum x (rw_ M 0).length) (absI (detR M rows cols)))] W fun e w' => e = .returned (.bool true) ∧ Below W.heap.size W w' from by
        rw [fsL_at M rows cols x hk, prL_at M x hk]
        have lf := lft_bd ho dz (i := (k : Int)) (x := x) (by omega) bx'
        have ib := ip_bd (r := rw_ M k) (x := x) (n := (rw_ M 0).length) (fun j hj => ho.cho.sq.at hk hj) bx' ho.cho.hm (Nat.le_refl _)
        have pb := Cr.mul_bd ib.1 ib.2 (show -1200000000000 ≤ (lft M rows cols (k : Int) x).2 by omega) lf.2.2.2
        have ad : 0 < absI (detR M rows cols) := by unfold absI; split <;> omega
        have D6 := detC6 ho
        have W6 := wst6 ho
        have a2 := (absI_bd D6.1 D6.2.1).2
        have sb := asum_bd bx' (Nat.le_refl _)
        have tb := prod_bd W6.1 W6.2.1 sb.1 (show asum x (rw_ M 0).length ≤ 6000 by have := ho.cho.hm; omega)
        have rb := ratq_bd (N := 4320000000000000000) tb.1 tb.2 ad a2
        have ol := off_le (rows := rows) (cols := cols) (x := x) hk dz
        have al := absI_bd lf.1 lf.2.1
        refine ⟨(lft M rows cols (k : Int) x).1, (lft M rows cols (k : Int) x).2, rfl, lf.2.2.1, lf.2.2.2, lf.1, lf.2.1, pb.1, pb.2, fun W => atm_bigI _ _ W al.1 (by dsimp only; omega) (by dsimp only; omega) (by dsimp only; omega) rb.1 (by omega) rb.2.2.1 (by omega) ol⟩))
      have FL := Lib.hid (fsL_len M rows cols x)
      have PLN := Lib.hid (prL_len M x)
      have HR := Lib.hid hR
      have nn : (M.length : Int) ≤ 6 := by have := ho.cho.hn; omega
      have kr : (rows.length : Int) ≤ 40 := by omega
      rw [FL.out] at P3
      rw [PLN.out] at P1
      clear lM cM hM lR cR hR lC cC hC lX cX hX hlo h1 h2 h3 ml20 z hv hf hc dz ho fx bx bx'
      generalize ratq (wst M rows cols * asum x (rw_ M 0).length) (absI (detR M rows cols)) = oo at *
      obtain ⟨u, v⟩ := oo
      generalize prL M x = P at *
      generalize fsL M rows cols x = S at *
      obtain ⟨q0, q1, q2, _, q3⟩ := kw_s X0.out
      go_enter Try.func11, Try.ntmps11
      go_wp2_with fail
      with_reducible refine (LO.out _ (kw_bel X0.out)).mono ?_
      rintro e w2 ⟨rfl, rfl⟩
      go_wp2_with fail
      with_reducible refine (P1.out _ (kw_bel X0.out)).mono ?_
      rintro e w1 ⟨A1, c1, rfl, il1, hb⟩
      have I1 := Lib.hid il1
      have X1 := Lib.hid (kw_below X0.out hb)
      clear hb il1
      clear q0 q1 q2 q3
      obtain ⟨q0, q1, q2, _, q3⟩ := kw_s X1.out
      go_wp2_with fail
      with_reducible refine (P3.out _ (kw_bel X1.out)).mono ?_
      rintro e w3 ⟨A3, c3, rfl, il3, hb⟩
      have I1 := Lib.hid (il_in I1.out hb)
      have I3 := Lib.hid il3
      have X2 := Lib.hid (kw_below X1.out hb)
      clear hb il3
      clear q0 q1 q2 q3
      obtain ⟨q0, q1, q2, _, q3⟩ := kw_s X2.out
      go_wp2_with fail
      with_reducible refine (P5.out _ (kw_bel X2.out)).mono ?_
      rintro e w5 ⟨rfl, hb⟩
      have HB5 := Lib.hid (hb.trans ((alloc_below w5 (rtc (u, v))).mono hb.size))
      have Y5 := Lib.hid (rbk_new w5 (u, v))
      have I1 := Lib.hid (il_in I1.out HB5.out)
      have I3 := Lib.hid (rls_in I3.out HB5.out)
      have X5 := Lib.hid (kw_below X2.out HB5.out)
      clear hb
      clear q0 q1 q2 q3
      go_wp2_with fail
      generalize w5.alloc (rtc (u, v)) = W0 at *
      generalize w5.heap.size = q at *
      go_loopw [11] (fun kv wr => ∃ k : Nat, k ≤ M.length ∧ kv = .int .i64 k ∧ Below W0.heap.size W0 wr) (fun kv _ => M.length - (intOf kv).toNat)
      case atStart => exact ⟨0, Nat.zero_le _, rfl, Below.refl _ _⟩
      case round =>
        obtain ⟨k, hk, rfl, B⟩ := hrel
        by_cases hlt : k < M.length
        · have hk1 : (k : Int) < (M.length : Int) := by omega
          have hk0 : 0 ≤ (k : Int) := by omega
          obtain ⟨L1, L2, eS, l1, l2, l3, l4, l5, l6, AT⟩ := EL.out k hlt
          obtain ⟨b1, o1, rfl, hb1, hc1⟩ := il_in I1.out B k (by rw [PLN.out]; exact hlt)
          obtain ⟨b2, o2, rfl, hb2, he1, he2⟩ := rls_in I3.out B k (by rw [FL.out]; exact hlt)
          rw [eS] at he1 he2
          obtain ⟨y0, y1, y2⟩ := rbk_s (rbk_below Y5.out B)
          generalize at_ P k = y at *
          have hd1 : wr.cell? ⟨b2, o2 + k * 2, none⟩ = some (.int .i64 (y * L2 - L1)) := he1
          have hd2 : wr.cell? ⟨b2, o2 + k * 2 + 1, none⟩ = some (.int .i64 L2) := he2
          clear he1 he2
          have G0 := Lib.hid (show OF W0 b2 o2 k L2 q u v wr from ⟨hd2, y0, y1, B, hb2, y2⟩)
          obtain ⟨z1, hz1⟩ : ∃ z1, y * L2 - L1 = z1 := ⟨_, rfl⟩
          rw [hz1] at hd1
          have AT := Lib.hid AT
          have WX1 := Lib.hid (show IntKind.i64.wrap (y * L2) = y * L2 from IntWalk.i64_in _ (by omega))
          have WX2 := Lib.hid (show IntKind.i64.wrap (y * L2 - z1) = L1 by rw [← hz1, show y * L2 - (y * L2 - L1) = L1 by omega]; exact IntWalk.i64_in _ (by omega))
          have n1 : ¬ L2 < 1 := by omega
          clear hz1 l5 l6 eS
          go_wp2_with fail
          have WR1 := WX1.out
          have WR2 := WX2.out
          go_quiet (fail)
          clear WR1 WR2 hc1 hd1 hd2 y0 y1
          by_cases hneg : L1 < 0
          · have eA : absI L1 = -L1 := if_pos hneg
            rw [eA] at AT
            clear eA
            go_wp2_with fail
            go_region_held3 (fun w' => w'.cell? ⟨b2, o2 + k * 2 + 1, none⟩ = some (.int .i64 L2) ∧ w'.cell? ⟨q, 0, none⟩ = some (.int .i64 u) ∧ w'.cell? ⟨q, 1, none⟩ = some (.int .i64 v) ∧ Below W0.heap.size W0 w' ∧ b2 < w'.heap.size ∧ q < w'.heap.size)
              (first | with_reducible exact of6_s (of6_drew (of6_drewN G0.out _)) | with_reducible exact of6_s G1.out | fail)
              (first
                | (go_at_call 50; (with_reducible refine (AT.out _).mono ?_); rintro e w7 ⟨rfl, hb⟩; have G1 := Lib.hid (of6_below (of6_of (by assumption)) hb); clear hb)
                | fail)
            all_goals
              go_wp2_with fail
              go_roundw
              case rel => exact ⟨k + 1, by omega, by go_num, of6_bel G1.out⟩
              case measure => simp [intOf]; omega
          · have eA : absI L1 = L1 := if_neg hneg
            rw [eA] at AT
            clear eA
            go_wp2_with fail
            go_region_held3 (fun w' => w'.cell? ⟨b2, o2 + k * 2 + 1, none⟩ = some (.int .i64 L2) ∧ w'.cell? ⟨q, 0, none⟩ = some (.int .i64 u) ∧ w'.cell? ⟨q, 1, none⟩ = some (.int .i64 v) ∧ Below W0.heap.size W0 w' ∧ b2 < w'.heap.size ∧ q < w'.heap.size)
              (first | with_reducible exact of6_s (of6_drew (of6_drewN G0.out _)) | with_reducible exact of6_s G1.out | fail)
              (first
                | (go_at_call 50; (with_reducible refine (AT.out _).mono ?_); rintro e w7 ⟨rfl, hb⟩; have G1 := Lib.hid (of6_below (of6_of (by assumption)) hb); clear hb)
                | fail)
            all_goals
              go_wp2_with fail
              go_roundw
              case rel => exact ⟨k + 1, by omega, by go_num, of6_bel G1.out⟩
              case measure => simp [intOf]; omega
        · obtain rfl : k = M.length := by omega
          have X6 := Lib.hid (kw_below X5.out B)
          have I1 := Lib.hid (il_in I1.out B)
          have I3 := Lib.hid (rls_in I3.out B)
          clear B EL
          go_wp2_with fail
          go_loopw [13] (fun kv ws => ∃ k : Nat, k ≤ rows.length ∧ kv = .int .i64 k ∧ Below wr.heap.size wr ws) (fun kv _ => rows.length - (intOf kv).toNat)
          case atStart => exact ⟨0, Nat.zero_le _, rfl, Below.refl _ _⟩
          case round =>
            obtain ⟨k, hk, rfl, B⟩ := hrel
            have X7 := Lib.hid (kw_below X6.out B)
            obtain ⟨q0, q1, q2, _, q3⟩ := kw_s X7.out
            by_cases hlt : k < rows.length
            · have hk1 : (k : Int) < (rows.length : Int) := by omega
              have hk0 : 0 ≤ (k : Int) := by omega
              obtain ⟨i, ei, hi, eS⟩ := ROW.out k hlt
              obtain ⟨br, or, rfl, hbr, hcr⟩ := il_in HR.out (kw_bel X7.out) k hlt
              rw [ei] at hcr
              obtain ⟨b1, o1, rfl, hb1, hc1⟩ := il_in I1.out B i (by rw [PLN.out]; exact hi)
              obtain ⟨b2, o2, rfl, hb2, he1, he2⟩ := rls_in I3.out B i (by rw [FL.out]; exact hi)
              rw [eS] at he1 he2
              generalize at_ P i = y at *
              have hd2 : wr.cell? ⟨b2, o2 + i * 2 + 1, none⟩ = some (.int .i64 1) := he2
              have hd1 : wr.cell? ⟨b2, o2 + i * 2, none⟩ = some (.int .i64 y) := he1
              have hi1 : (i : Int) < (M.length : Int) := by omega
              have hi0 : 0 ≤ (i : Int) := by omega
              have n1 : decide ((i : Int) < 0) = false := by simp
              have n2 : decide ((M.length : Int) ≤ (i : Int)) = false := by simp; omega
              have HB := Lib.hid B
              clear he1 he2 eS ei B
              go_wp2_with fail
              go_quiet (fail)
              go_wp2_with fail
              go_roundw
              case rel => exact ⟨k + 1, by omega, by go_num, bdrewN HB.out _⟩
              case measure => simp [intOf]; omega
            · obtain rfl : k = rows.length := by omega
              have HB := Lib.hid (kw_bel X7.out)
              clear B
              go_wp2_with fail
              with_reducible refine (KN.out _).mono ?_
              rintro e w9 ⟨rfl, hb9⟩
              have HB9 := Lib.hid (bstep HB.out hb9)
              clear hb9
              go_wp2_with fail
              go_ret
              exact ⟨rfl, HB9.out⟩
    · have t1 : (fcd M rows cols x != 0) = true := by simp [z]
      have t2 : (fcd M rows cols x == 0) = false := by simp [z]
      clear lM cM hM lR cR hR lC cC hC lX cX hX hlo h1 h2 h3 ml20 z
      generalize fL M rows cols x = fl at *
      generalize pL M x = pl at *
      generalize fcd M rows cols x = fc at *
      generalize pcode M x = pc at *
      generalize (offd M rows cols x).1 = od at *
      obtain ⟨o1, o2⟩ := od
      by_cases z2 : pc = 0
      · subst z2
        obtain ⟨q0, q1, q2, _, q3⟩ := kw_s X0.out
        go_enter Try.func11, Try.ntmps11
        go_wp2_with fail
        with_reducible refine (LO.out _ (kw_bel X0.out)).mono ?_
        rintro e w2 ⟨rfl, rfl⟩
        go_wp2_with fail
        with_reducible refine (P1.out _ (kw_bel X0.out)).mono ?_
        rintro e w1 ⟨A1, c1, rfl, il1, hb⟩
        have X1 := Lib.hid (kw_below X0.out hb)
        clear hb il1
        clear q0 q1 q2 q3
        obtain ⟨q0, q1, q2, _, q3⟩ := kw_s X1.out
        go_wp2_with fail
        with_reducible refine (P3.out _ (kw_bel X1.out)).mono ?_
        rintro e w3 ⟨A3, c3, rfl, il3, hb⟩
        have X2 := Lib.hid (kw_below X1.out hb)
        clear hb il3
        clear q0 q1 q2 q3
        obtain ⟨q0, q1, q2, _, q3⟩ := kw_s X2.out
        go_wp2_with fail
        with_reducible refine (P5.out _ (kw_bel X2.out)).mono ?_
        rintro e w5 ⟨rfl, hb⟩
        have HB := Lib.hid (balloc (bstep (kw_bel X2.out) hb) (rtc (o1, o2)))
        clear hb
        clear q0 q1 q2 q3
        go_wp2_with fail
        with_reducible refine (KN.out _).mono ?_
        rintro e w9 ⟨rfl, hb9⟩
        have HB9 := Lib.hid (bstep HB.out hb9)
        clear hb9
        go_wp2_with fail
        go_ret
        exact ⟨rfl, HB9.out⟩
      · have t3 : (pc != 0) = true := by simp [z2]
        have t4 : (pc == 0) = false := by simp [z2]
        clear z2
        obtain ⟨q0, q1, q2, _, q3⟩ := kw_s X0.out
        go_enter Try.func11, Try.ntmps11
        go_wp2_with fail
        with_reducible refine (LO.out _ (kw_bel X0.out)).mono ?_
        rintro e w2 ⟨rfl, rfl⟩
        go_wp2_with fail
        with_reducible refine (P1.out _ (kw_bel X0.out)).mono ?_
        rintro e w1 ⟨A1, c1, rfl, il1, hb⟩
        have X1 := Lib.hid (kw_below X0.out hb)
        clear hb il1
        clear q0 q1 q2 q3
        obtain ⟨q0, q1, q2, _, q3⟩ := kw_s X1.out
        go_wp2_with fail
        with_reducible refine (P3.out _ (kw_bel X1.out)).mono ?_
        rintro e w3 ⟨A3, c3, rfl, il3, hb⟩
        have X2 := Lib.hid (kw_below X1.out hb)
        clear hb il3
        clear q0 q1 q2 q3
        obtain ⟨q0, q1, q2, _, q3⟩ := kw_s X2.out
        go_wp2_with fail
        with_reducible refine (P5.out _ (kw_bel X2.out)).mono ?_
        rintro e w5 ⟨rfl, hb⟩
        have HB := Lib.hid (balloc (bstep (kw_bel X2.out) hb) (rtc (o1, o2)))
        clear hb
        clear q0 q1 q2 q3
        go_wp2_with fail
        with_reducible refine (KN.out _).mono ?_
        rintro e w9 ⟨rfl, hb9⟩
        have HB9 := Lib.hid (bstep HB.out hb9)
        clear hb9
        go_wp2_with fail
        go_ret
        exact ⟨rfl, HB9.out⟩

end Go.Proofs.Ytefmlcojbfiehaa
