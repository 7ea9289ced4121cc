/-
  The contracts of worst and Worst, in the program and in the document's answer.
-/
import Derived.Test.YtllonfaogbdbnaaCr24
namespace Go.Proofs.Ytllonfaogbdbnaa
open Go.ChangeShapes Go.WideShapes Go.RowKit
open Cr
def WS (w : World) (A : Option Addr) (n c : Nat) (R : Option Addr) (K cr : Nat) (C : Option Addr) (K' cc : Nat) (d : Int) (w1 : World) : Prop := w1.cell? ⟨w.heap.size, 0, none⟩ = some (.slice A n c) ∧ w1.cell? ⟨w.heap.size, 1, none⟩ = some (.slice R K cr) ∧ w1.cell? ⟨w.heap.size, 2, none⟩ = some (.slice C K' cc) ∧ w1.cell? ⟨w.heap.size, 3, none⟩ = some (.int .i64 d) ∧ w1.cell? ⟨(w.heap.size + 1), 0, none⟩ = some (.int .i64 0) ∧ w1.cell? ⟨(w.heap.size + 1), 1, none⟩ = some (.int .i64 0) ∧ w1.frozen? ⟨(w.heap.size + 1), 0, none⟩ = false ∧ w1.frozen? ⟨(w.heap.size + 1), 1, none⟩ = false ∧ Below w.heap.size w w1 ∧ w.heap.size < w1.heap.size ∧ (w.heap.size + 1) < w1.heap.size
theorem ws5_s {w : World} {A : Option Addr} {n c : Nat} {R : Option Addr} {K cr : Nat} {C : Option Addr} {K' cc : Nat} {d : Int} {w1 : World} (h : WS w A n c R K cr C K' cc d w1) : w1.cell? ⟨w.heap.size, 0, none⟩ = some (.slice A n c) ∧ w1.cell? ⟨w.heap.size, 1, none⟩ = some (.slice R K cr) ∧ w1.cell? ⟨w.heap.size, 2, none⟩ = some (.slice C K' cc) ∧ w1.cell? ⟨w.heap.size, 3, none⟩ = some (.int .i64 d) ∧ w1.cell? ⟨(w.heap.size + 1), 0, none⟩ = some (.int .i64 0) ∧ w1.cell? ⟨(w.heap.size + 1), 1, none⟩ = some (.int .i64 0) ∧ w1.frozen? ⟨(w.heap.size + 1), 0, none⟩ = false ∧ w1.frozen? ⟨(w.heap.size + 1), 1, none⟩ = false ∧ Below w.heap.size w w1 ∧ w.heap.size < w1.heap.size ∧ (w.heap.size + 1) < w1.heap.size := h
theorem ws5_of {w : World} {A : Option Addr} {n c : Nat} {R : Option Addr} {K cr : Nat} {C : Option Addr} {K' cc : Nat} {d : Int} {w1 : World} (h : w1.cell? ⟨w.heap.size, 0, none⟩ = some (.slice A n c) ∧ w1.cell? ⟨w.heap.size, 1, none⟩ = some (.slice R K cr) ∧ w1.cell? ⟨w.heap.size, 2, none⟩ = some (.slice C K' cc) ∧ w1.cell? ⟨w.heap.size, 3, none⟩ = some (.int .i64 d) ∧ w1.cell? ⟨(w.heap.size + 1), 0, none⟩ = some (.int .i64 0) ∧ w1.cell? ⟨(w.heap.size + 1), 1, none⟩ = some (.int .i64 0) ∧ w1.frozen? ⟨(w.heap.size + 1), 0, none⟩ = false ∧ w1.frozen? ⟨(w.heap.size + 1), 1, none⟩ = false ∧ Below w.heap.size w w1 ∧ w.heap.size < w1.heap.size ∧ (w.heap.size + 1) < w1.heap.size) : WS w A n c R K cr C K' cc d w1 := h
theorem ws5_drew {w : World} {A : Option Addr} {n c : Nat} {R : Option Addr} {K cr : Nat} {C : Option Addr} {K' cc : Nat} {d : Int} {w1 : World} (h : WS w A n c R K cr C K' cc d w1) : WS w A n c R K cr C K' cc d w1.drew := by
  obtain ⟨h0, h1, h2, h3, h4, h5, h6, h7, hB, b0, b1⟩ := h
  exact ⟨h0, h1, h2, h3, h4, h5, h6, h7, Below.drew hB, b0, b1⟩
theorem ws5_drewN {w : World} {A : Option Addr} {n c : Nat} {R : Option Addr} {K cr : Nat} {C : Option Addr} {K' cc : Nat} {d : Int} {w1 : World} (h : WS w A n c R K cr C K' cc d w1) (k : Nat) : WS w A n c R K cr C K' cc d (w1.drewN k) := by
  obtain ⟨h0, h1, h2, h3, h4, h5, h6, h7, hB, b0, b1⟩ := h
  exact ⟨h0, h1, h2, h3, h4, h5, h6, h7, bdrewN hB k, b0, b1⟩
theorem ws5_bel {w : World} {A : Option Addr} {n c : Nat} {R : Option Addr} {K cr : Nat} {C : Option Addr} {K' cc : Nat} {d : Int} {w1 : World} (h : WS w A n c R K cr C K' cc d w1) : Below w.heap.size w w1 := by
  obtain ⟨h0, h1, h2, h3, h4, h5, h6, h7, hB, b0, b1⟩ := h
  exact hB
theorem ws5_below {w : World} {A : Option Addr} {n c : Nat} {R : Option Addr} {K cr : Nat} {C : Option Addr} {K' cc : Nat} {d : Int} {w1 w2 : World} (h : WS w A n c R K cr C K' cc d w1) (hb : Below w1.heap.size w1 w2) : WS w A n c R K cr C K' cc d w2 := by
  obtain ⟨h0, h1, h2, h3, h4, h5, h6, h7, hB, b0, b1⟩ := h
  exact ⟨(hb.cell (p := ⟨w.heap.size, 0, none⟩) b0).trans h0, (hb.cell (p := ⟨w.heap.size, 1, none⟩) b0).trans h1, (hb.cell (p := ⟨w.heap.size, 2, none⟩) b0).trans h2, (hb.cell (p := ⟨w.heap.size, 3, none⟩) b0).trans h3, (hb.cell (p := ⟨(w.heap.size + 1), 0, none⟩) b1).trans h4, (hb.cell (p := ⟨(w.heap.size + 1), 1, none⟩) b1).trans h5, (hb.frozen (p := ⟨(w.heap.size + 1), 0, none⟩) b1).trans h6, (hb.frozen (p := ⟨(w.heap.size + 1), 1, none⟩) b1).trans h7, bstep hB hb, Nat.lt_of_lt_of_le b0 hb.size, Nat.lt_of_lt_of_le b1 hb.size⟩
theorem ws5_new (w : World) (A : Option Addr) (n c : Nat) (R : Option Addr) (K cr : Nat) (C : Option Addr) (K' cc : Nat) (d : Int) : WS w A n c R K cr C K' cc d ((w.alloc (chb A n c R K cr C K' cc d)).alloc (rtc (0, 0))) :=
  ⟨by go_simp, by go_simp, by go_simp, by go_simp, by go_simp, by go_simp, by go_simp, by go_simp, balloc (balloc (Below.refl _ _) _) _, by simp <;> omega, by simp⟩
set_option maxHeartbeats 2000000 in
theorem worst_any (A R C : Option Addr) (c cr cc : Nat) (M : List (List Int)) (rows cols : List Int) (w : World) (h : ChS w A M.length (rw_ M 0).length M R C rows.length rows cols) (dz : detR M rows cols ≠ 0) :
    Calls Try.prog 51 #[chv A M.length c R rows.length cr C rows.length cc (detR M rows cols)] w fun e w' => e = .returned (rtv (ratq (wst M rows cols) (absI (detR M rows cols)))) ∧ Below w.heap.size w w' := by
  have W6 := wst6 h
  have D6 := detC6 h
  have HC := Lib.hid h.cho
  have HS := Lib.hid h
  have n1 := h.cho.hn
  have m1 := h.cho.hm
  have S0 := Lib.hid (ws5_new w A M.length c R rows.length cr C rows.length cc (detR M rows cols))
  have BO := Lib.hid (fun W (B : Below w.heap.size w W) (i j : Nat) (hi : i < M.length) (hj : j < (rw_ M 0).length) => bord_any A R C c cr cc M.length (rw_ M 0).length rows.length (detR M rows cols) M rows cols (i : Int) (j : Int) W (cho_in HC.out B) (by omega) (by omega))
  have BB := Lib.hid (fun (i j : Nat) (hi : i < M.length) (hj : j < (rw_ M 0).length) => bord6 HS.out (i := (i : Int)) (j := (j : Int)) (by omega) (by omega))
  have AB := Lib.hid (fun (x : Int) (h1 : -720000000000000 ≤ x) (h2 : x ≤ 720000000000000) W => absC_any x W (by omega) (by omega))
  have ad : absI (detR M rows cols) ≠ 0 := by unfold absI; split <;> omega
  obtain ⟨a1, a2⟩ := absI_bd D6.1 D6.2.1
  have QU := Lib.hid (fun W => quo_any (wst M rows cols) (absI (detR M rows cols)) W ad (by omega) (by omega) (by omega) (by omega))
  obtain ⟨rr, hrr⟩ : ∃ rr, ratq (wst M rows cols) (absI (detR M rows cols)) = rr := ⟨_, rfl⟩
  rw [hrr] at QU ⊢
  clear hrr
  have nn1 : (M.length : Int) ≤ 6 := by omega
  have mm1 : ((rw_ M 0).length : Int) ≤ 6 := by omega
  have RL := Lib.hid (fun i (hi : i < M.length) => (rw_len HC.out.sq hi : (rw_ M i).length = (rw_ M 0).length))
  have WN := Lib.hid (fun i (hi : i ≤ M.length) => wsr_nn M rows cols (rw_ M 0).length i)
  have WD := Lib.hid (show wst M rows cols = wsr M rows cols (rw_ M 0).length M.length from rfl)
  have WS1 := Lib.hid (fun i => (show wsr M rows cols (rw_ M 0).length (i + 1) = mxs (fun j => absI (bord M rows cols i j)) (wsr M rows cols (rw_ M 0).length i) (rw_ M 0).length from rfl))
  obtain ⟨d1, d2, _⟩ := D6
  clear h dz ad W6
  have s0 := ws5_s S0.out
  obtain ⟨q0, q1, q2, q3, r0, r1, r2, r3, _, l0, l1⟩ := s0
  go_enter Try.func51, Try.ntmps51
  go_wp2_with fail
  clear q0 q1 q2 q3 r0 r1 r2 r3 l0 l1
  go_loopw [3, 10] (fun mv kv wr => ∃ k : Nat, k ≤ M.length ∧ kv = .int .i64 k ∧ mv = .int .i64 (wsr M rows cols (rw_ M 0).length k) ∧ WS w A M.length c R rows.length cr C rows.length cc (detR M rows cols) wr) (fun _ kv _ => M.length - (intOf kv).toNat)
  case atStart => exact ⟨0, Nat.zero_le _, rfl, rfl, S0.out⟩
  case round =>
    obtain ⟨k, hk, rfl, rfl, hS⟩ := hrel
    have HSt := Lib.hid hS
    clear hS
    by_cases hlt : k < M.length
    · have hk1 : (k : Int) < (M.length : Int) := by omega
      have hk0 : 0 ≤ (k : Int) := by omega
      obtain ⟨b, o, A1, c1, rfl, hb, hc1, hl1, hr1⟩ := HC.out.mat k hlt
      rw [RL.out k hlt] at hc1
      have x1 := ((ws5_bel HSt.out).cell (p := ⟨b, o + k, none⟩) hb).trans hc1
      obtain ⟨q0, q1, q2, q3, r0, r1, r2, r3, _, l0, l1⟩ := ws5_s HSt.out
      clear hc1 hl1 hr1
      go_wp2_with fail
      clear x1 q0 q1 q2 q3 r0 r1 r2 r3 l0 l1
      go_loopw [3, 17] (fun mv jv wr => ∃ j : Nat, j ≤ (rw_ M 0).length ∧ jv = .int .i64 j ∧ mv = .int .i64 (mxs (fun j => absI (bord M rows cols k j)) (wsr M rows cols (rw_ M 0).length k) j) ∧ WS w (some ⟨b, o, none⟩) M.length c R rows.length cr C rows.length cc (detR M rows cols) wr) (fun _ jv _ => (rw_ M 0).length - (intOf jv).toNat)
      case atStart => exact ⟨0, Nat.zero_le _, rfl, rfl, HSt.out⟩
      case round =>
        clear HSt
        obtain ⟨j, hj, rfl, rfl, hS⟩ := hrel
        have HSt := Lib.hid hS
        clear hS
        by_cases hjl : j < (rw_ M 0).length
        · have hj1 : (j : Int) < ((rw_ M 0).length : Int) := by omega
          have hj0 : 0 ≤ (j : Int) := by omega
          have MS := Lib.hid (show mxs (fun j => absI (bord M rows cols k j)) (wsr M rows cols (rw_ M 0).length k) (j + 1) = mxI (mxs (fun j => absI (bord M rows cols k j)) (wsr M rows cols (rw_ M 0).length k) j) (absI (bord M rows cols k j)) from rfl)
          have BOk := Lib.hid (fun W B => BO.out W B k j hlt hjl)
          have bb := BB.out k j hlt hjl
          have ABk := Lib.hid (AB.out _ bb.1 bb.2.1)
          obtain ⟨b1, b2, _⟩ := bb
          obtain ⟨q0, q1, q2, q3, r0, r1, r2, r3, _, l0, l1⟩ := ws5_s HSt.out
          generalize mxs (fun j => absI (bord M rows cols k j)) (wsr M rows cols (rw_ M 0).length k) j = y at *
          generalize bord M rows cols (k : Int) (j : Int) = x at *
          go_wp2_with fail
          with_reducible refine (BOk.out _ (ws5_bel HSt.out)).mono ?_
          rintro e w3 ⟨rfl, hb⟩
          have HS3 := Lib.hid (ws5_below HSt.out hb)
          clear hb q0 q1 q2 q3 r0 r1 r2 r3 l0 l1
          go_wp2_with fail
          with_reducible refine (ABk.out _).mono ?_
          rintro e w4 ⟨rfl, rfl⟩
          go_wp2_with fail
          go_roundw
          case rel => exact ⟨j + 1, by omega, by go_num, by rw [MS.out], HS3.out⟩
          case measure => simp [intOf]; omega
        · obtain rfl : j = (rw_ M 0).length := by omega
          go_wp2_with fail
          go_roundw
          case rel => exact ⟨k + 1, by omega, by go_num, by rw [WS1.out], HSt.out⟩
          case measure => simp [intOf]; omega
    · obtain rfl : k = M.length := by omega
      rw [← WD.out]
      have AD := Lib.hid (fun W => absC_any (detR M rows cols) W (by omega) (by omega))
      clear BO BB AB RL WN WD WS1 HC HS S0
      generalize wst M rows cols = y at *
      generalize detR M rows cols = d at *
      generalize absI d = ad at *
      obtain ⟨q0, q1, q2, q3, r0, r1, r2, r3, _, l0, l1⟩ := ws5_s HSt.out
      go_wp2_with fail
      with_reducible refine (AD.out _).mono ?_
      rintro e w4 ⟨rfl, rfl⟩
      go_wp2_with fail
      with_reducible refine (QU.out _).mono ?_
      rintro e w5 ⟨rfl, hb⟩
      have HS3 := Lib.hid (ws5_below HSt.out hb)
      clear hb q0 q1 q2 q3 r0 r1 r2 r3 l0 l1
      obtain ⟨q0, q1, q2, q3, r0, r1, r2, r3, _, l0, l1⟩ := ws5_s HS3.out
      go_wp2_with fail
      refine bodyPost_ret (v := rtv rr) (by rw [results_cellF rfl]; go_simp) rfl ⟨rfl, ?_⟩
      have hB := ws5_bel HS3.out
      (repeat' (first | exact Below.refl _ _ | refine bstep ?_ hB | refine Below.setCell ?_ (by simp <;> omega) _ | refine balloc ?_ _ | refine Below.drew ?_ | refine bdrewN ?_ _))
set_option maxHeartbeats 2000000 in
theorem rworst_any (A R C : Option Addr) (c cr cc : Nat) (M : List (List Int)) (rows cols : List Int) (w : World) (h : ChS w A M.length (rw_ M 0).length M R C rows.length rows cols) :
    Calls Try.prog 52 #[.slice A M.length c, .slice R rows.length cr, .slice C rows.length cc] w fun e w' => e = .returned (.int .i64 (wst M rows cols)) ∧ Below w.heap.size w w' := by
  have HC := Lib.hid h.cho
  have HS := Lib.hid h
  have n1 := h.cho.hn
  have m1 := h.cho.hm
  have BO := Lib.hid (fun W (B : Below w.heap.size w W) (i j : Nat) (hi : i < M.length) (hj : j < (rw_ M 0).length) => rbord_any A R C c cr cc M.length (rw_ M 0).length rows.length M rows cols (i : Int) (j : Int) W (cho_in HC.out B) (by omega) (by omega))
  have BB := Lib.hid (fun (i j : Nat) (hi : i < M.length) (hj : j < (rw_ M 0).length) => bord6 HS.out (i := (i : Int)) (j := (j : Int)) (by omega) (by omega))
  have AB := Lib.hid (fun (x : Int) (h1 : -720000000000000 ≤ x) (h2 : x ≤ 720000000000000) W => size_any x W (by omega) (by omega))
  have nn1 : (M.length : Int) ≤ 6 := by omega
  have mm1 : ((rw_ M 0).length : Int) ≤ 6 := by omega
  have WD := Lib.hid (show wst M rows cols = wsr M rows cols (rw_ M 0).length M.length from rfl)
  have WS1 := Lib.hid (fun i => (show wsr M rows cols (rw_ M 0).length (i + 1) = mxs (fun j => absI (bord M rows cols i j)) (wsr M rows cols (rw_ M 0).length i) (rw_ M 0).length from rfl))
  clear h
  go_enter Try.func52, Try.ntmps52
  go_wp2_with fail
  go_loopw [7, 8] (fun mv kv wr => ∃ k : Nat, k ≤ M.length ∧ kv = .int .i64 k ∧ mv = .int .i64 (wsr M rows cols (rw_ M 0).length k) ∧ Below w.heap.size w wr) (fun _ kv _ => M.length - (intOf kv).toNat)
  case atStart => exact ⟨0, Nat.zero_le _, rfl, rfl, Below.refl _ _⟩
  case round =>
    obtain ⟨k, hk, rfl, rfl, hS⟩ := hrel
    have HB := Lib.hid hS
    clear hS
    by_cases hlt : k < M.length
    · have hk1 : (k : Int) < (M.length : Int) := by omega
      have hk0 : 0 ≤ (k : Int) := by omega
      obtain ⟨b, o, A0, c0, rfl, hb0, hc0, hl0, hr0⟩ := HC.out.mat 0 (by omega)
      have C0 := Lib.hid (show w.cell? ⟨b, o, none⟩ = some (.slice A0 (rw_ M 0).length c0) from hc0)
      clear hc0 hl0 hr0
      have x0 : (0 : Int) < (M.length : Int) := by omega
      go_wp2_with fail
      go_loopw [7, 9] (fun mv jv wr => ∃ j : Nat, j ≤ (rw_ M 0).length ∧ jv = .int .i64 j ∧ mv = .int .i64 (mxs (fun j => absI (bord M rows cols k j)) (wsr M rows cols (rw_ M 0).length k) j) ∧ Below w.heap.size w wr) (fun _ jv _ => (rw_ M 0).length - (intOf jv).toNat)
      case atStart => exact ⟨0, Nat.zero_le _, rfl, rfl, HB.out⟩
      case round =>
        clear HB
        obtain ⟨j, hj, rfl, rfl, hS⟩ := hrel
        have HB := Lib.hid hS
        have x1 := (hS.cell (p := ⟨b, o, none⟩) hb0).trans C0.out
        clear hS
        by_cases hjl : j < (rw_ M 0).length
        · have hj1 : (j : Int) < ((rw_ M 0).length : Int) := by omega
          have hj0 : 0 ≤ (j : Int) := by omega
          have MS := Lib.hid (show mxs (fun j => absI (bord M rows cols k j)) (wsr M rows cols (rw_ M 0).length k) (j + 1) = mxI (mxs (fun j => absI (bord M rows cols k j)) (wsr M rows cols (rw_ M 0).length k) j) (absI (bord M rows cols k j)) from rfl)
          have BOk := Lib.hid (fun W B => BO.out W B k j hlt hjl)
          have bb := BB.out k j hlt hjl
          have ABk := Lib.hid (AB.out _ bb.1 bb.2.1)
          obtain ⟨b1, b2, _⟩ := bb
          generalize mxs (fun j => absI (bord M rows cols k j)) (wsr M rows cols (rw_ M 0).length k) j = y at *
          generalize absI (bord M rows cols (k : Int) (j : Int)) = z at *
          generalize bord M rows cols (k : Int) (j : Int) = x at *
          by_cases hz : y < z
          · have MS' := Lib.hid (MS.out.trans (show mxI y z = z from if_pos hz))
            go_wp2_with fail
            with_reducible refine (BOk.out _ HB.out).mono ?_
            rintro e w3 ⟨rfl, hb⟩
            have HB3 := Lib.hid (bstep HB.out hb)
            clear hb
            go_wp2_with fail
            with_reducible refine (ABk.out _).mono ?_
            rintro e w4 ⟨rfl, rfl⟩
            go_wp2_with fail
            go_roundw
            case rel => exact ⟨j + 1, by omega, by go_num, by rw [MS'.out], HB3.out⟩
            case measure => simp [intOf]; omega
          · have MS' := Lib.hid (MS.out.trans (show mxI y z = y from if_neg hz))
            go_wp2_with fail
            with_reducible refine (BOk.out _ HB.out).mono ?_
            rintro e w3 ⟨rfl, hb⟩
            have HB3 := Lib.hid (bstep HB.out hb)
            clear hb
            go_wp2_with fail
            with_reducible refine (ABk.out _).mono ?_
            rintro e w4 ⟨rfl, rfl⟩
            go_wp2_with fail
            go_roundw
            case rel => exact ⟨j + 1, by omega, by go_num, by rw [MS'.out], HB3.out⟩
            case measure => simp [intOf]; omega
        · obtain rfl : j = (rw_ M 0).length := by omega
          go_wp2_with fail
          go_roundw
          case rel => exact ⟨k + 1, by omega, by go_num, by rw [WS1.out], HB.out⟩
          case measure => simp [intOf]; omega
    · obtain rfl : k = M.length := by omega
      go_wp2_with fail
      go_ret
      exact ⟨by rw [WD.out]; rfl, HB.out⟩

end Go.Proofs.Ytllonfaogbdbnaa
