/-
  The contracts of the document's applied and Fast.
-/
import Derived.Test.YtefmlcojbfiehaaCrP4
namespace Go.Proofs.Ytefmlcojbfiehaa
open Go.ChangeShapes Go.WideShapes Go.RowKit
open Cr
/-- what applied answers -/
def apz (M : List (List Int)) (rows cols x : List Int) : Int × Int := if fcd M rows cols x = 0 then (detR M rows cols, 0) else (0, fcd M rows cols x)
theorem apz_e {M : List (List Int)} {rows cols x : List Int} {e : Int} (h : fcd M rows cols x = e) (n : e ≠ 0) : apz M rows cols x = (0, e) := by unfold apz; rw [h, if_neg n]
theorem apz_0 {M : List (List Int)} {rows cols x : List Int} (h : fcd M rows cols x = 0) : apz M rows cols x = (detR M rows cols, 0) := by unfold apz; rw [h, if_pos rfl]
set_option maxHeartbeats 2000000 in
theorem app_any (A R C X : Option Addr) (c cr cc cx : Nat) (M : List (List Int)) (rows cols x : List Int) (w : World) (h : ArX w A M R C X rows cols x) (hcr : rows.length ≤ cr) (hcc : cols.length ≤ cc) :
    Calls Try.prog 85 #[.slice A M.length c, .slice R rows.length cr, .slice C cols.length cc, .slice X x.length cx] w fun e w' => e = .returned (.tuple #[.int .i64 (apz M rows cols x).1, .int .i64 (apz M rows cols x).2]) ∧ Below w.heap.size w w' := by
  have CH := Lib.hid (fun W (B : Below w.heap.size w W) => chosen_any A R C c cr cc M rows cols W (arg_in h.arg B))
  have DV := Lib.hid (fun W (B : Below w.heap.size w W) => rdiv6_any A R C c cr cc M rows cols W (arg_in h.arg B) hcr hcc)
  by_cases hv : vcode M = 0
  · have FI := Lib.hid (fun W (B : Below w.heap.size w W) => fits_any A X c cx M x W (ml_in h.arg.mat B) (vcode_pos hv).1 h.arg.len (il_in h.xI B) h.nx)
    cases hc : chB M rows cols with
    | false =>
      rw [apz_e (fcd_c hv hc) (by decide)]
      rw [kcode_bad hv hc] at CH
      clear h hcr hcc hv hc
      go_enter Try.func85, Try.ntmps85
      go_wp2_with fail
      with_reducible refine (CH.out _ (Below.refl _ _)).mono ?_
      rintro e w2 ⟨rfl, hb⟩
      have HB := Lib.hid hb
      clear hb
      go_wp2_with fail
      go_ret2
      exact ⟨rfl, HB.out⟩
    | true =>
      rw [kcode_good hv hc] at CH
      cases hf : fitB M x with
      | false =>
        rw [apz_e (fcd_f hv hf) (by decide)]
        rw [hf] at FI
        clear h hcr hcc hv hc hf
        go_enter Try.func85, Try.ntmps85
        go_wp2_with fail
        with_reducible refine (CH.out _ (Below.refl _ _)).mono ?_
        rintro e w2 ⟨rfl, hb⟩
        have HB := Lib.hid hb
        clear hb
        go_wp2_with fail
        with_reducible refine (FI.out _ HB.out).mono ?_
        rintro e w3 ⟨rfl, rfl⟩
        go_wp2_with fail
        go_ret2
        exact ⟨rfl, HB.out⟩
      | true =>
        rw [hf] at FI
        have e : apz M rows cols x = dvz M rows cols := by
          by_cases d : detR M rows cols = 0
          · rw [apz_e (fcd_z hv hf hc d) (by decide)]
            unfold dvz
            rw [kcode_good hv hc, if_pos rfl, if_pos d]
          · rw [apz_0 (fcd_0 hv hf hc d)]
            unfold dvz
            rw [kcode_good hv hc, if_pos rfl, if_neg d]
        rw [e]
        clear h hcr hcc hv hc hf e
        generalize (dvz M rows cols).1 = y at *
        generalize (dvz M rows cols).2 = z at *
        go_enter Try.func85, Try.ntmps85
        go_wp2_with fail
        with_reducible refine (CH.out _ (Below.refl _ _)).mono ?_
        rintro e w2 ⟨rfl, hb⟩
        have HB := Lib.hid hb
        clear hb
        go_wp2_with fail
        with_reducible refine (FI.out _ HB.out).mono ?_
        rintro e w3 ⟨rfl, rfl⟩
        go_wp2_with fail
        with_reducible refine (DV.out _ HB.out).mono ?_
        rintro e w4 ⟨rfl, hb⟩
        have HB3 := Lib.hid (bstep HB.out hb)
        clear hb
        go_wp2_with fail
        go_ret2
        exact ⟨rfl, HB3.out⟩
  · have f1 := fcd_v (rows := rows) (cols := cols) (x := x) hv
    rw [apz_e f1 hv]
    rw [kcode_v hv] at CH
    clear h hcr hcc f1
    generalize vcode M = e at *
    have t1 : (e != 0) = true := by simp [hv]
    have t2 : (e == 0) = false := by simp [hv]
    clear hv
    go_enter Try.func85, Try.ntmps85
    go_wp2_with fail
    with_reducible refine (CH.out _ (Below.refl _ _)).mono ?_
    rintro e w2 ⟨rfl, hb⟩
    have HB := Lib.hid hb
    clear hb
    go_wp2_with fail
    go_ret2
    exact ⟨rfl, HB.out⟩
def FS (w : World) (b o k : Nat) (y : Int) (w1 : World) : Prop := w1.cell? ⟨b, o + k, none⟩ = some (.int .i64 y) ∧ Below w.heap.size w w1 ∧ b < w1.heap.size
theorem fs_s {w : World} {b o k : Nat} {y : Int} {w1 : World} (h : FS w b o k y w1) : w1.cell? ⟨b, o + k, none⟩ = some (.int .i64 y) ∧ Below w.heap.size w w1 ∧ b < w1.heap.size := h
theorem fs_of {w : World} {b o k : Nat} {y : Int} {w1 : World} (h : w1.cell? ⟨b, o + k, none⟩ = some (.int .i64 y) ∧ Below w.heap.size w w1 ∧ b < w1.heap.size) : FS w b o k y w1 := h
theorem fs_drew {w : World} {b o k : Nat} {y : Int} {w1 : World} (h : FS w b o k y w1) : FS w b o k y w1.drew := by
  obtain ⟨h0, hB, b0⟩ := h
  exact ⟨h0, Below.drew hB, b0⟩
theorem fs_drewN {w : World} {b o k : Nat} {y : Int} {w1 : World} (h : FS w b o k y w1) (kk : Nat) : FS w b o k y (w1.drewN kk) := by
  obtain ⟨h0, hB, b0⟩ := h
  exact ⟨h0, bdrewN hB kk, b0⟩
theorem fs_bel {w : World} {b o k : Nat} {y : Int} {w1 : World} (h : FS w b o k y w1) : Below w.heap.size w w1 := by
  obtain ⟨h0, hB, b0⟩ := h
  exact hB
theorem fs_below {w : World} {b o k : Nat} {y : Int} {w1 w2 : World} (h : FS w b o k y w1) (hb : Below w1.heap.size w1 w2) : FS w b o k y w2 := by
  obtain ⟨h0, hB, b0⟩ := h
  exact ⟨(hb.cell (p := ⟨b, o + k, none⟩) b0).trans h0, bstep hB hb, Nat.lt_of_lt_of_le b0 hb.size⟩
theorem lft_low {M : List (List Int)} {rows cols x : List Int} {i : Int} (dz : detR M rows cols ≠ 0) : gI (lft M rows cols i x).1 (lft M rows cols i x).2 = 1 := ratq_low dz
def FQ (w : World) (q : Nat) (l1 l2 : Int) (w1 : World) : Prop := w1.cell? ⟨q, 0, none⟩ = some (.int .i64 l1) ∧ w1.cell? ⟨q, 1, none⟩ = some (.int .i64 l2) ∧ Below w.heap.size w w1 ∧ q < w1.heap.size
theorem fq_s {w : World} {q : Nat} {l1 l2 : Int} {w1 : World} (h : FQ w q l1 l2 w1) : w1.cell? ⟨q, 0, none⟩ = some (.int .i64 l1) ∧ w1.cell? ⟨q, 1, none⟩ = some (.int .i64 l2) ∧ Below w.heap.size w w1 ∧ q < w1.heap.size := h
theorem fq_of {w : World} {q : Nat} {l1 l2 : Int} {w1 : World} (h : w1.cell? ⟨q, 0, none⟩ = some (.int .i64 l1) ∧ w1.cell? ⟨q, 1, none⟩ = some (.int .i64 l2) ∧ Below w.heap.size w w1 ∧ q < w1.heap.size) : FQ w q l1 l2 w1 := h
theorem fq_drew {w : World} {q : Nat} {l1 l2 : Int} {w1 : World} (h : FQ w q l1 l2 w1) : FQ w q l1 l2 w1.drew := by
  obtain ⟨h0, h1, hB, b0⟩ := h
  exact ⟨h0, h1, Below.drew hB, b0⟩
theorem fq_drewN {w : World} {q : Nat} {l1 l2 : Int} {w1 : World} (h : FQ w q l1 l2 w1) (kk : Nat) : FQ w q l1 l2 (w1.drewN kk) := by
  obtain ⟨h0, h1, hB, b0⟩ := h
  exact ⟨h0, h1, bdrewN hB kk, b0⟩
theorem fq_bel {w : World} {q : Nat} {l1 l2 : Int} {w1 : World} (h : FQ w q l1 l2 w1) : Below w.heap.size w w1 := by
  obtain ⟨h0, h1, hB, b0⟩ := h
  exact hB
theorem fq_below {w : World} {q : Nat} {l1 l2 : Int} {w1 w2 : World} (h : FQ w q l1 l2 w1) (hb : Below w1.heap.size w1 w2) : FQ w q l1 l2 w2 := by
  obtain ⟨h0, h1, hB, b0⟩ := h
  exact ⟨(hb.cell (p := ⟨q, 0, none⟩) b0).trans h0, (hb.cell (p := ⟨q, 1, none⟩) b0).trans h1, bstep hB hb, Nat.lt_of_lt_of_le b0 hb.size⟩
theorem fq_grown {w w1 w2 : World} {q : Nat} {l1 l2 : Int} {r : Option Nat} {o : Obj} (h : FQ w q l1 l2 w1) (hg : (w1.alloc o).grownBy w2 r) (B : Below w.heap.size w w2) (ne : r ≠ some q) : FQ w q l1 l2 w2 := by
  obtain ⟨h0, h1, _, h3⟩ := h
  have hs := hg.size
  have c : ∀ j v, w1.cell? ⟨q, j, none⟩ = some v → w2.cell? ⟨q, j, none⟩ = some v := fun j v hv => (World.grownBy.cell_far hg ⟨q, j, none⟩ (by simp; omega) ne.symm).trans ((World.cell?_alloc_lt _ _ _ h3).trans hv)
  exact ⟨c _ _ h0, c _ _ h1, B, by simp at hs; omega⟩
theorem fq_alloc {w w1 : World} {l1 l2 : Int} (B : Below w.heap.size w w1) : FQ w w1.heap.size l1 l2 (w1.alloc (rtc (l1, l2))) := ⟨by go_simp, by go_simp, balloc B _, by simp⟩
set_option maxRecDepth 100000 in
set_option maxHeartbeats 8000000 in
theorem rfast_any (A R C X : Option Addr) (c cr cc cx : Nat) (M : List (List Int)) (rows cols x : List Int) (w : World) (h : ArX w A M R C X rows cols x) (hcr : rows.length ≤ cr) (hcc : cols.length ≤ cc) : Calls Try.prog 46 #[.slice A M.length c, .slice R rows.length cr, .slice C cols.length cc, .slice X x.length cx] w fun e w' => ∃ A' c', e = .returned (.tuple #[.slice A' (fL M rows cols x).length c', .int .i64 (fcd M rows cols x)]) ∧ RLs w' A' (fL M rows cols x) ∧ Below w.heap.size w w' := by
  have AP := Lib.hid (app_any A R C X c cr cc cx M rows cols x w h hcr hcc)
  by_cases z : fcd M rows cols x = 0
  · rw [apz_0 z] at AP
    have hv : vcode M = 0 := Classical.byContradiction fun n => by rw [fcd_v n] at z; exact n z
    have hf : fitB M x = true := by
      cases e : fitB M x with
      | true => rfl
      | false => rw [fcd_f hv e] at z; cases z
    have hc : chB M rows cols = true := by
      cases e : chB M rows cols with
      | true => rfl
      | false => rw [fcd_c hv e] at z; cases z
    have dz : detR M rows cols ≠ 0 := fun d => by rw [fcd_z hv hf hc d] at z; cases z
    have k := kcode_good hv hc
    have ho := chs_of h.arg k
    have hl := (cho_of h.arg k).2
    rw [fL_ok z, z]
    obtain ⟨fx, bx⟩ := fitB_of hf
    rw [hl] at AP ⊢
    have bx' : ∀ k, k < (rw_ M 0).length → -1000 ≤ at_ x k ∧ at_ x k ≤ 1000 := fun k hk => bx k (by omega)
    have BO := Lib.hid (fun W (B : Below w.heap.size w W) (i j : Nat) (hi : i < M.length) (hj : j < (rw_ M 0).length) => rbord_any A R C c cr cc M.length (rw_ M 0).length rows.length M rows cols (i : Int) (j : Int) W (cho_in ho.cho B) (by omega) (by omega))
    have BB := Lib.hid (fun (i j : Nat) (hi : i < M.length) (hj : j < (rw_ M 0).length) => bord6 ho (i := (i : Int)) (j := (j : Int)) (by omega) (by omega))
    have LB := Lib.hid (fun (i : Nat) (hi : i < M.length) k (hk : k ≤ (rw_ M 0).length) => lsum_bd ho (i := (i : Int)) (by omega) bx' hk)
    have LS := Lib.hid (fun (i : Nat) k => (show lsum M rows cols (i : Int) x (k + 1) = lsum M rows cols (i : Int) x k + bord M rows cols (i : Int) k * at_ x k from rfl))
    have D6 := detC6 ho
    have QU := Lib.hid (fun (i : Nat) (hi : i < M.length) W => (show Calls Try.prog 69 #[.int .i64 (lsum M rows cols (i : Int) x (rw_ M 0).length), .int .i64 (detR M rows cols)] W fun e w' => e = .returned (rtv (lft M rows cols (i : Int) x)) ∧ Below W.heap.size W w' from by
      have lb := LB.out i hi (rw_ M 0).length (Nat.le_refl _)
      exact ratio_any _ _ W dz (by omega) (by omega) (by omega) (by omega)))
    have LF := Lib.hid (fun (i : Nat) (hi : i < M.length) => lft_bd ho dz (i := (i : Int)) (x := x) (by omega) bx')
    have IB := Lib.hid (fun (i : Nat) (hi : i < M.length) => ip_bd (r := rw_ M i) (x := x) (n := (rw_ M 0).length) (fun k hk => ho.cho.sq.at hi hk) bx' ho.cho.hm (Nat.le_refl _))
    have TI := Lib.hid (fun W (B : Below w.heap.size w W) (i : Nat) (hi : i < M.length) => times_any6 A X c cx M.length (rw_ M 0).length i M x W (ml_in ho.cho.mat B) ho.cho.sq (il_in h.xI B) hi fx ho.cho.hm ho.cho.hn bx')
    have FL := Lib.hid (fsL_len M rows cols x)
    have FA := Lib.hid (fun i (hi : i < M.length) => fsL_at M rows cols x hi)
    have Q2 := Lib.hid (fun (i : Nat) (hi : i < M.length) W => (show Calls Try.prog 69 #[.int .i64 (ip (rw_ M i) x (rw_ M 0).length * (lft M rows cols (i : Int) x).2 - (lft M rows cols (i : Int) x).1), .int .i64 (lft M rows cols (i : Int) x).2] W fun e w' => e = .returned (rtv (rat_ (fsL M rows cols x) i)) ∧ Below W.heap.size W w' from by
      have lf := LF.out i hi
      have ib := IB.out i hi
      have pb := Cr.mul_bd ib.1 ib.2 (show -1200000000000 ≤ (lft M rows cols (i : Int) x).2 by omega) lf.2.2.2
      have pb1 : -720000000000000000 ≤ ip (rw_ M i) x (rw_ M 0).length * (lft M rows cols (i : Int) x).2 := pb.1
      have pb2 : ip (rw_ M i) x (rw_ M 0).length * (lft M rows cols (i : Int) x).2 ≤ 720000000000000000 := pb.2
      have r := ratio_any (ip (rw_ M i) x (rw_ M 0).length * (lft M rows cols (i : Int) x).2 - (lft M rows cols (i : Int) x).1) (lft M rows cols (i : Int) x).2 W (by omega) (by omega) (by omega) (by omega) (by omega)
      rw [mns_low (lft_low dz) lf.2.2.1] at r
      rw [fsL_at M rows cols x hi]
      exact r))
    have PB := Lib.hid (fun (i : Nat) (hi : i < M.length) => (show -720000000000000000 ≤ ip (rw_ M i) x (rw_ M 0).length * (lft M rows cols (i : Int) x).2 ∧ ip (rw_ M i) x (rw_ M 0).length * (lft M rows cols (i : Int) x).2 ≤ 720000000000000000 from by
      have lf := LF.out i hi
      have ib := IB.out i hi
      have pb := Cr.mul_bd ib.1 ib.2 (show -1200000000000 ≤ (lft M rows cols (i : Int) x).2 by omega) lf.2.2.2
      exact ⟨pb.1, pb.2⟩))
    have nn : (M.length : Int) ≤ 6 := by have := ho.cho.hn; omega
    have mm : ((rw_ M 0).length : Int) ≤ 6 := by have := ho.cho.hm; omega
    have HX := Lib.hid h.xI
    have NX := Lib.hid fx
    have BX := Lib.hid bx'
    rw [FL.out, fx]
    clear h z hv hf hc dz k ho hl fx bx bx' D6 hcr hcc
    generalize fsL M rows cols x = S at *
    generalize detR M rows cols = d at *
    generalize rows.length = K at *
    go_enter Try.func46, Try.ntmps46
    go_wp2_with fail
    rw [NX.out] at AP
    with_reducible refine AP.out.mono ?_
    rintro e W0 ⟨rfl, hb⟩
    have HB := Lib.hid hb
    clear hb AP
    go_wp2_with fail
    go_loopw [12, 13] (fun pv kv wr => ∃ k A' c', k ≤ M.length ∧ kv = .int .i64 (k : Int) ∧ pv = .slice A' k c' ∧ OR wr W0.heap.size (.slice A' k c') (S.take k) ∧ Below W0.heap.size W0 wr) (fun _ kv _ => M.length - (intOf kv).toNat)
    case atStart => exact ⟨0, none, 0, Nat.zero_le _, rfl, rfl, by rw [List.take_zero]; exact or_nil _ _, Below.refl _ _⟩
    case round =>
      obtain ⟨k, A2, c2, hk, rfl, rfl, ho, B⟩ := hrel
      have HO := Lib.hid ho
      have HBk := Lib.hid B
      by_cases hlt : k < M.length
      · have hk1 : (k : Int) < (M.length : Int) := by omega
        have hk0 : 0 ≤ (k : Int) := by omega
        have TN := Lib.hid (rtake_next (l := S) (k := k) (by rw [FL.out]; exact hlt))
        have TL := Lib.hid (show (S.take k).length = k by rw [List.length_take, FL.out]; omega)
        have OB := Lib.hid (fun W (Bl : Below wr.heap.size wr W) => or_below HO.out Bl (Nat.le_refl _))
        have RW := Lib.hid (Below.refl wr.heap.size wr)
        clear ho B
        obtain ⟨wo, hwo⟩ : ∃ wo : World, wo = wr := ⟨_, rfl⟩
        subst hwo
        go_wp2_with fail
        go_loopw [14, 15] (fun sv jv ws => ∃ j : Nat, j ≤ (rw_ M 0).length ∧ jv = .int .i64 j ∧ sv = .int .i64 (lsum M rows cols (k : Int) x j) ∧ Below wo.heap.size wo ws) (fun _ jv _ => (rw_ M 0).length - (intOf jv).toNat)
        case atStart => exact ⟨0, Nat.zero_le _, rfl, rfl, RW.out⟩
        case round =>
          obtain ⟨j, hj, rfl, rfl, B⟩ := hrel
          have HBj := Lib.hid B
          by_cases hjl : j < (rw_ M 0).length
          · have hj1 : (j : Int) < ((rw_ M 0).length : Int) := by omega
            have hj0 : 0 ≤ (j : Int) := by omega
            obtain ⟨b2, o2, rfl, hb2, hc2⟩ := il_in HX.out (bstep (bstep HB.out HBk.out) B) j (by rw [NX.out]; exact hjl)
            have BOk := Lib.hid (fun W (Bl : Below wo.heap.size wo W) => BO.out W (bstep (bstep HB.out HBk.out) Bl) k j hlt hjl)
            have bb := BB.out k j hlt hjl
            have l1' := LB.out k hlt j hj
            have l2' := LB.out k hlt (j + 1) hjl
            have LSk := Lib.hid (LS.out k j)
            rw [LSk.out] at l2'
            have xb := BX.out j hjl
            have pb := Cr.mul_bd bb.1 bb.2.1 xb.1 xb.2
            have F0 := Lib.hid (show FS wo b2 o2 j (at_ x j) wr from ⟨hc2, B, hb2⟩)
            generalize lsum M rows cols (k : Int) x j = p at *
            generalize bord M rows cols (k : Int) (j : Int) = y at *
            generalize at_ x j = z at *
            obtain ⟨b1, b2', _⟩ := bb
            obtain ⟨l11, l12⟩ := l1'
            obtain ⟨l21, l22⟩ := l2'
            obtain ⟨pb1, pb2⟩ := pb
            have pb1 : -720000000000000000 ≤ y * z := pb1
            have pb2 : y * z ≤ 720000000000000000 := pb2
            have WR1 : IntKind.i64.wrap (y * z) = y * z := IntWalk.i64_in _ (by omega)
            have WR2 : IntKind.i64.wrap (p + y * z) = p + y * z := IntWalk.i64_in _ (by omega)
            clear xb B hc2
            go_wp2_with fail
            go_region_held3 (fun w' => w'.cell? ⟨b2, o2 + j, none⟩ = some (.int .i64 z) ∧ Below wo.heap.size wo w' ∧ b2 < w'.heap.size)
              (first | with_reducible exact fs_s (fs_drew F0.out) | with_reducible exact fs_s F1.out | fail)
              (first
                | (go_at_call 70; (with_reducible refine (BOk.out _ (fs_bel (fs_of (by assumption)))).mono ?_); rintro e w3 ⟨rfl, hb⟩; have F1 := Lib.hid (fs_below (fs_of (by assumption)) hb); clear hb)
                | fail)
            all_goals
              clear WR1 WR2
              go_wp2_with fail
              go_roundw
              case rel => exact ⟨j + 1, by omega, by go_num, by rw [LSk.out], fs_bel F1.out⟩
              case measure => simp [intOf]; omega
          · obtain rfl : j = (rw_ M 0).length := by omega
            have QUk := Lib.hid (QU.out k hlt)
            have Q2k := Lib.hid (Q2.out k hlt)
            have TIk := Lib.hid (fun W (Bl : Below W0.heap.size W0 W) => TI.out W (bstep HB.out Bl) k hlt)
            have pb := PB.out k hlt
            have lf := LF.out k hlt
            have OBw := OB
            generalize lsum M rows cols (k : Int) x (rw_ M 0).length = sm at *
            generalize lft M rows cols (k : Int) x = L at *
            obtain ⟨L1, L2⟩ := L
            generalize ip (rw_ M k) x (rw_ M 0).length = p at *
            generalize rat_ S k = z at *
            obtain ⟨pb1, pb2⟩ := pb
            obtain ⟨lf1, lf2, lf3, lf4⟩ := lf
            have pb1 : -720000000000000000 ≤ p * L2 := pb1
            have pb2 : p * L2 ≤ 720000000000000000 := pb2
            have lf1 : -4320000000000000000 ≤ L1 := lf1
            have lf2 : L1 ≤ 4320000000000000000 := lf2
            have WX1 := Lib.hid (show IntKind.i64.wrap (p * L2) = p * L2 from IntWalk.i64_in _ (by omega))
            have WX2 := Lib.hid (show IntKind.i64.wrap (p * L2 - L1) = p * L2 - L1 from IntWalk.i64_in _ (by omega))
            clear B lf3 lf4
            go_wp2_with fail
            with_reducible refine (QUk.out _).mono ?_
            rintro e w3 ⟨rfl, hb⟩
            have T3 := Lib.hid (bstep HBj.out hb)
            have T4 := Lib.hid (balloc T3.out (rtc (L1, L2)))
            have G4 := Lib.hid (fq_alloc (l1 := L1) (l2 := L2) (bstep HBk.out T3.out))
            have HNE := Lib.hid (show (Value.slice A2 k c2).ownBlock ≠ some w3.heap.size from fun e => by have := (HO.out.lt _ e).2; have := T3.out.size; omega)
            have TLB := Lib.hid (show (S.take k).length ≤ 100000 by rw [TL.out]; omega)
            clear hb
            go_wp2_with fail
            generalize w3.alloc (rtc (L1, L2)) = W1 at *
            generalize w3.heap.size = q at *
            clear pb1 pb2 lf1 lf2
            have WR1 := WX1.out
            have WR2 := WX2.out
            go_region_held3 (fun w' => w'.cell? ⟨q, 0, none⟩ = some (.int .i64 L1) ∧ w'.cell? ⟨q, 1, none⟩ = some (.int .i64 L2) ∧ Below W0.heap.size W0 w' ∧ q < w'.heap.size)
              (first | with_reducible exact fq_s (fq_drew G4.out) | with_reducible exact fq_s G5.out | with_reducible exact fq_s G6.out | with_reducible exact fq_s (fq_below G6.out (alloc_below _ _)) | with_reducible exact fq_s G7.out | fail)
              (first
                | (go_at_call 83; (with_reducible refine (TIk.out _ (fq_bel (fq_of (by assumption)))).mono ?_); rintro e w5 ⟨rfl, hb⟩; have G5 := Lib.hid (fq_below (fq_of (by assumption)) hb); have T5 := Lib.hid (bstep (Below.drew T4.out) hb); clear hb)
                | (go_at_call 69; (with_reducible refine (Q2k.out _).mono ?_); rintro e w6 ⟨rfl, hb⟩; have G6 := Lib.hid (fq_below (fq_of (by assumption)) hb); have T6 := Lib.hid (bstep T5.out hb); clear hb)
                | (refine stepR rfl (.tmp 56) (.tmp 70) rfl W0.heap.size (.slice A2 k c2) (S.take k) rfl (World.ownsRow.alloc (OBw.out _ T6.out) _) (balloc (bstep HBk.out T6.out) _).size ⟨w6.heap.size, 0, none⟩ 1 z rfl (rone_new _ _) TLB.out (k + 1) (by rw [TL.out]) ?_; intro A7 c7 w7 ho hg; have HO7 := Lib.hid ho; have HB7 := Lib.hid (below_grown (balloc (bstep HBk.out T6.out) _) hg (balloc (bstep HBk.out T6.out) _).size (fun g hg => (HO.out.lt g hg).1)); have G7 := Lib.hid (fq_grown G6.out hg HB7.out HNE.out); clear ho hg)
                | fail)
            all_goals
              clear WR1 WR2
              go_wp2_with fail
              go_roundw
              case rel => exact ⟨k + 1, A7, c7, by omega, by go_num, rfl, by rw [TN.out]; exact HO7.out, HB7.out⟩
              case measure => simp [intOf]; omega
      · obtain rfl : k = M.length := by omega
        have e3 : S.take M.length = S := by rw [← FL.out]; exact List.take_of_length_le (Nat.le_refl _)
        rw [e3] at ho
        go_wp2_with fail
        go_ret2
        exact ⟨A2, c2, rfl, or_il ho, bstep HB.out B⟩
  · rw [apz_e rfl z] at AP
    rw [fL_ne rfl z]
    clear h hcr hcc
    generalize fcd M rows cols x = e at *
    have t1 : (e != 0) = true := by simp [z]
    have t2 : (e == 0) = false := by simp [z]
    clear z
    go_enter Try.func46, Try.ntmps46
    go_wp2_with fail
    with_reducible refine AP.out.mono ?_
    rintro e w2 ⟨rfl, hb⟩
    have HB := Lib.hid hb
    clear hb
    go_wp2_with fail
    go_ret2
    exact ⟨none, 0, rfl, rls_nil _ _, HB.out⟩

end Go.Proofs.Ytefmlcojbfiehaa
