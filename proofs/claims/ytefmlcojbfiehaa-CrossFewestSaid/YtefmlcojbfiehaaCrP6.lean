/-
  The contracts of Off, in the program and in the document's answer.
-/
import Derived.Test.YtefmlcojbfiehaaCrP5
namespace Go.Proofs.Ytefmlcojbfiehaa
open Go.ChangeShapes Go.WideShapes Go.RowKit
open Cr
theorem gI_scale {g a b : Int} (hg : 0 < g) : gI (g * a) (g * b) = g * gI a b := by
  unfold gI
  rw [Int.natAbs_mul, Int.natAbs_mul, Nat.gcd_mul_left, Int.natCast_mul]
  congr 1
  omega
theorem ratq_scale {g a b : Int} (hg : 0 < g) (hb : 0 < b) : ratq (g * a) (g * b) = ratq a b := by
  have h : 0 < g * b := Int.mul_pos hg hb
  rw [ratq_pos (by omega), ratq_pos (by omega), gI_scale hg, Int.mul_tdiv_mul_of_pos _ _ hg, Int.mul_tdiv_mul_of_pos _ _ hg]
theorem ratq_parts {n d : Int} (hd : 0 < d) : n = gI n d * (ratq n d).1 ∧ d = gI n d * (ratq n d).2 ∧ 0 < gI n d := by
  rw [ratq_pos (by omega)]
  have e : gI n d = (Int.gcd n d : Nat) := rfl
  have d1 := Int.gcd_dvd_left n d
  have d2 := Int.gcd_dvd_right n d
  rw [← e] at d1 d2
  have g1 := gI_pos (n := n) (d := d) (by omega)
  exact ⟨(Int.mul_tdiv_cancel' d1).symm, (Int.mul_tdiv_cancel' d2).symm, by omega⟩
/-- the sum of the absolute values -/
def asum (x : List Int) (k : Nat) : Int := ps (fun j => absI (at_ x j)) k
theorem asum_bd {x : List Int} {m : Nat} (bx : ∀ k, k < m → -1000 ≤ at_ x k ∧ at_ x k ≤ 1000) : ∀ {k : Nat}, k ≤ m → 0 ≤ asum x k ∧ asum x k ≤ 1000 * k
  | 0, _ => by show (0 : Int) ≤ 0 ∧ (0 : Int) ≤ 1000 * ((0 : Nat) : Int); decide
  | k + 1, hk => by
    have h := asum_bd bx (k := k) (by omega)
    have b := absI_bd (bx k (by omega)).1 (bx k (by omega)).2
    show 0 ≤ asum x k + absI (at_ x k) ∧ asum x k + absI (at_ x k) ≤ 1000 * ((k + 1 : Nat) : Int)
    omega
/-- what Off answers -/
def offd (M : List (List Int)) (rows cols x : List Int) : (Int × Int) × Int := if fcd M rows cols x = 0 then (ratq (wst M rows cols * asum x (rw_ M 0).length) (absI (detR M rows cols)), 0) else ((0, 0), fcd M rows cols x)
theorem offd_e {M : List (List Int)} {rows cols x : List Int} {e : Int} (h : fcd M rows cols x = e) (n : e ≠ 0) : offd M rows cols x = ((0, 0), e) := by unfold offd; rw [h, if_neg n]
theorem offd_0 {M : List (List Int)} {rows cols x : List Int} (h : fcd M rows cols x = 0) : offd M rows cols x = (ratq (wst M rows cols * asum x (rw_ M 0).length) (absI (detR M rows cols)), 0) := by unfold offd; rw [if_pos h]
theorem off_eq {M : List (List Int)} {rows cols : List Int} (dz : detR M rows cols ≠ 0) (s : Int) : ratq ((ratq (wst M rows cols) (absI (detR M rows cols))).1 * s) (ratq (wst M rows cols) (absI (detR M rows cols))).2 = ratq (wst M rows cols * s) (absI (detR M rows cols)) := by
  have ad : 0 < absI (detR M rows cols) := by unfold absI; split <;> omega
  obtain ⟨h1, h2, h3⟩ := ratq_parts (n := wst M rows cols) ad
  have h4 := (ratq_abs (n := wst M rows cols) (d := absI (detR M rows cols)) (by omega)).2.2
  generalize ratq (wst M rows cols) (absI (detR M rows cols)) = r at *
  generalize gI (wst M rows cols) (absI (detR M rows cols)) = g at *
  rw [h1, h2, Int.mul_assoc, ratq_scale h3 (by omega)]
theorem wrs_0 {M : List (List Int)} {rows cols : List Int} (h : (dvz M rows cols).2 = 0) : wrs M rows cols = (ratq (wst M rows cols) (absI (detR M rows cols)), 0) := if_pos h
set_option maxRecDepth 100000 in
set_option maxHeartbeats 4000000 in
theorem off_any (A R C X : Option Addr) (c cr cc cx : Nat) (M : List (List Int)) (rows cols x : List Int) (w : World) (h : ArX w A M R C X rows cols x) :
    Calls Try.prog 47 #[.slice A M.length c, .slice R rows.length cr, .slice C cols.length cc, .slice X x.length cx] w fun e w' => e = .returned (.tuple #[rtv (offd M rows cols x).1, .int .i64 (offd M rows cols x).2]) ∧ Below w.heap.size w w' := by
  have R0 := Lib.hid (rz_new w)
  have CH := Lib.hid (fun W (B : Below w.heap.size w W) => check_any A R C c cr cc M rows cols W (arg_in h.arg B))
  by_cases k : kcode M rows cols = 0
  · have hv := (kcode_cases k).1
    have hc := (kcode_cases k).2
    have FI := Lib.hid (fun W (B : Below w.heap.size w W) => isf_any A X c cx M x W (ml_in h.arg.mat B) (vcode_pos hv).1 h.arg.len (il_in h.xI B) h.nx)
    rw [k] at CH
    cases hf : fitB M x with
    | false =>
      rw [offd_e (fcd_f hv hf) (by decide)]
      rw [hf] at FI
      clear h k hv hc hf
      obtain ⟨r0, r1, r2, r3, r4⟩ := rz_s R0.out
      go_enter Try.func47, Try.ntmps47
      go_wp2_with fail
      with_reducible refine (CH.out _ R0.out.bel).mono ?_
      rintro e w2 ⟨rfl, rfl⟩
      go_wp2_with fail
      with_reducible refine (FI.out _ R0.out.bel).mono ?_
      rintro e w2 ⟨rfl, rfl⟩
      go_wp2_with fail
      refine bodyPost_ret (v := .tuple #[rtv (0, 0), .int .i64 1]) (by rw [results_cellF2 rfl]; go_simp) rfl ⟨rfl, ?_⟩
      have hB := R0.out.bel
      (repeat' (first | exact Below.refl _ _ | refine bstep ?_ hB | refine Below.setCell ?_ (by simp <;> omega) _ | refine balloc ?_ _ | refine Below.drew ?_ | refine bdrewN ?_ _))
    | true =>
      rw [hf] at FI
      have WO := Lib.hid (fun W (B : Below w.heap.size w W) => worstP_any A R C c cr cc M rows cols W (arg_in h.arg B))
      by_cases dz : detR M rows cols = 0
      · rw [offd_e (fcd_z hv hf hc dz) (by decide)]
        have e : (wrs M rows cols).2 = 11 := by
          have z := (dvz_v (rows := rows) (cols := cols) hv).2.1 hc dz
          unfold wrs
          rw [z]; rfl
        rw [e] at WO
        clear h k hv hc hf dz e
        generalize (wrs M rows cols).1 = rr at *
        go_enter Try.func47, Try.ntmps47
        go_wp2_with fail
        with_reducible refine (CH.out _ R0.out.bel).mono ?_
        rintro e w2 ⟨rfl, rfl⟩
        go_wp2_with fail
        with_reducible refine (FI.out _ R0.out.bel).mono ?_
        rintro e w2 ⟨rfl, rfl⟩
        go_wp2_with fail
        with_reducible refine (WO.out _ R0.out.bel).mono ?_
        rintro e w2 ⟨rfl, hb⟩
        have R2 := Lib.hid (rz_below R0.out hb)
        clear hb
        obtain ⟨r0, r1, r2, r3, r4⟩ := rz_s R2.out
        go_wp2_with fail
        refine bodyPost_ret (v := .tuple #[rtv (0, 0), .int .i64 11]) (by rw [results_cellF2 rfl]; go_simp) rfl ⟨rfl, ?_⟩
        have hB := R2.out.bel
        (repeat' (first | exact Below.refl _ _ | refine bstep ?_ hB | refine Below.setCell ?_ (by simp <;> omega) _ | refine balloc ?_ _ | refine Below.drew ?_ | refine bdrewN ?_ _))
      · have f0 := fcd_0 (x := x) hv hf hc dz
        rw [offd_0 f0, ← off_eq dz]
        have z0 := (dvz_v (rows := rows) (cols := cols) hv).2.2 hc dz
        rw [wrs_0 z0] at WO
        have wb := wrs_bd (chs_of h.arg k) dz
        have w1 := (ratq_abs (n := wst M rows cols) (d := absI (detR M rows cols)) (by unfold absI; split <;> omega)).2.2
        obtain ⟨fx, bx⟩ := fitB_of hf
        have nn : (rw_ M 0).length ≤ 6 := (vcode_pos hv).2.2
        have SB := Lib.hid (fun k (hk : k ≤ x.length) => asum_bd bx hk)
        have AB := Lib.hid (fun k (hk : k < x.length) W => absC_any (at_ x k) W (by have := bx k hk; omega) (by have := bx k hk; omega))
        have AX := Lib.hid (fun k (hk : k < x.length) => absI_bd (bx k hk).1 (bx k hk).2)
        have AS := Lib.hid (fun k => (show asum x (k + 1) = asum x k + absI (at_ x k) from rfl))
        have HX := Lib.hid h.xI
        rw [← fx] at nn ⊢
        generalize ratq (wst M rows cols) (absI (detR M rows cols)) = rr at *
        obtain ⟨u, v⟩ := rr
        obtain ⟨u1, u2, v1, v2⟩ := wb
        have u1 : 0 ≤ u := u1
        have u2 : u ≤ 720000000000000 := u2
        have v2 : v ≤ 1200000000000 := v2
        have w1 : 1 ≤ v := w1
        have sb := SB.out x.length (Nat.le_refl _)
        have pb := prod_bd u1 u2 sb.1 (show asum x x.length ≤ 6000 by omega)
        have pb1 : 0 ≤ u * asum x x.length := pb.1
        have pb2 : u * asum x x.length ≤ 4320000000000000000 := pb.2
        have QU := Lib.hid (fun W => quo_any (u * asum x x.length) v W (by omega) (by omega) (by omega) (by omega) (by omega))
        obtain ⟨rr, hrr⟩ : ∃ rr, ratq (u * asum x x.length) v = rr := ⟨_, rfl⟩
        have WX := Lib.hid (show -9000000000000000000 ≤ u * asum x x.length ∧ u * asum x x.length ≤ 9000000000000000000 by omega)
        rw [show ratq ((u, v).1 * asum x x.length) (u, v).2 = rr from hrr]
        rw [hrr] at QU
        have nx6 : (x.length : Int) ≤ 6 := by omega
        clear h k hv hc hf dz f0 z0 hrr fx bx pb pb1 pb2 sb u1 u2 v1 v2 w1
        go_enter Try.func47, Try.ntmps47
        go_wp2_with fail
        with_reducible refine (CH.out _ R0.out.bel).mono ?_
        rintro e w2 ⟨rfl, rfl⟩
        go_wp2_with fail
        with_reducible refine (FI.out _ R0.out.bel).mono ?_
        rintro e w2 ⟨rfl, rfl⟩
        go_wp2_with fail
        with_reducible refine (WO.out _ R0.out.bel).mono ?_
        rintro e w2 ⟨rfl, hb⟩
        have R2 := Lib.hid (rz_below R0.out hb)
        have R3 := Lib.hid (rz_alloc R2.out (rtc (u, v)))
        have Y3 := Lib.hid (rbk_new w2 (u, v))
        clear hb
        go_wp2_with fail
        generalize w2.alloc (rtc (u, v)) = W1 at *
        generalize w2.heap.size = q at *
        go_loop [13, 42] (fun sv kv => ∃ k : Nat, k ≤ x.length ∧ kv = .int .i64 k ∧ sv = .int .i64 (asum x k)) (fun _ kv => x.length - (intOf kv).toNat)
        case atStart => exact ⟨0, Nat.zero_le _, rfl, rfl⟩
        case round =>
          obtain ⟨k, hk, rfl, rfl⟩ := hrel
          by_cases hlt : k < x.length
          · have hk1 : (k : Int) < (x.length : Int) := by omega
            have hk0 : 0 ≤ (k : Int) := by omega
            obtain ⟨b2, o2, rfl, hb2, hc2⟩ := il_in HX.out R3.out.bel k hlt
            have ABk := Lib.hid (AB.out k hlt)
            have s1 := SB.out k hk
            have s2 := AX.out k hlt
            have ASk := Lib.hid (AS.out k)
            generalize asum x k = p at *
            generalize absI (at_ x k) = y at *
            generalize at_ x k = z at *
            obtain ⟨s11, s12⟩ := s1
            obtain ⟨s21, s22⟩ := s2
            have s12 : p ≤ 6000 := by omega
            go_wp2_with fail
            with_reducible refine (ABk.out _).mono ?_
            rintro e w3 ⟨rfl, rfl⟩
            go_wp2_with fail
            go_round
            case rel => exact ⟨k + 1, by omega, by go_num, by rw [ASk.out]⟩
            case measure => simp [intOf]; omega
          · obtain rfl : k = x.length := by omega
            obtain ⟨y0, y1, y2⟩ := rbk_s Y3.out
            clear SB AB AX AS
            generalize asum x x.length = S at *
            obtain ⟨wx1, wx2⟩ := WX.out
            go_wp2_with fail
            with_reducible refine (QU.out _).mono ?_
            rintro e w4 ⟨rfl, hb⟩
            have R4 := Lib.hid (rz_below R3.out hb)
            clear hb y0 y1 y2 wx1 wx2
            obtain ⟨r0, r1, r2, r3, r4⟩ := rz_s R4.out
            go_wp2_with fail
            refine bodyPost_ret (v := .tuple #[rtv rr, .int .i64 0]) (by rw [results_cellF2 rfl]; go_simp) rfl ⟨rfl, ?_⟩
            have hB := R4.out.bel
            (repeat' (first | exact Below.refl _ _ | refine bstep ?_ hB | refine Below.setCell ?_ (by simp <;> omega) _ | refine balloc ?_ _ | refine Below.drew ?_ | refine bdrewN ?_ _))
  · have f1 : fcd M rows cols x = kcode M rows cols := by
      by_cases hv : vcode M = 0
      · cases c : chB M rows cols with
        | true => exact absurd (kcode_good hv c) k
        | false => rw [fcd_c hv c, kcode_bad hv c]
      · rw [fcd_v hv, kcode_v hv]
    rw [offd_e f1 k]
    clear h f1
    generalize kcode M rows cols = e at *
    have t1 : (e != 0) = true := by simp [k]
    have t2 : (e == 0) = false := by simp [k]
    clear k
    obtain ⟨r0, r1, r2, r3, r4⟩ := rz_s R0.out
    go_enter Try.func47, Try.ntmps47
    go_wp2_with fail
    with_reducible refine (CH.out _ R0.out.bel).mono ?_
    rintro e w2 ⟨rfl, rfl⟩
    go_wp2_with fail
    refine bodyPost_ret (v := .tuple #[rtv (0, 0), .int .i64 e]) (by rw [results_cellF2 rfl]; go_simp) rfl ⟨rfl, ?_⟩
    have hB := R0.out.bel
    (repeat' (first | exact Below.refl _ _ | refine bstep ?_ hB | refine Below.setCell ?_ (by simp <;> omega) _ | refine balloc ?_ _ | refine Below.drew ?_ | refine bdrewN ?_ _))
set_option maxRecDepth 100000 in
set_option maxHeartbeats 4000000 in
theorem roff_any (A R C X : Option Addr) (c cr cc cx : Nat) (M : List (List Int)) (rows cols x : List Int) (w : World) (h : ArX w A M R C X rows cols x) (hcr : rows.length ≤ cr) (hcc : cols.length ≤ cc) :
    Calls Try.prog 48 #[.slice A M.length c, .slice R rows.length cr, .slice C cols.length cc, .slice X x.length cx] w fun e w' => e = .returned (.tuple #[rtv (offd M rows cols x).1, .int .i64 (offd M rows cols x).2]) ∧ Below w.heap.size w w' := by
  have R0 := Lib.hid (rz_new w)
  have AP := Lib.hid (fun W (B : Below w.heap.size w W) => app_any A R C X c cr cc cx M rows cols x W (arx_in h B) hcr hcc)
  by_cases z : fcd M rows cols x = 0
  · rw [apz_0 z] at AP
    have hv : vcode M = 0 := Classical.byContradiction fun n => by rw [fcd_v n] at z; exact n z
    have hf : fitB M x = true := by
      cases e : fitB M x with
      | true => rfl
      | false => rw [fcd_f hv e] at z; cases z
    have hc : chB M rows cols = true := by
      cases e : chB M rows cols with
      | true => rfl
      | false => rw [fcd_c hv e] at z; cases z
    have dz : detR M rows cols ≠ 0 := fun d => by rw [fcd_z hv hf hc d] at z; cases z
    have k := kcode_good hv hc
    have ho := chs_of h.arg k
    have hl := (cho_of h.arg k).2
    rw [offd_0 z]
    rw [hl] at AP ⊢
    obtain ⟨fx, bx⟩ := fitB_of hf
    have nn : (rw_ M 0).length ≤ 6 := (vcode_pos hv).2.2
    have W6 := wst6 ho
    have D6 := detC6 ho
    have ad : absI (detR M rows cols) ≠ 0 := by unfold absI; split <;> omega
    obtain ⟨a1, a2⟩ := absI_bd D6.1 D6.2.1
    have WO := Lib.hid (fun W (B : Below w.heap.size w W) => rworst_any A R C c cr cc M rows cols W (chs_in ho B))
    have AD := Lib.hid (fun W => size_any (detR M rows cols) W (by omega) (by omega))
    have SB := Lib.hid (fun k (hk : k ≤ x.length) => asum_bd bx hk)
    have AB := Lib.hid (fun k (hk : k < x.length) W => size_any (at_ x k) W (by have := bx k hk; omega) (by have := bx k hk; omega))
    have AX := Lib.hid (fun k (hk : k < x.length) => absI_bd (bx k hk).1 (bx k hk).2)
    have AS := Lib.hid (fun k => (show asum x (k + 1) = asum x k + absI (at_ x k) from rfl))
    have HX := Lib.hid h.xI
    rw [← fx] at nn ⊢
    have sb := SB.out x.length (Nat.le_refl _)
    have pb := prod_bd W6.1 W6.2.1 sb.1 (show asum x x.length ≤ 6000 by omega)
    have pb1 : 0 ≤ wst M rows cols * asum x x.length := pb.1
    have pb2 : wst M rows cols * asum x x.length ≤ 4320000000000000000 := pb.2
    have QU := Lib.hid (fun W => ratio_any (wst M rows cols * asum x x.length) (absI (detR M rows cols)) W ad (by omega) (by omega) (by omega) (by omega))
    have WX := Lib.hid (show -9000000000000000000 ≤ wst M rows cols * asum x x.length ∧ wst M rows cols * asum x x.length ≤ 9000000000000000000 by omega)
    obtain ⟨rr, hrr⟩ : ∃ rr, ratq (wst M rows cols * asum x x.length) (absI (detR M rows cols)) = rr := ⟨_, rfl⟩
    rw [hrr] at QU ⊢
    have nx6 : (x.length : Int) ≤ 6 := by omega
    clear h k hv hc hf dz z hrr fx bx pb pb1 pb2 sb W6 D6 ad a1 a2 ho hl hcr hcc
    generalize absI (detR M rows cols) = ad at *
    generalize detR M rows cols = d at *
    generalize wst M rows cols = ws at *
    go_enter Try.func48, Try.ntmps48
    go_wp2_with fail
    with_reducible refine (AP.out _ R0.out.bel).mono ?_
    rintro e w2 ⟨rfl, hb⟩
    have R2 := Lib.hid (rz_below R0.out hb)
    clear hb
    go_wp2_with fail
    go_loop [12, 13] (fun sv kv => ∃ k : Nat, k ≤ x.length ∧ kv = .int .i64 k ∧ sv = .int .i64 (asum x k)) (fun _ kv => x.length - (intOf kv).toNat)
    case atStart => exact ⟨0, Nat.zero_le _, rfl, rfl⟩
    case round =>
      obtain ⟨k, hk, rfl, rfl⟩ := hrel
      by_cases hlt : k < x.length
      · have hk1 : (k : Int) < (x.length : Int) := by omega
        have hk0 : 0 ≤ (k : Int) := by omega
        obtain ⟨b2, o2, rfl, hb2, hc2⟩ := il_in HX.out R2.out.bel k hlt
        have ABk := Lib.hid (AB.out k hlt)
        have s1 := SB.out k hk
        have s2 := AX.out k hlt
        have ASk := Lib.hid (AS.out k)
        generalize asum x k = p at *
        generalize absI (at_ x k) = y at *
        generalize at_ x k = z at *
        obtain ⟨s11, s12⟩ := s1
        obtain ⟨s21, s22⟩ := s2
        have s12 : p ≤ 6000 := by omega
        go_wp2_with fail
        with_reducible refine (ABk.out _).mono ?_
        rintro e w3 ⟨rfl, rfl⟩
        go_wp2_with fail
        go_round
        case rel => exact ⟨k + 1, by omega, by go_num, by rw [ASk.out]⟩
        case measure => simp [intOf]; omega
      · obtain rfl : k = x.length := by omega
        clear SB AB AX AS
        generalize asum x x.length = S at *
        obtain ⟨wx1, wx2⟩ := WX.out
        go_wp2_with fail
        with_reducible refine (WO.out _ R2.out.bel).mono ?_
        rintro e w3 ⟨rfl, hb⟩
        have R3 := Lib.hid (rz_below R2.out hb)
        clear hb
        go_wp2_with fail
        with_reducible refine (AD.out _).mono ?_
        rintro e w4 ⟨rfl, rfl⟩
        go_wp2_with fail
        with_reducible refine (QU.out _).mono ?_
        rintro e w4 ⟨rfl, hb⟩
        have R4 := Lib.hid (rz_below R3.out hb)
        clear hb
        clear wx1 wx2
        obtain ⟨r0, r1, r2, r3, r4⟩ := rz_s R4.out
        go_wp2_with fail
        refine bodyPost_ret (v := .tuple #[rtv rr, .int .i64 0]) (by rw [results_cellF2 rfl]; go_simp) rfl ⟨rfl, ?_⟩
        have hB := R4.out.bel
        (repeat' (first | exact Below.refl _ _ | refine bstep ?_ hB | refine Below.setCell ?_ (by simp <;> omega) _ | refine balloc ?_ _ | refine Below.drew ?_ | refine bdrewN ?_ _))
  · rw [apz_e rfl z] at AP
    rw [offd_e rfl z]
    clear h hcr hcc
    generalize fcd M rows cols x = e at *
    have t1 : (e != 0) = true := by simp [z]
    have t2 : (e == 0) = false := by simp [z]
    clear z
    go_enter Try.func48, Try.ntmps48
    go_wp2_with fail
    with_reducible refine (AP.out _ R0.out.bel).mono ?_
    rintro e w2 ⟨rfl, hb⟩
    have R2 := Lib.hid (rz_below R0.out hb)
    clear hb
    obtain ⟨r0, r1, r2, r3, r4⟩ := rz_s R2.out
    go_wp2_with fail
    refine bodyPost_ret (v := .tuple #[rtv (0, 0), .int .i64 e]) (by rw [results_cellF2 rfl]; go_simp) rfl ⟨rfl, ?_⟩
    have hB := R2.out.bel
    (repeat' (first | exact Below.refl _ _ | refine bstep ?_ hB | refine Below.setCell ?_ (by simp <;> omega) _ | refine balloc ?_ _ | refine Below.drew ?_ | refine bdrewN ?_ _))

end Go.Proofs.Ytefmlcojbfiehaa
