/-
  The contract of volume, the document's answer.
-/
import Derived.Test.YtefmlcojbfiehaaCrS6
import Derived.BigQuiet
namespace Go.Proofs.Ytefmlcojbfiehaa
open Go.ChangeShapes Go.WideShapes Go.RowKit
open Cr
def VS (w : World) (x0 y0 : Nat) (A0 : Option Addr) (m c0 : Nat) (w1 : World) : Prop := w1.cell? ⟨x0, y0, none⟩ = some (.slice A0 m c0) ∧ Below w.heap.size w w1 ∧ x0 < w1.heap.size
theorem vs_s {w : World} {x0 y0 : Nat} {A0 : Option Addr} {m c0 : Nat} {w1 : World} (h : VS w x0 y0 A0 m c0 w1) : w1.cell? ⟨x0, y0, none⟩ = some (.slice A0 m c0) ∧ Below w.heap.size w w1 ∧ x0 < w1.heap.size := h
theorem vs_of {w : World} {x0 y0 : Nat} {A0 : Option Addr} {m c0 : Nat} {w1 : World} (h : w1.cell? ⟨x0, y0, none⟩ = some (.slice A0 m c0) ∧ Below w.heap.size w w1 ∧ x0 < w1.heap.size) : VS w x0 y0 A0 m c0 w1 := h
theorem vs_drew {w : World} {x0 y0 : Nat} {A0 : Option Addr} {m c0 : Nat} {w1 : World} (h : VS w x0 y0 A0 m c0 w1) : VS w x0 y0 A0 m c0 w1.drew := by
  obtain ⟨h0, hB, b0⟩ := h
  exact ⟨h0, Below.drew hB, b0⟩
theorem vs_drewN {w : World} {x0 y0 : Nat} {A0 : Option Addr} {m c0 : Nat} {w1 : World} (h : VS w x0 y0 A0 m c0 w1) (kk : Nat) : VS w x0 y0 A0 m c0 (w1.drewN kk) := by
  obtain ⟨h0, hB, b0⟩ := h
  exact ⟨h0, bdrewN hB kk, b0⟩
theorem vs_bel {w : World} {x0 y0 : Nat} {A0 : Option Addr} {m c0 : Nat} {w1 : World} (h : VS w x0 y0 A0 m c0 w1) : Below w.heap.size w w1 := by
  obtain ⟨h0, hB, b0⟩ := h
  exact hB
theorem vs_below {w : World} {x0 y0 : Nat} {A0 : Option Addr} {m c0 : Nat} {w1 w2 : World} (h : VS w x0 y0 A0 m c0 w1) (hb : Below w1.heap.size w1 w2) : VS w x0 y0 A0 m c0 w2 := by
  obtain ⟨h0, hB, b0⟩ := h
  exact ⟨(hb.cell (p := ⟨x0, y0, none⟩) b0).trans h0, bstep hB hb, Nat.lt_of_lt_of_le b0 hb.size⟩
def VT (w : World) (x1 y1 : Nat) (R : Option Addr) (cr x3 y3 : Nat) (E : Option Addr) (ce q : Nat) (w1 : World) : Prop := w1.cell? ⟨x1, y1, none⟩ = some (.slice R q cr) ∧ w1.cell? ⟨x3, y3, none⟩ = some (.slice E q ce) ∧ Below w.heap.size w w1 ∧ x1 < w1.heap.size ∧ x3 < w1.heap.size
theorem vt_s {w : World} {x1 y1 : Nat} {R : Option Addr} {cr x3 y3 : Nat} {E : Option Addr} {ce q : Nat} {w1 : World} (h : VT w x1 y1 R cr x3 y3 E ce q w1) : w1.cell? ⟨x1, y1, none⟩ = some (.slice R q cr) ∧ w1.cell? ⟨x3, y3, none⟩ = some (.slice E q ce) ∧ Below w.heap.size w w1 ∧ x1 < w1.heap.size ∧ x3 < w1.heap.size := h
theorem vt_of {w : World} {x1 y1 : Nat} {R : Option Addr} {cr x3 y3 : Nat} {E : Option Addr} {ce q : Nat} {w1 : World} (h : w1.cell? ⟨x1, y1, none⟩ = some (.slice R q cr) ∧ w1.cell? ⟨x3, y3, none⟩ = some (.slice E q ce) ∧ Below w.heap.size w w1 ∧ x1 < w1.heap.size ∧ x3 < w1.heap.size) : VT w x1 y1 R cr x3 y3 E ce q w1 := h
theorem vt_drew {w : World} {x1 y1 : Nat} {R : Option Addr} {cr x3 y3 : Nat} {E : Option Addr} {ce q : Nat} {w1 : World} (h : VT w x1 y1 R cr x3 y3 E ce q w1) : VT w x1 y1 R cr x3 y3 E ce q w1.drew := by
  obtain ⟨h0, h1, hB, b0, b1⟩ := h
  exact ⟨h0, h1, Below.drew hB, b0, b1⟩
theorem vt_drewN {w : World} {x1 y1 : Nat} {R : Option Addr} {cr x3 y3 : Nat} {E : Option Addr} {ce q : Nat} {w1 : World} (h : VT w x1 y1 R cr x3 y3 E ce q w1) (kk : Nat) : VT w x1 y1 R cr x3 y3 E ce q (w1.drewN kk) := by
  obtain ⟨h0, h1, hB, b0, b1⟩ := h
  exact ⟨h0, h1, bdrewN hB kk, b0, b1⟩
theorem vt_bel {w : World} {x1 y1 : Nat} {R : Option Addr} {cr x3 y3 : Nat} {E : Option Addr} {ce q : Nat} {w1 : World} (h : VT w x1 y1 R cr x3 y3 E ce q w1) : Below w.heap.size w w1 := by
  obtain ⟨h0, h1, hB, b0, b1⟩ := h
  exact hB
theorem vt_below {w : World} {x1 y1 : Nat} {R : Option Addr} {cr x3 y3 : Nat} {E : Option Addr} {ce q : Nat} {w1 w2 : World} (h : VT w x1 y1 R cr x3 y3 E ce q w1) (hb : Below w1.heap.size w1 w2) : VT w x1 y1 R cr x3 y3 E ce q w2 := by
  obtain ⟨h0, h1, hB, b0, b1⟩ := h
  exact ⟨(hb.cell (p := ⟨x1, y1, none⟩) b0).trans h0, (hb.cell (p := ⟨x3, y3, none⟩) b1).trans h1, bstep hB hb, Nat.lt_of_lt_of_le b0 hb.size, Nat.lt_of_lt_of_le b1 hb.size⟩
set_option maxHeartbeats 4000000 in
theorem rvolume_any (A : Option Addr) (c n m q : Nat) (M : List (List Int)) (w : World) (hM : ML w A M) (sq : Sq n m M) (n1 : 1 ≤ n) (n6 : n ≤ 6) (m6 : m ≤ 6) (qn : q ≤ n) :
    Calls Try.prog 63 #[.slice A n c, .int .i64 (q : Int)] w fun e w' => e = .returned (.int .i64 (gv M n m q 0)) ∧ Below w.heap.size w w' := by
  have S1 := Lib.hid (fun W => rsets_any n q W n6 (by omega))
  have S2 := Lib.hid (fun W => rsets_any m q W m6 (by omega))
  have MI := Lib.hid (fun W (B : Below w.heap.size w W) i j R E cr ce (hi : i < (setsN n q).length) (hj : j < (setsN m q).length) (h1 : q ≤ cr) (h2 : q ≤ ce) (i1 : IL W R (rw_ (setsN n q) i)) (i2 : IL W E (rw_ (setsN m q) j)) =>
    rdet_any n m c M sq q A R E cr ce (rw_ (setsN n q) i) (rw_ (setsN m q) j) W (by omega) (sets_under n6 hi).2 (sets_under m6 hj).2 h1 h2 (ml_in hM B) i1 i2 (sets_under n6 hi).1 (sets_under m6 hj).1)
  have AB := Lib.hid (fun W i j (hi : i < (setsN n q).length) (hj : j < (setsN m q).length) => size_any (detR M (rw_ (setsN n q) i) (rw_ (setsN m q) j)) W (by have := fa_bd sq n6 m6 (by omega) hi hj; omega) (by have := fa_bd sq n6 m6 (by omega) hi hj; omega))
  have LR := Lib.hid (fun i (hi : i < (setsN n q).length) => (sets_under n6 hi).2)
  have LC := Lib.hid (fun j (hj : j < (setsN m q).length) => (sets_under m6 hj).2)
  have FA := Lib.hid (show ∀ i j, absI (detR M (rw_ (setsN n q) i) (rw_ (setsN m q) j)) = fa M n m q i j from fun i j => rfl)
  have X1 := sets_max n (by omega) q (by omega)
  have X2 := sets_max m (by omega) q (by omega)
  obtain ⟨b0, o0, A0, c0, rfl, hb0, hc0, _, _⟩ := hM 0 (by rw [sq.len]; omega)
  rw [rw_len sq (by omega)] at hc0
  have hc0 : w.cell? ⟨b0, o0, none⟩ = some (.slice A0 m c0) := hc0
  have V0 := Lib.hid (vs_of (w := w) (w1 := w) (x0 := b0) (y0 := o0) (A0 := A0) (m := m) (c0 := c0) ⟨hc0, Below.refl _ _, hb0⟩)
  have nn : (n : Int) ≤ 6 := by omega
  have n0 : (0 : Int) < (n : Int) := by omega
  have n01 : 1 ≤ (n : Int) := by omega
  have n02 : 0 < n := by omega
  unfold gv
  obtain ⟨a1, e1⟩ : ∃ a, (setsN n q).length = a := ⟨_, rfl⟩
  obtain ⟨a2, e2⟩ : ∃ a, (setsN m q).length = a := ⟨_, rfl⟩
  rw [e1, e2]
  rw [e1] at S1 MI AB LR X1
  rw [e2] at S2 MI AB LC X2
  have E1 := Lib.hid e1
  have E2 := Lib.hid e2
  clear hM sq n1 n6 m6 qn hc0 hb0 e1 e2
  generalize fa M n m q = f at *
  go_enter Try.func63, Try.ntmps63
  go_wp2_with fail
  go_region_held3 (fun w' => w'.cell? ⟨b0, o0, none⟩ = some (.slice A0 m c0) ∧ Below w.heap.size w w' ∧ b0 < w'.heap.size)
    (first | with_reducible exact vs_s (vs_drew V0.out) | with_reducible exact vs_s V1.out | with_reducible exact vs_s V2.out | fail)
    (first
      | (go_at_call 78; (with_reducible refine (S1.out _).mono ?_); rintro e w2 ⟨A2, c2, rfl, hL, hb⟩; have V1 := Lib.hid (vs_below (vs_of (by assumption)) hb); have HLa := Lib.hid hL; have hba := Lib.hid hb; clear hL hb)
      | (go_at_call 78; (with_reducible refine (S2.out _).mono ?_); rintro e w3 ⟨A3, c3, rfl, hL, hb⟩; have V2 := Lib.hid (vs_below (vs_of (by assumption)) hb); have HLc := Lib.hid hL; have hbc := Lib.hid hb; clear hL hb)
      | fail)
  all_goals
    have HL := Lib.hid (by first | exact ml_in HLa.out hbc.out | exact HLa.out)
    have HC := Lib.hid (by first | exact ml_in HLc.out hba.out | exact HLc.out)
    have HB := Lib.hid (by first | exact vs_bel V2.out | exact vs_bel V1.out)
    clear HLa HLc hba hbc V0 V1 V2
    go_wp2_with fail
    go_loopw [5, 8] (fun vv kv wr => ∃ i : Nat, i ≤ a1 ∧ kv = .int .i64 (i : Int) ∧ vv = .int .i64 (allG f a2 i 0) ∧ ML wr A2 (setsN n q) ∧ ML wr A3 (setsN m q) ∧ Below w.heap.size w wr) (fun _ kv _ => a1 - (intOf kv).toNat)
    case atStart => exact ⟨0, Nat.zero_le _, rfl, rfl, HL.out, HC.out, HB.out⟩
    case round =>
      clear HL HC HB
      rename World => wo
      obtain ⟨i, hi, rfl, rfl, hl, hc, B⟩ := hrel
      have HL := Lib.hid hl
      have HC := Lib.hid hc
      have HB := Lib.hid B
      by_cases hlt : i < a1
      · have hk1 : (i : Int) < (a1 : Int) := by omega
        have hk0 : 0 ≤ (i : Int) := by omega
        have X1' : (a1 : Int) ≤ 64 := by omega
        clear hl hc B
        go_wp2_with fail
        go_loopw [5, 9] (fun vv kv wi => ∃ j : Nat, j ≤ a2 ∧ kv = .int .i64 (j : Int) ∧ vv = .int .i64 (rowG (f i) j (allG f a2 i 0)) ∧ Below wo.heap.size wo wi) (fun _ kv _ => a2 - (intOf kv).toNat)
        case atStart => exact ⟨0, Nat.zero_le _, rfl, rfl, Below.refl _ _⟩
        case round =>
          rename World => wi
          obtain ⟨j, hj, rfl, rfl, B⟩ := hrel
          have BI := Lib.hid B
          by_cases hltj : j < a2
          · have hj1 : (j : Int) < (a2 : Int) := by omega
            have hj0 : 0 ≤ (j : Int) := by omega
            have X2' : (a2 : Int) ≤ 64 := by omega
            obtain ⟨b1, o1, R, cr, rfl, hb1, hc1, hl1, hr1⟩ := ml_in HL.out B i (by rw [E1.out]; exact hlt)
            obtain ⟨b3, o3, E, ce, rfl, hb3, hc3, hl3, hr3⟩ := ml_in HC.out B j (by rw [E2.out]; exact hltj)
            rw [LR.out i hlt] at hc1 hl1
            rw [LC.out j hltj] at hc3 hl3
            have VT0 := Lib.hid (vt_of (w := wi) (w1 := wi) (x1 := b1) (y1 := o1 + i) (x3 := b3) (y3 := o3 + j) (R := R) (cr := cr) (E := E) (ce := ce) (q := q) ⟨hc1, hc3, Below.refl _ _, hb1, hb3⟩)
            have IR := Lib.hid hr1
            have IE := Lib.hid hr3
            have BW := Lib.hid (bstep HB.out B)
            have MIj := Lib.hid (fun W (B : Below wi.heap.size wi W) => MI.out W (bstep BW.out B) i j R E cr ce hlt hltj hl1 hl3 (il_in IR.out B) (il_in IE.out B))
            have ABj := Lib.hid (fun W => AB.out W i j hlt hltj)
            rw [FA.out i j] at ABj
            clear B hb1 hb3 hl1 hl3 hr1 hr3
            generalize detR M (rw_ (setsN n q) i) (rw_ (setsN m q) j) = dd at *
            have RS : rowG (f i) (j + 1) (allG f a2 i 0) = mx (rowG (f i) j (allG f a2 i 0)) (f i j) := rfl
            go_wp2_with fail
            go_region_held3 (fun w' => w'.cell? ⟨b1, (o1 + i), none⟩ = some (.slice R q cr) ∧ w'.cell? ⟨b3, (o3 + j), none⟩ = some (.slice E q ce) ∧ Below wi.heap.size wi w' ∧ b1 < w'.heap.size ∧ b3 < w'.heap.size)
              (first | with_reducible exact vt_s (vt_drew VT0.out) | with_reducible exact vt_s V1.out | with_reducible exact vt_s V2.out | fail)
              (first
                | (go_at_call 56; (with_reducible refine (MIj.out _ (vt_bel (vt_of (by assumption)))).mono ?_); rintro e w2 ⟨rfl, hb⟩; have V1 := Lib.hid (vt_below (vt_of (by assumption)) hb); clear hb)
                | (go_at_call 74; (with_reducible refine (ABj.out _).mono ?_); rintro e w3 ⟨rfl, rfl⟩; have V2 := Lib.hid (vt_of (by assumption)))
                | fail)
            all_goals
              by_cases hgt : f i j > rowG (f i) j (allG f a2 i 0)
              · have RS := RS.trans (mx_1 hgt)
                have RSH := Lib.hid RS
                clear RS
                go_wp2_with fail
                go_roundw
                case rel => exact ⟨j + 1, by omega, by go_num, by rw [RSH.out], bstep BI.out (by first | exact vt_bel V2.out | exact vt_bel V1.out)⟩
                case measure => simp [intOf]; omega
              · have RS := RS.trans (mx_0 hgt)
                have RSH := Lib.hid RS
                clear RS
                go_wp2_with fail
                go_roundw
                case rel => exact ⟨j + 1, by omega, by go_num, by rw [RSH.out], bstep BI.out (by first | exact vt_bel V2.out | exact vt_bel V1.out)⟩
                case measure => simp [intOf]; omega
          · obtain rfl : j = a2 := by omega
            have AS : allG f j (i + 1) 0 = rowG (f i) j (allG f j i 0) := rfl
            have ASH := Lib.hid AS
            clear AS B
            go_wp2_with fail
            go_roundw
            case rel => exact ⟨i + 1, by omega, by go_num, by rw [ASH.out], ml_in HL.out BI.out, ml_in HC.out BI.out, bstep HB.out BI.out⟩
            case measure => simp [intOf]; omega
      · obtain rfl : i = a1 := by omega
        go_wp2_with fail
        go_ret
        exact ⟨rfl, B⟩

end Go.Proofs.Ytefmlcojbfiehaa
