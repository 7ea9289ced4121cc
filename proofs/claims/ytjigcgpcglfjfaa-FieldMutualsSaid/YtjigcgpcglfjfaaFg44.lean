/-
  A panel's source, seen from a triangle: seenFrom, with its value.
-/
import Derived.Test.YtjigcgpcglfjfaaFg43
namespace Go.Proofs.Ytjigcgpcglfjfaa
open Go.ChangeShapes Go.WideShapes Go.RowKit
open Sh
/-- a part seen from a triangle: its low end, its high end, and the means -/
def vFar (t : P9) (D : Int) (u : P9) (k : Nat) : Int := fG (P3F (ptk t D k)) (P3F u) 3 3
def vNear (t : P9) (D : Int) (u : P9) (k : Nat) : Int := nG (loN (P3F (ptk t D k)) 3) (hiN (P3F (ptk t D k)) 3) (loN (P3F u) 3) (hiN (P3F u) 3)
def vLo (t : P9) (D : Int) (u : P9) (k : Nat) : Int := (kV false (vFar t D u k) (scl D)).1.1
def vHi (t : P9) (D : Int) (u : P9) (rm : Int) (k : Nat) : Int := if vNear t D u k = 0 then rm else Sp.mn rm (kV false (vNear t D u k) (scl D)).1.2
def vSee (t : P9) (D : Int) (u : P9) (rm : Int) : Int × Int := (sm (vLo t D u) (ptn D) / (ptn D : Int), (sm (vHi t D u rm) (ptn D) + (ptn D : Int) - 1) / (ptn D : Int))
theorem kVf_bd (m : Int) {k : Int} (k1 : 1 ≤ k) (k2 : k ≤ 8) : 0 ≤ (kV false m k).1.1 ∧ (kV false m k).1.1 ≤ 1000000000 ∧ 0 ≤ (kV false m k).1.2 ∧ (kV false m k).1.2 ≤ 1000000000 := by
  by_cases h : 1 ≤ m ∧ m ≤ 1099511627776
  · obtain ⟨r, u, e, h1, h2⟩ := kV_val false h.1 h.2 k1 k2
    rw [e]
    show 0 ≤ (r : Int) ∧ (r : Int) ≤ 1000000000 ∧ 0 ≤ (u : Int) ∧ (u : Int) ≤ 1000000000
    omega
  · have e : kV false m k = ((0, 0), 1) := by
      show invR m k = _
      unfold invR
      rw [if_neg (fun z => h ⟨z.1, z.2.1⟩)]
    rw [e]
    decide
theorem vHi_bd (t : P9) (D : Int) (u : P9) {rm : Int} (k : Nat) (d0 : 0 ≤ D) (d3 : D ≤ 3) (r0 : 0 ≤ rm) (r1 : rm ≤ 67108864) : 0 ≤ vHi t D u rm k ∧ vHi t D u rm k ≤ 1000000000 := by
  obtain ⟨_, s1, s2⟩ := scl_vals d0 d3
  have := kVf_bd (vNear t D u k) s1 s2
  unfold vHi
  split
  · omega
  · rw [Sp.mn_eq]
    omega
theorem sub_bd5 {a y : P3} (h : BdP 512 a) (k : BdP 512 y) : BdP 1000000 (sub a y) := by
  obtain ⟨a1, a2, a3, a4, a5, a6⟩ := h
  obtain ⟨b1, b2, b3, b4, b5, b6⟩ := k
  simp only [BdP, sub]
  omega
theorem p3f_bd {M : Int} {t : P9} (h : BdT M t) {i : Nat} (hi : i < 3) : BdP M (P3F t i) := by
  match i, hi with
  | 0, _ => exact h.1
  | 1, _ => exact h.2.1
  | 2, _ => exact h.2.2
set_option maxRecDepth 100000 in
set_option maxHeartbeats 4000000 in
theorem sfr_any (t u : P9) (D rm : Int) (q cp b : Nat) (gs : List (Nat × P9)) (w : World) (hB : BdT 64 t) (hu : BdT 512 u) (d0 : 0 ≤ D) (d3 : D ≤ 3) (r : RowGs w q gs.length gs) (hgs : gs.map Prod.snd = cutP D.toNat t) (hq : PtB w b u) (r0 : 0 ≤ rm) (r1 : rm ≤ 67108864) :
    Calls Try.prog 69 #[.agg #[.slice (some ⟨q, 0, none⟩) gs.length cp, .int .i64 (scl D), .int .i64 rm], grv b 3 3 (loN (P3F u) 3) (hiN (P3F u) 3)] w fun e w' => e = .returned (.agg #[.int .i64 (vSee t D u rm).1, .int .i64 (vSee t D u rm).2]) ∧ Below w.heap.size w w' := by
  obtain ⟨_, s1, s2⟩ := scl_vals d0 d3
  obtain ⟨n0, n1⟩ := ptn_vals d0 d3
  have hl := gs_len hgs
  have hlu := (lo3_bd hu).mono (show (512 : Int) ≤ 1000000 by decide)
  have hhu := (hi3_bd hu).mono (show (512 : Int) ≤ 1000000 by decide)
  refine sfr_walk q gs.length cp b 3 3 (loN (P3F u) 3) (hiN (P3F u) 3) (scl D) rm _ _ w (Lib.hid fun W bv bs hB1 hv hs => ?_)
  have z := gavs_any b 3 3 (loN (P3F u) 3) (hiN (P3F u) 3) (scl D) bv bs q gs.length cp gs (vLo t D u) (vHi t D u rm) W (rowgs_in r hB1) (by omega) (by omega)
    (fun k hk => by have := kVf_bd (vFar t D u k) s1 s2; exact ⟨this.1, this.2.1⟩)
    (fun k hk => vHi_bd t D u k d0 d3 r0 r1)
    (Lib.hid fun k hk W' B' => by
      have hb := ptk_bd9 hB d0 d3 (k := k) (by omega)
      have e := gA_snd hgs hk
      have e2 : fG (P3F (gA gs k).2) (P3F u) 3 3 = vFar t D u k := by rw [e]; rfl
      have B9 : Below w.heap.size w W' := Below.trans hB1 (B'.mono hB1.size)
      exact floi_any (gA gs k).1 3 3 b 3 3 (loN (P3F (gA gs k).2) 3) (hiN (P3F (gA gs k).2) 3) (loN (P3F u) 3) (hiN (P3F u) 3) (scl D) (kV false (vFar t D u k) (scl D)) W' (P3F (gA gs k).2) (P3F u) (rwg_below (ptb_row (r.2 k hk).2) B9) (rwg_below (ptb_row hq) B9) (by decide) (by decide) (fun i hi j hj => sub_bd5 (p3f_bd (by rw [e]; exact hb) hi) (p3f_bd hu hj)) (Lib.hid fun W2 => by rw [e2]; exact ki_any _ _ W2))
    (Lib.hid fun k hk W' B' => by
      have hb := ptk_bd9 hB d0 d3 (k := k) (by omega)
      have e := gA_snd hgs hk
      have e2 : nG (loN (P3F (gA gs k).2) 3) (hiN (P3F (gA gs k).2) 3) (loN (P3F u) 3) (hiN (P3F u) 3) = vNear t D u k := by rw [e]; rfl
      have hlp := (lo3_bd (t := (gA gs k).2) (by rw [e]; exact hb)).mono (show (512 : Int) ≤ 1000000 by decide)
      have hhp := (hi3_bd (t := (gA gs k).2) (by rw [e]; exact hb)).mono (show (512 : Int) ≤ 1000000 by decide)
      have hv' := vwp_in hv B' hv.2
      have hs' := srB_in hs B' hs.2
      have TC := fun W2 => ftouch_any (gA gs k).1 3 3 b 3 3 (loN (P3F (gA gs k).2) 3) (hiN (P3F (gA gs k).2) 3) (loN (P3F u) 3) (hiN (P3F u) 3) (scl D) (.func (.func 50) #[] #[]) W2 hlp hhp hlu hhu
      rw [e2] at TC
      unfold vHi
      by_cases hz : vNear t D u k = 0
      · rw [if_pos hz]
        rw [hz] at TC
        exact sfc_hit (gA gs k).1 3 3 b 3 3 _ _ _ _ (scl D) rm bv bs _ W' hv' hs' (Lib.hid TC)
      · rw [if_neg hz]
        rw [show (vNear t D u k == 0) = false from beq_false_of_ne hz] at TC
        exact sfc_miss (gA gs k).1 3 3 b 3 3 _ _ _ _ (scl D) rm bv bs _ _ W' hv' hs' (Lib.hid TC) (Lib.hid fun W2 => fhii_any (gA gs k).1 3 3 b 3 3 (loN (P3F (gA gs k).2) 3) (hiN (P3F (gA gs k).2) 3) (loN (P3F u) 3) (hiN (P3F u) 3) (scl D) (kV false (vNear t D u k) (scl D)) W2 hlp hhp hlu hhu (Lib.hid fun W3 => by rw [e2]; exact ki_any _ _ W3)))
  unfold vSee
  rw [hl] at z ⊢
  exact z

end Go.Proofs.Ytjigcgpcglfjfaa
