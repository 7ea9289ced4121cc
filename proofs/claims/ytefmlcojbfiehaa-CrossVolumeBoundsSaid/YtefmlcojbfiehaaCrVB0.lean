/-
  The walk of CrossVolumeBounds.
-/
import Derived.Test.YtefmlcojbfiehaaCrV2
namespace Go.Proofs.Ytefmlcojbfiehaa
open Go.ChangeShapes Go.WideShapes Go.RowKit
open Cr
theorem rowG_le {f : Nat → Int} {b B : Int} (hb : b ≤ B) : ∀ {m : Nat}, (∀ j, j < m → f j ≤ B) → rowG f m b ≤ B
  | 0, _ => hb
  | m + 1, h => by
    have h1 := rowG_le (f := f) hb (m := m) fun j hj => h j (by omega)
    have h2 := h m (by omega)
    unfold rowG mx
    split <;> assumption
theorem allG_le {f : Nat → Nat → Int} {m : Nat} {b B : Int} (hb : b ≤ B) : ∀ {n : Nat}, (∀ i, i < n → ∀ j, j < m → f i j ≤ B) → allG f m n b ≤ B
  | 0, _ => hb
  | n + 1, h => rowG_le (allG_le hb (n := n) fun i hi => h i (by omega)) (h n (by omega))
theorem gv_bd {M : List (List Int)} {n m q : Nat} (s : Sq n m M) (hn : n ≤ 6) (hm : m ≤ 6) (hq : q ≤ 6) : gv M n m q (-1) ≤ 504000000000000000 := by
  refine allG_le (by omega) fun i hi j hj => ?_
  have h := fa_bd s hn hm hq hi hj
  unfold fa
  exact (absI_bd h.1 h.2).2
/-- the next volume, 0 if there is none -/
def nxt (M : List (List Int)) (k : Int) : Int := if (vlm M (k + 1)).2 = 0 then (vlm M (k + 1)).1 else 0
theorem lgv_of {w : World} {M : List (List Int)} {k : Int} {rv cv : Value} (hz : zcode M k = 0) (hv0 : (vlm M k).1 ≠ 0) (h : LG w M k rv cv) :
    ∃ (R : Option Addr) (cr : Nat) (E : Option Addr) (ce : Nat) (rows cols : List Int) (P Q V N : Nat), rv = .slice R rows.length cr ∧ cv = .slice E cols.length ce ∧ IL w R rows ∧ IL w E cols ∧ rows.length ≤ 6 ∧ cols.length ≤ 6 ∧
      wrs M rows cols = (((P : Int), (Q : Int)), 0) ∧ (vlm M k).1 = V ∧ nxt M k = N ∧ P ≤ 9000000000000000000 ∧ Q ≤ 9000000000000000000 ∧ V ≤ 9000000000000000000 ∧ N ≤ 9000000000000000000 ∧ 1 ≤ Q ∧ P * V ≤ N * Q := by
  obtain ⟨hv, k0, kn⟩ := zcode_of hz
  obtain ⟨n, m, q, n1, n6, m1, m6⟩ := sq_of hv
  obtain rfl : M.length = n := q.len
  obtain rfl : (rw_ M 0).length = m := rw_len q (by omega)
  obtain ⟨s1, s2⟩ := sd_le M.length (rw_ M 0).length
  unfold LG at h
  rw [if_pos hz] at h
  have nn := (gv_0 (M := M) n6 m6 (show k.toNat ≤ M.length by omega) (show k.toNat ≤ (rw_ M 0).length by omega)).2
  have ev : (vlm M k).1 = gv M M.length (rw_ M 0).length k.toNat (-1) := by rw [vlm_0 hz]
  have vb := gv_bd q n6 m6 (show k.toNat ≤ 6 by omega)
  rcases h with ⟨e, _, _⟩ | ⟨R, cr, E, ce, rows, cols, h1, h2, h3, h4, h5, h6, h7, h8, h9⟩
  · omega
  obtain ⟨r1, r2⟩ := sets_mem n6 h1
  obtain ⟨c1, c2⟩ := sets_mem m6 h2
  have ch : chB M rows cols = true := by unfold chB; rw [r2, c2]; simp [r1, c1]
  have kc : kcode M rows cols = 0 := kcode_good hv ch
  have dz : detR M rows cols ≠ 0 := fun e => by rw [e] at h9; exact hv0 h9
  have dv : (dvz M rows cols).2 = 0 := by unfold dvz; rw [if_pos kc, if_neg dz]
  have ew : wrs M rows cols = (ratq (wst M rows cols) (absI (detR M rows cols)), 0) := if_pos dv
  -- the next volume
  have nx : nxt M k = 0 ∨ (zcode M (k + 1) = 0 ∧ nxt M k = gv M M.length (rw_ M 0).length (k + 1).toNat (-1)) := by
    unfold nxt
    by_cases z : zcode M (k + 1) = 0
    · rw [vlm_0 z]; exact .inr ⟨z, if_pos rfl⟩
    · rw [vlm_1 z]; exact .inl (if_neg z)
  have nx2 : 0 ≤ nxt M k ∧ nxt M k ≤ 504000000000000000 := by
    rcases nx with e | ⟨z, e⟩
    · omega
    · obtain ⟨_, z0, z1⟩ := zcode_of z
      rw [e]
      exact ⟨(gv_0 (M := M) n6 m6 (show (k + 1).toNat ≤ M.length by omega) (show (k + 1).toNat ≤ (rw_ M 0).length by omega)).2, gv_bd q n6 m6 (by omega)⟩
  have key : ∀ i j : Nat, i < M.length → j < (rw_ M 0).length → absI (bord M rows cols i j) ≤ nxt M k ∧ absI (bord M rows cols i j) ≤ 504000000000000000 := by
    intro i j hi hj
    rcases bord_le n6 m6 h1 h2 hi hj with e | ⟨q1, q2, e⟩
    · rw [e]; exact ⟨nx2.1, by decide⟩
    · have zi : zcode M (k + 1) = 0 := by
        refine zcode_0 hv (inr_iff.2 ⟨by omega, ?_⟩)
        have : k.toNat + 1 ≤ sd M.length (rw_ M 0).length := by unfold sd; split <;> omega
        omega
      have en : nxt M k = gv M M.length (rw_ M 0).length (k + 1).toNat (-1) := by unfold nxt; rw [vlm_0 zi]; exact if_pos rfl
      rw [show k.toNat + 1 = (k + 1).toNat by omega] at e
      rw [en]
      exact ⟨e, Int.le_trans e (gv_bd q n6 m6 (by omega))⟩
  have wl : 0 ≤ wst M rows cols ∧ wst M rows cols ≤ nxt M k ∧ wst M rows cols ≤ 504000000000000000 := by
    refine ⟨wsr_nn _ _ _ _ _, ?_⟩
    rcases wsr_at M rows cols (rw_ M 0).length M.length with e | ⟨i, j, hi, hj, e⟩
    · unfold wst; rw [e]; exact ⟨nx2.1, by decide⟩
    · unfold wst; rw [e]; exact key i j hi hj
  have vp : 0 < absI (detR M rows cols) := by rw [← h9]; omega
  have dB : absI (detR M rows cols) ≤ 504000000000000000 := by rw [← h9]; omega
  have rb := ratq_bd (n := wst M rows cols) (d := absI (detR M rows cols)) wl.1 wl.2.2 vp dB
  have rc := ratq_cross (n := wst M rows cols) (d := absI (detR M rows cols)) (by omega)
  have r1' := (ratq_abs (n := wst M rows cols) (d := absI (detR M rows cols)) (by omega)).2.2
  have a1 : absI (ratq (wst M rows cols) (absI (detR M rows cols))).1 = (ratq (wst M rows cols) (absI (detR M rows cols))).1 := by unfold absI; rw [if_neg (by have := rb.1; unfold absI at this; omega)]
  have a2 : absI (absI (detR M rows cols)) = absI (detR M rows cols) := by
    generalize absI (detR M rows cols) = z at *; unfold absI; rw [if_neg (by omega)]
  have a3 : absI (wst M rows cols) = wst M rows cols := by
    have := wl.1; generalize wst M rows cols = z at *; unfold absI; rw [if_neg (by omega)]
  rw [a1, a2, a3] at rc
  have h9' := h9
  rw [← h9] at rc rb ew vp r1' dB
  have mm := Int.mul_le_mul_of_nonneg_right wl.2.1 (show 0 ≤ (ratq (wst M rows cols) (vlm M k).1).2 by omega)
  generalize ratq (wst M rows cols) (vlm M k).1 = pq at *
  obtain ⟨p, qq⟩ := pq
  simp only at rb rc r1' mm
  obtain ⟨P, rfl⟩ : ∃ P : Nat, p = (P : Int) := ⟨p.toNat, by omega⟩
  obtain ⟨Q, rfl⟩ : ∃ Q : Nat, qq = (Q : Int) := ⟨qq.toNat, by omega⟩
  obtain ⟨V, hV⟩ : ∃ V : Nat, (vlm M k).1 = (V : Int) := ⟨(vlm M k).1.toNat, by omega⟩
  obtain ⟨N, hN⟩ : ∃ N : Nat, nxt M k = (N : Int) := ⟨(nxt M k).toNat, by omega⟩
  have fin : P * V ≤ N * Q := by
    have : ((P : Int)) * (V : Int) ≤ (N : Int) * (Q : Int) := by rw [← hV, ← hN, rc]; exact mm
    rw [← Int.natCast_mul, ← Int.natCast_mul] at this
    omega
  exact ⟨R, cr, E, ce, rows, cols, P, Q, V, N, h3, h4, h7, h8, by omega, by omega, ew, hV, hN, by omega, by omega, by omega, by omega, by omega, fin⟩

end Go.Proofs.Ytefmlcojbfiehaa
