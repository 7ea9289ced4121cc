/-
  What the spans of pairs of panels are worth at least and at most; weighted sums; numbers of stage 7.
-/
import Derived.Test.YtbcjiigmbcfkeaaGreatFgMj
import Derived.Test.YtbcjiigmbcfkeaaGreatShN
namespace Go.Proofs.YtbcjiigmbcfkeaaGreat
open Go.ChangeShapes Go.WideShapes Go.RowKit
open Sh
theorem isq_pos {n : Nat} (h : 1 ≤ n) : 1 ≤ Rt.isq n := by
  have s := Rt.isq_spec n
  rcases Nat.eq_zero_or_pos (Rt.isq n) with z | z
  · rw [z] at s; omega
  · exact z
theorem lw1 {m k : Int} (m1 : 1 ≤ m) (m2 : m ≤ 1099511627776) (k1 : 1 ≤ k) (k2 : k ≤ 8) : 1 ≤ (kV false m k).1.1 := by
  obtain ⟨r, u, e, er, _, _⟩ := invR_val m1 m2 k1 k2
  show 1 ≤ (invR m k).1.1
  rw [e]
  have h : 1 ≤ k.toNat * 1048576 * (k.toNat * 1048576) / m.toNat := by
    rw [Nat.le_div_iff_mul_le (by omega)]
    have := Nat.mul_le_mul (show 1048576 ≤ k.toNat * 1048576 by omega) (show 1048576 ≤ k.toNat * 1048576 by omega)
    omega
  have := isq_pos h
  rw [← er] at this
  show (1 : Int) ≤ (r : Int)
  omega
theorem slo_1 {c : Nat → Int} {n : Nat} (p : 0 < n) (h : ∀ k, k < n → 1 ≤ c k) : 1 ≤ slo c n := by
  have : sm (fun _ => (1 : Int)) n ≤ sm c n := sml h
  rw [smc] at this
  exact (Int.le_ediv_iff_mul_le (by omega)).2 (by omega)
theorem vHi_rm (t : P9) (D : Int) (u : P9) (rm : Int) (k : Nat) : vHi t D u rm k ≤ rm := by
  unfold vHi
  split
  · exact Int.le_refl _
  · rw [Sp.mn_eq]; omega
theorem betF_rng {t u : P9} {D : Int} (h : prc t u D = 0) : (betF t u D).2 = 0 ∧ 1 ≤ (betF t u D).1.1 ∧ (betF t u D).1.1 ≤ (betF t u D).1.2 ∧ (betF t u D).1.2 ≤ 67108866 := by
  obtain ⟨ht, hu, d0, d2⟩ := prc_ok h
  have d3 : D ≤ 3 := by omega
  obtain ⟨n0, n1⟩ := ptn_vals d0 d3
  obtain ⟨_, s1, s2⟩ := scl_vals d0 d3
  obtain ⟨r0, r1⟩ := rmF_bd ht d0 d3
  obtain ⟨S1, _⟩ := rS_bd ht
  obtain ⟨e, v⟩ := betF_val h
  have v := (Sp.vld_iff.1 v).2.1
  have a := slo_1 (c := vLo t D (tm9 (scl D) u)) n0 fun k hk => lw1 (by have := rs_part (t := t) hk (tm9 (scl D) u); show (1 : Int) ≤ FF (ptk t D k) (tm9 (scl D) u); omega) (pw_bd ht hu d0 d3 hk) s1 s2
  have b := shi_bd (c := vHi t D (tm9 (scl D) u) (rmF t D)) (B := 67108864) n0 fun k _ => Int.le_trans (vHi_rm _ _ _ _ _) r1
  rw [e]
  exact ⟨rfl, a, v, by dsimp only; omega⟩
theorem mutF_rng {t u : P9} {D : Int} (h : prc t u D = 0) : (mutF t u D).2 = 0 ∧ 1 ≤ (mutF t u D).1.1 ∧ (mutF t u D).1.1 ≤ (mutF t u D).1.2 ∧ (mutF t u D).1.2 ≤ 67108866 := by
  obtain ⟨ht, hu, d0, d2⟩ := prc_ok h
  have d3 : D ≤ 3 := by omega
  obtain ⟨n0, n1⟩ := ptn_vals d0 d3
  obtain ⟨_, s1, s2⟩ := scl_vals d0 d3
  obtain ⟨r0, r1⟩ := rmF_bd ht d0 d3
  obtain ⟨S1, _⟩ := rS_bd ht
  obtain ⟨e, v⟩ := mutF_val h
  have v := (Sp.vld_iff.1 v).2.1
  have a := slo_1 (c := fun j => slo (fun k => aP t u D k j) (ptn D)) n0 fun j hj => slo_1 n0 fun k hk => lw1 (by have := rs_part (t := t) hk (ptk u D j); omega) (pp_bd ht hu d0 d3 hk hj) s1 s2
  have b := shi_bd (c := fun j => shi (fun k => bP t u D k j) (ptn D)) (B := 67108865) n0 fun j _ => shi_bd (B := 67108864) n0 fun k _ => Int.le_trans (vHi_rm _ _ _ _ _) r1
  rw [e]
  exact ⟨rfl, a, v, b⟩
/-- the panels of a valid mesh are valid -/
theorem tr_pcode {np nf : Nat} {P F : Nat → P3} (z : vcode ⟨np, nf, P, F⟩ = 0) {k : Nat} (hk : k < nf) : pcode (Tr P F k).1 (Tr P F k).2.1 (Tr P F k).2.2 = 0 := by
  obtain ⟨h1, h2, h3, h4, h5⟩ := vcode_ok z
  have f := h5 k hk
  unfold Sh.fcode at f
  split at f
  · rename_i g
    have i1 := pts_in h4 (F k).1.toNat (by omega)
    have i2 := pts_in h4 (F k).2.1.toNat (by omega)
    have i3 := pts_in h4 (F k).2.2.toNat (by omega)
    unfold pcode Tr
    dsimp only
    rw [i1, i2, i3]
    exact f
  · exact absurd f (by decide)
theorem tr_prc {np nf : Nat} {P F : Nat → P3} {D : Int} (z : vcode ⟨np, nf, P, F⟩ = 0) (d0 : 0 ≤ D) (d2 : D ≤ 2) {i j : Nat} (hi : i < nf) (hj : j < nf) : prc (Tr P F i) (Tr P F j) D = 0 := by
  unfold prc
  rw [if_pos (tr_pcode z hi), if_pos (tr_pcode z hj), if_pos (by simp [rngB]; omega)]
/-- a table: what the face i does at the face j -/
def TB (n : Nat) (f : Nat → Nat → Int × Int) : Prop := ∀ j i, j < n → i < n → 1 ≤ (f j i).1 ∧ (f j i).1 ≤ (f j i).2 ∧ (f j i).2 ≤ 67108866
/-- the tables of a mesh -/
def btT (T : Nat → P9) (D : Int) (j i : Nat) : Int × Int := (betF (T i) (T j) D).1
def mtT (T : Nat → P9) (D : Int) (j i : Nat) : Int × Int := (mutF (T i) (T j) D).1
section
variable {np nf : Nat} {P F : Nat → P3} {D : Int} (z : vcode ⟨np, nf, P, F⟩ = 0) (d0 : 0 ≤ D) (d2 : D ≤ 2)
include z d0 d2
theorem bt_e {i j : Nat} (hi : i < nf) (hj : j < nf) : betF (Tr P F i) (Tr P F j) D = (btT (Tr P F) D j i, 0) := by
  have h := betF_rng (tr_prc z d0 d2 hi hj)
  unfold btT
  exact Prod.ext rfl h.1
theorem mt_e {i j : Nat} (hi : i < nf) (hj : j < nf) : mutF (Tr P F i) (Tr P F j) D = (mtT (Tr P F) D j i, 0) := by
  have h := mutF_rng (tr_prc z d0 d2 hi hj)
  unfold mtT
  exact Prod.ext rfl h.1
theorem bt_tb : TB nf (btT (Tr P F) D) := fun _ _ hj hi => (betF_rng (tr_prc z d0 d2 hi hj)).2
theorem mt_tb : TB nf (mtT (Tr P F) D) := fun _ _ hj hi => (mutF_rng (tr_prc z d0 d2 hi hj)).2
end
/-- a weighted sum -/
def wsm (f c : Nat → Int) (n : Nat) : Int := sm (fun i => f i * c i) n
theorem sm_nn {f : Nat → Int} {n : Nat} (h : ∀ i, i < n → 0 ≤ f i) : 0 ≤ sm f n := by
  have : sm (fun _ => (0 : Int)) n ≤ sm f n := sml h
  rwa [smc, Int.mul_zero] at this
theorem sm_one {f : Nat → Int} {n k : Nat} (h : ∀ i, i < n → 0 ≤ f i) (hk : k < n) : f k ≤ sm f n := by
  induction n with
  | zero => omega
  | succ n ih =>
    show f k ≤ sm f n + f n
    have a := h n (by omega)
    by_cases e : k = n
    · subst e
      have := sm_nn (f := f) (n := k) fun i hi => h i (by omega)
      omega
    · have := ih (fun i hi => h i (by omega)) (by omega)
      omega
theorem sm_scl (f : Nat → Int) (k : Int) : ∀ n : Nat, sm (fun i => f i * k) n = sm f n * k
  | 0 => by show (0 : Int) = 0 * k; omega
  | n + 1 => by
    show sm (fun i => f i * k) n + f n * k = (sm f n + f n) * k
    rw [sm_scl f k n, Int.add_mul]
/-- which charges are right -/
def chB (c : Nat → Int) (n : Nat) : Bool := (List.range n).all fun i => decide (0 ≤ c i ∧ c i ≤ 100)
theorem chB_iff {c : Nat → Int} {n : Nat} : chB c n = true ↔ ∀ i, i < n → 0 ≤ c i ∧ c i ≤ 100 := by
  unfold chB
  rw [List.all_eq_true]
  constructor
  · intro h i hi
    exact of_decide_eq_true (h i (List.mem_range.2 hi))
  · intro h i hi
    exact decide_eq_true (h i (List.mem_range.1 hi))
/-- the error of charges of a mesh -/
def chc (vc : Int) (nf : Nat) (n : Nat) (c : Nat → Int) : Int := if vc = 0 then (if n = nf ∧ chB c n = true then (if sm c n = 0 then 11 else 0) else 1) else vc
/-- the error of charges and a depth; of a depth -/
def gvc (vc : Int) (nf : Nat) (n : Nat) (c : Nat → Int) (D : Int) : Int := if chc vc nf n c = 0 then (if 0 ≤ D ∧ D ≤ 2 then 0 else 1) else chc vc nf n c
def dpc (vc D : Int) : Int := if vc = 0 then (if 0 ≤ D ∧ D ≤ 2 then 0 else 1) else vc
theorem chc_ok {vc : Int} {nf n : Nat} {c : Nat → Int} (h : chc vc nf n c = 0) : vc = 0 ∧ n = nf ∧ (∀ i, i < n → 0 ≤ c i ∧ c i ≤ 100) ∧ 1 ≤ sm c n := by
  unfold chc at h
  by_cases a : vc = 0
  · rw [if_pos a] at h
    by_cases b : n = nf ∧ chB c n = true
    · rw [if_pos b] at h
      have q := chB_iff.1 b.2
      by_cases e : sm c n = 0
      · rw [if_pos e] at h; exact absurd h (by decide)
      · have := sm_nn (f := c) (n := n) fun i hi => (q i hi).1
        exact ⟨a, b.1, q, by omega⟩
    · rw [if_neg b] at h; exact absurd h (by decide)
  · rw [if_neg a] at h; exact absurd h a
theorem gvc_ok {vc D : Int} {nf n : Nat} {c : Nat → Int} (h : gvc vc nf n c D = 0) : chc vc nf n c = 0 ∧ 0 ≤ D ∧ D ≤ 2 := by
  unfold gvc at h
  by_cases a : chc vc nf n c = 0
  · rw [if_pos a] at h
    by_cases b : 0 ≤ D ∧ D ≤ 2
    · exact ⟨a, b⟩
    · rw [if_neg b] at h; exact absurd h (by decide)
  · rw [if_neg a] at h; exact absurd h a
theorem dpc_ok {vc D : Int} (h : dpc vc D = 0) : vc = 0 ∧ 0 ≤ D ∧ D ≤ 2 := by
  unfold dpc at h
  by_cases a : vc = 0
  · rw [if_pos a] at h
    by_cases b : 0 ≤ D ∧ D ≤ 2
    · exact ⟨a, b⟩
    · rw [if_neg b] at h; exact absurd h (by decide)
  · rw [if_neg a] at h; exact absurd h a
/-- the potentials of a table, their lower and upper ends -/
def ptL (f : Nat → Nat → Int × Int) (c : Nat → Int) (n j : Nat) : Int := wsm (fun i => (f j i).1) c n
def ptH (f : Nat → Nat → Int × Int) (c : Nat → Int) (n j : Nat) : Int := wsm (fun i => (f j i).2) c n
section
variable {n : Nat} {f : Nat → Nat → Int × Int} {c : Nat → Int} (t : TB n f) (hc : ∀ i, i < n → 0 ≤ c i ∧ c i ≤ 100)
include t hc
theorem pt_lo {j : Nat} (hj : j < n) : sm c n ≤ ptL f c n j := sml fun i hi => by
  have a := (t j i hj hi).1
  have := Int.mul_le_mul_of_nonneg_right a (hc i hi).1
  rw [Int.one_mul] at this
  exact this
theorem pt_le {j : Nat} (hj : j < n) : ptL f c n j ≤ ptH f c n j := sml fun i hi => Int.mul_le_mul_of_nonneg_right (t j i hj hi).2.1 (hc i hi).1
theorem pt_hi {j : Nat} (hj : j < n) : ptH f c n j ≤ sm c n * 67108866 := by
  rw [← sm_scl]
  exact sml fun i hi => by
    have := Int.mul_le_mul_of_nonneg_right (t j i hj hi).2.2 (hc i hi).1
    rw [Int.mul_comm (c i)]
    exact this
end
theorem ch_sm {n : Nat} {c : Nat → Int} (hn : n ≤ 96) (hc : ∀ i, i < n → 0 ≤ c i ∧ c i ≤ 100) : 0 ≤ sm c n ∧ sm c n ≤ 9600 := by
  have a := sm_nn (f := c) (n := n) fun i hi => (hc i hi).1
  have b : sm c n ≤ sm (fun _ => (100 : Int)) n := sml fun i hi => (hc i hi).2
  rw [smc] at b
  omega
/-- what weighted answers: the sum, or none if that is too large -/
def wtR (l h c : Nat → Int) (n : Nat) : Sp.R := Sp.told (wsm l c n) (wsm h c n)
end Go.Proofs.YtbcjiigmbcfkeaaGreat
