/-
  The law of Mutual.
-/
import Derived.Test.YtjigcgpcglfjfaaFg56
import Derived.Test.YtjigcgpcglfjfaaFg53
import Derived.Test.YtjigcgpcglfjfaaMeet
namespace Go.Proofs.Ytjigcgpcglfjfaa
open Go.ChangeShapes Go.WideShapes Go.RowKit
open Sh
theorem smcg {f g : Nat → Int} : ∀ {n : Nat}, (∀ k, k < n → f k = g k) → sm f n = sm g n
  | 0, _ => rfl
  | n + 1, h => by
    show sm f n + f n = sm g n + g n
    rw [smcg (n := n) fun k hk => h k (by omega), h n (by omega)]
theorem slo_nn {c : Nat → Int} {n : Nat} (h : ∀ k, k < n → 0 ≤ c k) : 0 ≤ slo c n := by
  have : sm (fun _ => (0 : Int)) n ≤ sm c n := sml h
  rw [smc, Int.mul_zero] at this
  exact Int.ediv_nonneg this (by omega)
theorem shi_bd {c : Nat → Int} {n : Nat} {B : Int} (p : 0 < n) (h : ∀ k, k < n → c k ≤ B) : shi c n ≤ B + 1 := by
  have : sm c n ≤ sm (fun _ => B) n := sml h
  rw [smc] at this
  have q : (sm c n + (n : Int) - 1) / (n : Int) < B + 2 := Int.ediv_lt_of_lt_mul (by omega) (by
    rw [Int.add_mul, Int.mul_comm B]; omega)
  unfold shi
  omega
theorem prc_sym {t u : P9} {D : Int} (h : prc t u D = 0) : prc u t D = 0 := by
  obtain ⟨h1, h2, d0, d2⟩ := prc_ok h
  unfold prc
  rw [if_pos h2, if_pos h1, if_pos (by simp [rngB]; omega)]
/-- what all ends of a pair have in common -/
theorem pair_lw {t : P9} {D f : Int} {p q : P9} (ht : pcode t.1 t.2.1 t.2.2 = 0) (d0 : 0 ≤ D) (d3 : D ≤ 3) (h : ((rS t : Nat) : Int) ≤ 3 * f) (f2 : f ≤ 1099511627776) (m : NN p q ≤ f) : (kV false f (scl D)).1.1 ≤ upP (scl D) (rmF t D) p q := by
  obtain ⟨_, s1, s2⟩ := scl_vals d0 d3
  obtain ⟨S1, S2, _⟩ := rS_bd ht
  exact lw_up S1 S2 s1 s2 h f2 m
def aP (t u : P9) (D : Int) (k j : Nat) : Int := lwP (scl D) (ptk t D k) (ptk u D j)
def bP (t u : P9) (D : Int) (k j : Nat) : Int := upP (scl D) (rmF t D) (ptk t D k) (ptk u D j)
theorem aP_bd (t u : P9) {D : Int} (k j : Nat) (d0 : 0 ≤ D) (d3 : D ≤ 3) : 0 ≤ aP t u D k j ∧ aP t u D k j ≤ 1000000000 := by
  obtain ⟨_, s1, s2⟩ := scl_vals d0 d3
  have := kVf_bd (FF (ptk t D k) (ptk u D j)) s1 s2
  exact ⟨this.1, this.2.1⟩
theorem bP_bd {t : P9} (u : P9) {D : Int} (k j : Nat) (ht : pcode t.1 t.2.1 t.2.2 = 0) (d0 : 0 ≤ D) (d3 : D ≤ 3) : 0 ≤ bP t u D k j ∧ bP t u D k j ≤ 1000000000 := by
  obtain ⟨r0, r1⟩ := rmF_bd ht d0 d3
  exact vHi_bd t D (ptk u D j) k d0 d3 r0 r1
theorem mem9 {t : P9} {D : Int} {k : Nat} (hk : k < ptn D) : ptk t D k ∈ cutP D.toNat t := by
  unfold ptk
  have hl : k < (cutP D.toNat t).length := by rw [cutP_len]; exact hk
  rw [List.getD_eq_getElem?_getD, List.getElem?_eq_getElem hl]
  exact List.getElem_mem hl
theorem rs_part {t : P9} {D : Int} {k : Nat} (hk : k < ptn D) (q : P9) : ((rS t : Nat) : Int) ≤ 3 * FF (ptk t D k) q := by
  have := rs_ff (ptk t D k) q
  rwa [rS_cut (mem9 hk)] at this
section
variable {t u : P9} {D : Int} (ht : pcode t.1 t.2.1 t.2.2 = 0) (hu : pcode u.1 u.2.1 u.2.2 = 0) (d0 : 0 ≤ D) (d3 : D ≤ 3)
include ht hu d0 d3
theorem pp_bd {k j : Nat} (hk : k < ptn D) (hj : j < ptn D) : FF (ptk t D k) (ptk u D j) ≤ 1099511627776 := ff_bd (ptk_bd9 (pcode_64 ht) d0 d3 hk) (ptk_bd9 (pcode_64 hu) d0 d3 hj)
theorem pw_bd {k : Nat} (hk : k < ptn D) : FF (ptk t D k) (tm9 (scl D) u) ≤ 1099511627776 := by
  obtain ⟨_, s1, s2⟩ := scl_vals d0 d3
  exact ff_bd (ptk_bd9 (pcode_64 ht) d0 d3 hk) (tm9_bd (pcode_64 hu) s1 s2)
theorem ab {k j : Nat} (hk : k < ptn D) (hj : j < ptn D) : aP t u D k j ≤ bP t u D k j := pair_lw ht d0 d3 (rs_part hk _) (pp_bd ht hu d0 d3 hk hj) (nn_ff _ _)
theorem ab_sw {k j : Nat} (hk : k < ptn D) (hj : j < ptn D) : aP t u D k j ≤ bP u t D j k := pair_lw hu d0 d3 (by rw [ff_sym]; exact rs_part hj _) (pp_bd ht hu d0 d3 hk hj) (by rw [nn_sym]; exact nn_ff _ _)
theorem ad {k j : Nat} (hk : k < ptn D) (hj : j < ptn D) : aP t u D k j ≤ vHi t D (tm9 (scl D) u) (rmF t D) k := pair_lw ht d0 d3 (rs_part hk _) (pp_bd ht hu d0 d3 hk hj) (Int.le_trans (nn_part _ (mem9 hj)) (nn_ff _ _))
theorem cb {k j : Nat} (hk : k < ptn D) (hj : j < ptn D) : vLo t D (tm9 (scl D) u) k ≤ bP t u D k j := pair_lw ht d0 d3 (rs_part hk _) (pw_bd ht hu d0 d3 hk) (Int.le_trans (nn_ff _ _) (ff_part _ (mem9 hj)))
theorem ad2 {k j : Nat} (hk : k < ptn D) (hj : j < ptn D) : aP t u D k j ≤ vHi u D (tm9 (scl D) t) (rmF u D) j := pair_lw hu d0 d3 (by rw [ff_sym]; exact rs_part hj _) (pp_bd ht hu d0 d3 hk hj) (Int.le_trans (nn_part _ (mem9 hk)) (by rw [nn_sym]; exact nn_ff _ _))
theorem cb2 {k j : Nat} (hk : k < ptn D) (hj : j < ptn D) : vLo u D (tm9 (scl D) t) j ≤ bP t u D k j := by
  have f : FF (ptk t D k) (ptk u D j) ≤ FF (ptk u D j) (tm9 (scl D) t) := by rw [ff_sym]; exact ff_part _ (mem9 hk)
  have r := rs_part (t := t) hk (ptk u D j)
  exact pair_lw (f := FF (ptk u D j) (tm9 (scl D) t)) ht d0 d3 (by omega) (pw_bd hu ht d0 d3 hj) (Int.le_trans (nn_ff _ _) f)
theorem cd {k : Nat} (hk : k < ptn D) : vLo t D (tm9 (scl D) u) k ≤ vHi t D (tm9 (scl D) u) (rmF t D) k := pair_lw ht d0 d3 (rs_part hk _) (pw_bd ht hu d0 d3 hk) (nn_ff _ _)
end
theorem mutL_at (t u : P9) {D : Int} {j : Nat} (hj : j < ptn D) : (mutL t u D).getD j (0, 0) = (slo (fun k => aP t u D k j) (ptn D), shi (fun k => bP t u D k j) (ptn D)) := by
  have hl : j < (cutP D.toNat u).length := by rw [cutP_len]; exact hj
  have e : (cutP D.toNat u)[j]? = some (ptk u D j) := by
    unfold ptk
    rw [List.getD_eq_getElem?_getD, List.getElem?_eq_getElem hl]
    rfl
  rw [mutL_all, List.getD_eq_getElem?_getD, List.getElem?_map, e]
  rfl
theorem betF_val {t u : P9} {D : Int} (h : prc t u D = 0) : betF t u D = ((slo (vLo t D (tm9 (scl D) u)) (ptn D), shi (vHi t D (tm9 (scl D) u) (rmF t D)) (ptn D)), 0) ∧ Sp.vldB (slo (vLo t D (tm9 (scl D) u)) (ptn D)) (shi (vHi t D (tm9 (scl D) u) (rmF t D)) (ptn D)) = true := by
  obtain ⟨ht, hu, d0, d2⟩ := prc_ok h
  have d3 : D ≤ 3 := by omega
  obtain ⟨n0, n1⟩ := ptn_vals d0 d3
  obtain ⟨_, s1, s2⟩ := scl_vals d0 d3
  obtain ⟨r0, r1⟩ := rmF_bd ht d0 d3
  refine ⟨by unfold betF; rw [if_pos h]; rfl, Sp.vld_iff.2 ⟨?_, sl_1 n0 fun k hk => cd ht hu d0 d3 hk, ?_⟩⟩
  · have := slo_nn (c := vLo t D (tm9 (scl D) u)) (n := ptn D) fun k _ => (kVf_bd (vFar t D (tm9 (scl D) u) k) s1 s2).1
    omega
  · have := shi_bd (c := vHi t D (tm9 (scl D) u) (rmF t D)) (B := 1000000000) n0 fun k _ => (vHi_bd t D (tm9 (scl D) u) k d0 d3 r0 r1).2
    omega
theorem mutF_val {t u : P9} {D : Int} (h : prc t u D = 0) : mutF t u D = ((dlo (aP t u D) (ptn D), dhi (bP t u D) (ptn D)), 0) ∧ Sp.vldB (dlo (aP t u D) (ptn D)) (dhi (bP t u D) (ptn D)) = true := by
  obtain ⟨ht, hu, d0, d2⟩ := prc_ok h
  have d3 : D ≤ 3 := by omega
  obtain ⟨n0, n1⟩ := ptn_vals d0 d3
  have lo0 : ∀ j, 0 ≤ slo (fun k => aP t u D k j) (ptn D) := fun j => slo_nn fun k _ => (aP_bd t u k j d0 d3).1
  have hi0 : ∀ j, shi (fun k => bP t u D k j) (ptn D) ≤ 1000000001 := fun j => shi_bd n0 fun k _ => (bP_bd u k j ht d0 d3).2
  have v : Sp.vldB (dlo (aP t u D) (ptn D)) (dhi (bP t u D) (ptn D)) = true := by
    refine Sp.vld_iff.2 ⟨?_, dl_dd n0 fun k hk j hj => ab ht hu d0 d3 hk hj, ?_⟩
    · have : 0 ≤ dlo (aP t u D) (ptn D) := slo_nn fun j _ => lo0 j
      omega
    · have : dhi (bP t u D) (ptn D) ≤ 1000000001 + 1 := shi_bd n0 fun j _ => hi0 j
      omega
  refine ⟨?_, v⟩
  unfold mutF
  rw [if_pos h]
  unfold mnR8
  rw [if_pos (all_yes fun k hk => by
    dsimp only
    rw [mutL_at t u hk]
    have a := lo0 k
    have b := hi0 k
    exact Sp.vld_iff.2 ⟨by dsimp only; omega, sl_1 n0 fun i hi => ab ht hu d0 d3 hi hk, by dsimp only; omega⟩)]
  have e1 : sm (fun k => ((mutL t u D).getD k (0, 0)).1) (ptn D) = sm (fun j => slo (fun k => aP t u D k j) (ptn D)) (ptn D) := smcg fun k hk => by (try dsimp only); rw [mutL_at t u hk]
  have e2 : sm (fun k => ((mutL t u D).getD k (0, 0)).2) (ptn D) = sm (fun j => shi (fun k => bP t u D k j) (ptn D)) (ptn D) := smcg fun k hk => by (try dsimp only); rw [mutL_at t u hk]
  rw [e1, e2]
  unfold meanR
  rw [if_pos rfl, if_neg (by omega), (fl_ptn d0 d3).1, (fl_ptn d0 d3).2]
  exact Sp.told_yes v
theorem fmut_walk (t u : P9) (D : Int) (w : World) : Calls Try.prog 9 #[p9v t, p9v u, .int .i64 D] w fun e w' => e = .returned (.bool true) ∧ Below w.heap.size w w' := by
  have M1 := fun W => mut_any t u D W
  have M2 := fun W => rmut_any t u D W
  by_cases h : prc t u D = 0
  · have h' := prc_sym h
    have M3 := fun W => mut_any u t D W
    have B1 := fun W => bet_any t u D W
    have B2 := fun W => bet_any u t D W
    obtain ⟨e1, v1⟩ := mutF_val h
    obtain ⟨e2, v2⟩ := mutF_val h'
    obtain ⟨e3, v3⟩ := betF_val h
    obtain ⟨e4, v4⟩ := betF_val h'
    obtain ⟨ht, hu, d0, d2⟩ := prc_ok h
    have d3 : D ≤ 3 := by omega
    obtain ⟨n0, n1⟩ := ptn_vals d0 d3
    rw [e1] at M1 M2
    rw [e2] at M3
    rw [e3] at B1
    rw [e4] at B2
    have X1 := fun W => meet_yes _ _ _ _ W v1 v2 (dl_ds n0 fun k hk j hj => ab_sw hu ht d0 d3 hk hj) (dl_ds n0 fun k hk j hj => ab_sw ht hu d0 d3 hk hj)
    have X2 := fun W => meet_yes _ _ _ _ W v1 v3 (dl_2 n0 fun k hk j hj => cb ht hu d0 d3 hk hj) (dl_1 n0 fun k hk j hj => ad ht hu d0 d3 hk hj)
    have X3 := fun W => meet_yes _ _ _ _ W v1 v4 (dl_4 n0 fun k hk j hj => cb2 ht hu d0 d3 hk hj) (dl_3 n0 fun k hk j hj => ad2 ht hu d0 d3 hk hj)
    exact fmut_yes t u D _ _ _ _ (_, _) (_, _) (_, _) w (Lib.hid M1) (Lib.hid M2) (Lib.hid M3) (Lib.hid B1) (Lib.hid B2) (Lib.hid X1) (Lib.hid X2) (Lib.hid X3) (Lib.hid fun W => fkn_any W)
  · have e : mutF t u D = ((0, 0), prc t u D) := by unfold mutF; rw [if_neg h]
    rw [e] at M1 M2
    exact fmut_no t u D _ w h (Lib.hid M1) (Lib.hid M2) (Lib.hid fun W => fkn_any W)

end Go.Proofs.Ytjigcgpcglfjfaa
