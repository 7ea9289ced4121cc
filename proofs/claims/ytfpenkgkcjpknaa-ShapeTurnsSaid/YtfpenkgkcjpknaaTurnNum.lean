/-
  Plain arithmetic of quarter turns and mirrors: what they leave of a mesh's error. No program in sight.
-/
import Derived.Test.YtfpenkgkcjpknaaPts
namespace Go.Proofs.Ytfpenkgkcjpknaa
namespace Sh
def tuP (p : P3) : P3 := (-p.2.1, p.1, p.2.2)
def miP (p : P3) : P3 := (-p.1, p.2.1, p.2.2)
def swF (f : P3) : P3 := (f.1, f.2.2, f.2.1)
theorem tuP_four (p : P3) : tuP (tuP (tuP (tuP p))) = p := by
  obtain ⟨x, y, z⟩ := p
  simp [tuP]
theorem miP_two (p : P3) : miP (miP p) = p := by
  obtain ⟨x, y, z⟩ := p
  simp [miP]
theorem swF_two (p : P3) : swF (swF p) = p := rfl
theorem tuP_inj {p q : P3} (h : tuP p = tuP q) : p = q := by
  have := congrArg (fun r => tuP (tuP (tuP r))) h
  simpa [tuP_four] using this
theorem miP_inj {p q : P3} (h : miP p = miP q) : p = q := by
  have := congrArg miP h
  simpa [miP_two] using this
theorem inP_tu (L : Int) (p : P3) : inP L (tuP p) = inP L p := by
  rw [Bool.eq_iff_iff, inP_iff, inP_iff]
  obtain ⟨x, y, z⟩ := p
  unfold BdP tuP
  dsimp only
  omega
theorem inP_mi (L : Int) (p : P3) : inP L (miP p) = inP L p := by
  rw [Bool.eq_iff_iff, inP_iff, inP_iff]
  obtain ⟨x, y, z⟩ := p
  unfold BdP miP
  dsimp only
  omega
theorem ptB_inj {g : P3 → P3} (hi : ∀ p q, g p = g q → p = q) (hr : ∀ p, inP 64 (g p) = inP 64 p) (P : Nat → P3) (i : Nat) : ptB (fun k => g (P k)) i = ptB P i := by
  unfold ptB
  rw [hr]
  congr 1
  rw [Bool.eq_iff_iff, List.all_eq_true, List.all_eq_true]
  constructor
  · intro h k hk
    have := h k hk
    simp only [decide_eq_true_eq] at this ⊢
    exact fun e => this (by rw [e])
  · intro h k hk
    have := h k hk
    simp only [decide_eq_true_eq] at this ⊢
    exact fun e => this (hi _ _ e)
theorem ptsB_inj {g : P3 → P3} (hi : ∀ p q, g p = g q → p = q) (hr : ∀ p, inP 64 (g p) = inP 64 p) (P : Nat → P3) (n : Nat) : ptsB (fun k => g (P k)) n = ptsB P n := by
  unfold ptsB
  congr 1
  funext i
  exact ptB_inj hi hr P i
theorem sub_tu (a b : P3) : sub (tuP a) (tuP b) = tuP (sub a b) := by
  unfold sub tuP
  ext <;> dsimp only <;> omega
theorem sub_mi (a b : P3) : sub (miP a) (miP b) = miP (sub a b) := by
  unfold sub miP
  ext <;> dsimp only <;> omega
theorem vec_tu (a b : P3) : vec (tuP a) (tuP b) = tuP (vec a b) := by
  unfold vec tuP
  ext <;> dsimp only
  · rw [Int.neg_sub, Int.mul_comm a.1 b.2.2, Int.mul_comm a.2.2 b.1]
  · simp only [Int.neg_mul, Int.mul_neg]; omega
  · simp only [Int.mul_neg, Int.mul_comm]; omega
theorem vec_mi (a b : P3) : vec (miP b) (miP a) = miP (vec a b) := by
  unfold vec miP
  have e (x y : Int) : x * y = y * x := Int.mul_comm x y
  ext <;> dsimp only
  · rw [e b.2.1, e b.2.2, Int.neg_sub]
  · simp only [Int.neg_mul, Int.mul_neg]; rw [e b.2.2, e b.1]; omega
  · simp only [Int.neg_mul, Int.mul_neg]; rw [e b.1, e b.2.1]; omega
theorem dot_tu (a b : P3) : dot (tuP a) (tuP b) = dot a b := by
  unfold dot tuP
  dsimp only
  simp only [Int.neg_mul, Int.mul_neg]
  omega
theorem dot_mi (a b : P3) : dot (miP a) (miP b) = dot a b := by
  unfold dot miP
  dsimp only
  simp only [Int.neg_mul, Int.mul_neg]
  omega
theorem nrm_tu (a b c : P3) : nrm (tuP a) (tuP b) (tuP c) = tuP (nrm a b c) := by unfold nrm; rw [sub_tu, sub_tu, vec_tu]
theorem nrm_mi (a b c : P3) : nrm (miP a) (miP c) (miP b) = miP (nrm a b c) := by unfold nrm; rw [sub_mi, sub_mi, vec_mi]
theorem det_tu (a b c : P3) : det (tuP a) (tuP b) (tuP c) = det a b c := by unfold det; rw [vec_tu, dot_tu]
theorem det_mi (a b c : P3) : det (miP a) (miP c) (miP b) = det a b c := by unfold det; rw [vec_mi, dot_mi]
theorem tu_zero (p : P3) : tuP p = (0, 0, 0) ↔ p = (0, 0, 0) := ⟨fun h => tuP_inj (h.trans rfl), fun h => by rw [h]; rfl⟩
theorem mi_zero (p : P3) : miP p = (0, 0, 0) ↔ p = (0, 0, 0) := ⟨fun h => miP_inj (h.trans rfl), fun h => by rw [h]; rfl⟩
theorem ite_iff {p q : Prop} [Decidable p] [Decidable q] (h : p ↔ q) (a b : Int) : (if p then a else b) = if q then a else b := by
  by_cases x : p
  · rw [if_pos x, if_pos (h.1 x)]
  · rw [if_neg x, if_neg (fun y => x (h.2 y))]
theorem fcode_tu (np : Nat) (P : Nat → P3) (f : P3) : fcode np (fun k => tuP (P k)) f = fcode np P f := by
  unfold fcode
  split
  · rw [nrm_tu]
    exact ite_iff (tu_zero _) _ _
  · rfl
theorem fcode_mi (np : Nat) (P : Nat → P3) (f : P3) : fcode np (fun k => miP (P k)) (swF f) = fcode np P f := by
  unfold fcode swF
  dsimp only
  by_cases h : 0 ≤ f.1 ∧ f.1 < np ∧ 0 ≤ f.2.1 ∧ f.2.1 < np ∧ 0 ≤ f.2.2 ∧ f.2.2 < np
  · rw [if_pos h, if_pos (show 0 ≤ f.1 ∧ f.1 < np ∧ 0 ≤ f.2.2 ∧ f.2.2 < np ∧ 0 ≤ f.2.1 ∧ f.2.1 < np by omega), nrm_mi]
    exact ite_iff (mi_zero _) _ _
  · rw [if_neg h, if_neg (show ¬ (0 ≤ f.1 ∧ f.1 < np ∧ 0 ≤ f.2.2 ∧ f.2.2 < np ∧ 0 ≤ f.2.1 ∧ f.2.1 < np) by omega)]
theorem fcodes_tu (np : Nat) (P F : Nat → P3) (n : Nat) : fcodes np (fun k => tuP (P k)) F n = fcodes np P F n := by
  induction n with
  | zero => rfl
  | succ n ih => unfold fcodes; rw [ih, fcode_tu]
theorem fcodes_mi (np : Nat) (P F : Nat → P3) (n : Nat) : fcodes np (fun k => miP (P k)) (fun k => swF (F k)) n = fcodes np P F n := by
  induction n with
  | zero => rfl
  | succ n ih => unfold fcodes; rw [ih, fcode_mi]
theorem vol_tu (P F : Nat → P3) (n : Nat) : vol (fun k => tuP (P k)) F n = vol P F n := by
  induction n with
  | zero => rfl
  | succ n ih => unfold vol; rw [ih, det_tu]
theorem vol_mi (P F : Nat → P3) (n : Nat) : vol (fun k => miP (P k)) (fun k => swF (F k)) n = vol P F n := by
  induction n with
  | zero => rfl
  | succ n ih =>
    show vol (fun k => miP (P k)) (fun k => swF (F k)) n + det (miP (P (F n).1.toNat)) (miP (P (F n).2.2.toNat)) (miP (P (F n).2.1.toNat)) = vol P F n + det (P (F n).1.toNat) (P (F n).2.1.toNat) (P (F n).2.2.toNat)
    rw [ih, det_mi]
theorem cnt1_sw (f : P3) (p q : Int) : cnt1 (swF f) p q = cnt1 f q p := by
  unfold cnt1 swF
  dsimp only
  have e (x y : Int) (u v : Int) : (if x = u ∧ y = v then (1 : Nat) else 0) = if y = v ∧ x = u then 1 else 0 := by
    by_cases h : x = u ∧ y = v
    · rw [if_pos h, if_pos ⟨h.2, h.1⟩]
    · rw [if_neg h, if_neg (fun k => h ⟨k.2, k.1⟩)]
  rw [e f.1 f.2.2, e f.2.2 f.2.1, e f.2.1 f.1]
  omega
theorem cnt_sw (F : Nat → P3) (n : Nat) (p q : Int) : cnt (fun k => swF (F k)) n p q = cnt F n q p := by
  induction n with
  | zero => rfl
  | succ n ih => unfold cnt; rw [ih, cnt1_sw]
theorem sideB_comm (F : Nat → P3) (n : Nat) (p q : Int) : sideB F n p q = sideB F n q p := by
  unfold sideB
  rw [Bool.eq_iff_iff]
  simp only [decide_eq_true_eq]
  exact And.comm
theorem sideB_sw (F : Nat → P3) (n : Nat) (p q : Int) : sideB (fun k => swF (F k)) n p q = sideB F n p q := by
  rw [sideB_comm F]
  unfold sideB
  rw [cnt_sw, cnt_sw]
theorem faceB_sw (F : Nat → P3) (n : Nat) (f : P3) : faceB (fun k => swF (F k)) n (swF f) = faceB F n f := by
  show (sideB (fun k => swF (F k)) n f.1 f.2.2 && sideB (fun k => swF (F k)) n f.2.2 f.2.1 && sideB (fun k => swF (F k)) n f.2.1 f.1) = (sideB F n f.1 f.2.1 && sideB F n f.2.1 f.2.2 && sideB F n f.2.2 f.1)
  rw [sideB_sw, sideB_sw, sideB_sw, sideB_comm F n f.1 f.2.2, sideB_comm F n f.2.2 f.2.1, sideB_comm F n f.2.1 f.1]
  cases sideB F n f.1 f.2.1 <;> cases sideB F n f.2.1 f.2.2 <;> cases sideB F n f.2.2 f.1 <;> rfl
theorem closedB_sw (F : Nat → P3) (n : Nat) : closedB (fun k => swF (F k)) n = closedB F n := by
  unfold closedB
  have e : (fun i => faceB (fun k => swF (F k)) n (swF (F i))) = fun i => faceB F n (F i) := by
    funext i
    exact faceB_sw F n (F i)
  rw [e]
theorem usedB_sw (F : Nat → P3) (n : Nat) (p : Nat) : usedB (fun k => swF (F k)) n p = usedB F n p := by
  unfold usedB
  have e : (fun i => decide ((swF (F i)).1 = (p : Int) ∨ (swF (F i)).2.1 = (p : Int) ∨ (swF (F i)).2.2 = (p : Int))) = fun i => decide ((F i).1 = (p : Int) ∨ (F i).2.1 = (p : Int) ∨ (F i).2.2 = (p : Int)) := by
    funext i
    rw [Bool.eq_iff_iff, decide_eq_true_eq, decide_eq_true_eq]
    show ((F i).1 = (p : Int) ∨ (F i).2.2 = (p : Int) ∨ (F i).2.1 = (p : Int)) ↔ _
    omega
  rw [e]
theorem allB_sw (F : Nat → P3) (n np : Nat) : allB (fun k => swF (F k)) n np = allB F n np := by
  unfold allB
  have e : usedB (fun k => swF (F k)) n = usedB F n := by
    funext p
    exact usedB_sw F n p
  rw [e]
/-- a quarter turn changes nothing of the error -/
theorem vcode_tu (np nf : Nat) (P F : Nat → P3) : vcode ⟨np, nf, fun k => tuP (P k), F⟩ = vcode ⟨np, nf, P, F⟩ := by
  unfold vcode
  dsimp only
  rw [ptsB_inj (fun p q h => tuP_inj h) (inP_tu 64), fcodes_tu, vol_tu]
/-- nor does a mirror -/
theorem vcode_mi (np nf : Nat) (P F : Nat → P3) : vcode ⟨np, nf, fun k => miP (P k), fun k => swF (F k)⟩ = vcode ⟨np, nf, P, F⟩ := by
  unfold vcode
  dsimp only
  rw [ptsB_inj (fun p q h => miP_inj h) (inP_mi 64), fcodes_mi, vol_mi, closedB_sw, allB_sw]
end Sh
end Go.Proofs.Ytfpenkgkcjpknaa
