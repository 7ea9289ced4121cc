/-
  The law TopSpans: what its walk asks, by plain arithmetic.
-/
import Derived.Test.YthpjjpfflpjpdabTopW
namespace Go.Proofs.Ythpjjpfflpjpdab
open Go.ChangeShapes Go.WideShapes Go.RowKit

theorem addR_ok {al ah bl bh : Int} (h : (Sp.addR al ah bl bh).2 = 0) : Sp.addR al ah bl bh = ((al + bl, ah + bh), 0) ∧ Sp.vldB al ah = true ∧ Sp.vldB bl bh = true := by
  unfold Sp.addR at *
  split at h
  · rename_i v
    rw [if_pos v, (Sp.told_ok h).1]
    simp only [Bool.and_eq_true] at v
    exact ⟨rfl, v.1, v.2⟩
  · exact absurd h (by decide)
theorem told_v {p q : Int} (h : (Sp.told p q).2 = 0) : Sp.vldB (Sp.told p q).1.1 (Sp.told p q).1.2 = true := by
  rw [(Sp.told_ok h).1]; exact (Sp.told_ok h).2
theorem sqR_v {a b : Int} (h : (Sp.sqR a b).2 = 0) : Sp.vldB (Sp.sqR a b).1.1 (Sp.sqR a b).1.2 = true := by
  unfold Sp.sqR at *
  split at h
  · rename_i v; rw [if_pos v]; exact told_v h
  · exact absurd h (by decide)
theorem mulR_v {a b c d : Int} (h : (Sp.mulR a b c d).2 = 0) : Sp.vldB (Sp.mulR a b c d).1.1 (Sp.mulR a b c d).1.2 = true := by
  unfold Sp.mulR at *
  split at h
  · rename_i v; rw [if_pos v]; exact told_v h
  · exact absurd h (by decide)
theorem mulR_in {a b c d : Int} (h : (Sp.mulR a b c d).2 = 0) : Sp.vldB a b = true ∧ Sp.vldB c d = true := by
  unfold Sp.mulR at *
  split at h
  · rename_i v; simpa using v
  · exact absurd h (by decide)
theorem divR_v {a b c d : Int} (h : (Sp.divR a b c d).2 = 0) : Sp.vldB (Sp.divR a b c d).1.1 (Sp.divR a b c d).1.2 = true := by
  unfold Sp.divR at *
  split at h
  · rename_i v
    rw [if_pos v]
    split at h
    · exact absurd h (by decide)
    · rename_i z; rw [if_neg z]; exact told_v h
  · exact absurd h (by decide)
theorem scaleR_v {a b n : Int} (h : (scaleR a b n).2 = 0) : Sp.vldB (scaleR a b n).1.1 (scaleR a b n).1.2 = true := by
  unfold scaleR at *
  split at h
  · rename_i v; rw [if_pos v]; exact told_v h
  · exact absurd h (by decide)
theorem rootR_v {a b : Int} (h : (rootR a b).2 = 0) : Sp.vldB (rootR a b).1.1 (rootR a b).1.2 = true := by
  unfold rootR at *
  split at h
  · rename_i v; rw [if_pos v]; exact told_v h
  · exact absurd h (by decide)
theorem first_bad' (f : Nat → Bool) (n : Nat) : (∀ k, k < n → f k = true) ∨ ∃ k0, k0 < n ∧ f k0 = false ∧ ∀ k, k < k0 → f k = true := by
  induction n with
  | zero => exact Or.inl (fun k hk => absurd hk (Nat.not_lt_zero k))
  | succ n ih =>
    rcases ih with ih | ⟨k0, h1, h2, h3⟩
    · cases e : f n with
      | true => exact Or.inl (fun k hk => by
          by_cases c : k = n
          · rw [c, e]
          · exact ih k (by omega))
      | false => exact Or.inr ⟨n, by omega, e, ih⟩
    · exact Or.inr ⟨k0, by omega, h2, h3⟩
/-- what total gives for n spans: their sums, or the error 1 -/
def totR (l h : Nat → Int) (n : Nat) : (Int × Int) × Int :=
  if (List.range n).all (fun k => Sp.vldB (l k) (h k)) = true then ((sm l n, sm h n), 0) else ((0, 0), 1)
theorem totR_ok {l h : Nat → Int} {n : Nat} (v : ∀ k, k < n → Sp.vldB (l k) (h k) = true) : totR l h n = ((sm l n, sm h n), 0) := by
  unfold totR; rw [if_pos (by rw [List.all_eq_true]; exact fun k hk => v k (List.mem_range.1 hk))]
theorem totR_no {l h : Nat → Int} {n k : Nat} (hk : k < n) (v : Sp.vldB (l k) (h k) = false) : totR l h n = ((0, 0), 1) := by
  unfold totR
  rw [if_neg (fun c => by rw [List.all_eq_true] at c; exact absurd (c k (List.mem_range.2 hk)) (by simp [v]))]
theorem tot_any (b n cap : Nat) (l h : Nat → Int) (w : World) (r : Row w b 0 n l h) (hn : n ≤ 10000) :
    TotC 60 (some ⟨b, 0, none⟩) n cap (totR l h n).1.1 (totR l h n).1.2 (totR l h n).2 w := by
  rcases first_bad' (fun k => Sp.vldB (l k) (h k)) n with v | ⟨k0, hk, nv, v⟩
  · rw [totR_ok v]
    exact fun W B => total_ok b 0 n cap l h W (row_below r B) hn v
  · rw [totR_no hk nv]
    exact fun W B => total_bad b 0 n cap k0 l h W (row_below r B) hn hk v nv
theorem tot_sm (l h : Nat → Int) (n : Nat) (hn : n ≤ 10000) : Sm (totR l h n).1.1 n ∧ Sm (totR l h n).1.2 n := by
  have z : Sm 0 (n : Int) := ⟨by omega, by omega, by omega, by omega⟩
  rcases first_bad' (fun k => Sp.vldB (l k) (h k)) n with v | ⟨k0, hk, nv, _⟩
  · have a := sm_bd (f := l) (k := n) (fun i hi => by have := Sp.vld_iff.1 (v i hi); omega)
    have c := sm_bd (f := h) (k := n) (fun i hi => by have := Sp.vld_iff.1 (v i hi); omega)
    rw [totR_ok v]
    exact ⟨⟨by dsimp only; omega, by dsimp only; omega, by omega, by omega⟩, ⟨by dsimp only; omega, by dsimp only; omega, by omega, by omega⟩⟩
  · rw [totR_no hk nv]; exact ⟨z, z⟩
theorem quo_third : Sp.quo 1 3 = ((349525, 349526), 0) := by decide +kernel
theorem part1 (al ah bl bh : Int) (e : (Sp.addR al ah bl bh).2 = 0) (e2 : (Sp.sqR al ah).2 = 0) (e3 : (Sp.sqR bl bh).2 = 0) (e4 : (Sp.mulR al ah bl bh).2 = 0) (e5 : (scaleR (Sp.mulR al ah bl bh).1.1 (Sp.mulR al ah bl bh).1.2 2).2 = 0) (e1 : (Sp.sqR (Sp.addR al ah bl bh).1.1 (Sp.addR al ah bl bh).1.2).2 = 0) (e6 : (sumR (totR (L3 (Sp.sqR al ah).1.1 (scaleR (Sp.mulR al ah bl bh).1.1 (Sp.mulR al ah bl bh).1.2 2).1.1 (Sp.sqR bl bh).1.1) (L3 (Sp.sqR al ah).1.2 (scaleR (Sp.mulR al ah bl bh).1.1 (Sp.mulR al ah bl bh).1.2 2).1.2 (Sp.sqR bl bh).1.2) 3).1.1 (totR (L3 (Sp.sqR al ah).1.1 (scaleR (Sp.mulR al ah bl bh).1.1 (Sp.mulR al ah bl bh).1.2 2).1.1 (Sp.sqR bl bh).1.1) (L3 (Sp.sqR al ah).1.2 (scaleR (Sp.mulR al ah bl bh).1.1 (Sp.mulR al ah bl bh).1.2 2).1.2 (Sp.sqR bl bh).1.2) 3).1.2 (totR (L3 (Sp.sqR al ah).1.1 (scaleR (Sp.mulR al ah bl bh).1.1 (Sp.mulR al ah bl bh).1.2 2).1.1 (Sp.sqR bl bh).1.1) (L3 (Sp.sqR al ah).1.2 (scaleR (Sp.mulR al ah bl bh).1.1 (Sp.mulR al ah bl bh).1.2 2).1.2 (Sp.sqR bl bh).1.2) 3).2).2 = 0) :
    Sp.vldB (Sp.sqR (Sp.addR al ah bl bh).1.1 (Sp.addR al ah bl bh).1.2).1.1 (Sp.sqR (Sp.addR al ah bl bh).1.1 (Sp.addR al ah bl bh).1.2).1.2 = true ∧ Sp.vldB (sumR (totR (L3 (Sp.sqR al ah).1.1 (scaleR (Sp.mulR al ah bl bh).1.1 (Sp.mulR al ah bl bh).1.2 2).1.1 (Sp.sqR bl bh).1.1) (L3 (Sp.sqR al ah).1.2 (scaleR (Sp.mulR al ah bl bh).1.1 (Sp.mulR al ah bl bh).1.2 2).1.2 (Sp.sqR bl bh).1.2) 3).1.1 (totR (L3 (Sp.sqR al ah).1.1 (scaleR (Sp.mulR al ah bl bh).1.1 (Sp.mulR al ah bl bh).1.2 2).1.1 (Sp.sqR bl bh).1.1) (L3 (Sp.sqR al ah).1.2 (scaleR (Sp.mulR al ah bl bh).1.1 (Sp.mulR al ah bl bh).1.2 2).1.2 (Sp.sqR bl bh).1.2) 3).1.2 (totR (L3 (Sp.sqR al ah).1.1 (scaleR (Sp.mulR al ah bl bh).1.1 (Sp.mulR al ah bl bh).1.2 2).1.1 (Sp.sqR bl bh).1.1) (L3 (Sp.sqR al ah).1.2 (scaleR (Sp.mulR al ah bl bh).1.1 (Sp.mulR al ah bl bh).1.2 2).1.2 (Sp.sqR bl bh).1.2) 3).2).1.1 (sumR (totR (L3 (Sp.sqR al ah).1.1 (scaleR (Sp.mulR al ah bl bh).1.1 (Sp.mulR al ah bl bh).1.2 2).1.1 (Sp.sqR bl bh).1.1) (L3 (Sp.sqR al ah).1.2 (scaleR (Sp.mulR al ah bl bh).1.1 (Sp.mulR al ah bl bh).1.2 2).1.2 (Sp.sqR bl bh).1.2) 3).1.1 (totR (L3 (Sp.sqR al ah).1.1 (scaleR (Sp.mulR al ah bl bh).1.1 (Sp.mulR al ah bl bh).1.2 2).1.1 (Sp.sqR bl bh).1.1) (L3 (Sp.sqR al ah).1.2 (scaleR (Sp.mulR al ah bl bh).1.1 (Sp.mulR al ah bl bh).1.2 2).1.2 (Sp.sqR bl bh).1.2) 3).1.2 (totR (L3 (Sp.sqR al ah).1.1 (scaleR (Sp.mulR al ah bl bh).1.1 (Sp.mulR al ah bl bh).1.2 2).1.1 (Sp.sqR bl bh).1.1) (L3 (Sp.sqR al ah).1.2 (scaleR (Sp.mulR al ah bl bh).1.1 (Sp.mulR al ah bl bh).1.2 2).1.2 (Sp.sqR bl bh).1.2) 3).2).1.2 = true ∧ (sumR (totR (L3 (Sp.sqR al ah).1.1 (scaleR (Sp.mulR al ah bl bh).1.1 (Sp.mulR al ah bl bh).1.2 2).1.1 (Sp.sqR bl bh).1.1) (L3 (Sp.sqR al ah).1.2 (scaleR (Sp.mulR al ah bl bh).1.1 (Sp.mulR al ah bl bh).1.2 2).1.2 (Sp.sqR bl bh).1.2) 3).1.1 (totR (L3 (Sp.sqR al ah).1.1 (scaleR (Sp.mulR al ah bl bh).1.1 (Sp.mulR al ah bl bh).1.2 2).1.1 (Sp.sqR bl bh).1.1) (L3 (Sp.sqR al ah).1.2 (scaleR (Sp.mulR al ah bl bh).1.1 (Sp.mulR al ah bl bh).1.2 2).1.2 (Sp.sqR bl bh).1.2) 3).1.2 (totR (L3 (Sp.sqR al ah).1.1 (scaleR (Sp.mulR al ah bl bh).1.1 (Sp.mulR al ah bl bh).1.2 2).1.1 (Sp.sqR bl bh).1.1) (L3 (Sp.sqR al ah).1.2 (scaleR (Sp.mulR al ah bl bh).1.1 (Sp.mulR al ah bl bh).1.2 2).1.2 (Sp.sqR bl bh).1.2) 3).2).1.1 ≤ (Sp.sqR (Sp.addR al ah bl bh).1.1 (Sp.addR al ah bl bh).1.2).1.2 ∧ (Sp.sqR (Sp.addR al ah bl bh).1.1 (Sp.addR al ah bl bh).1.2).1.1 ≤ (sumR (totR (L3 (Sp.sqR al ah).1.1 (scaleR (Sp.mulR al ah bl bh).1.1 (Sp.mulR al ah bl bh).1.2 2).1.1 (Sp.sqR bl bh).1.1) (L3 (Sp.sqR al ah).1.2 (scaleR (Sp.mulR al ah bl bh).1.1 (Sp.mulR al ah bl bh).1.2 2).1.2 (Sp.sqR bl bh).1.2) 3).1.1 (totR (L3 (Sp.sqR al ah).1.1 (scaleR (Sp.mulR al ah bl bh).1.1 (Sp.mulR al ah bl bh).1.2 2).1.1 (Sp.sqR bl bh).1.1) (L3 (Sp.sqR al ah).1.2 (scaleR (Sp.mulR al ah bl bh).1.1 (Sp.mulR al ah bl bh).1.2 2).1.2 (Sp.sqR bl bh).1.2) 3).1.2 (totR (L3 (Sp.sqR al ah).1.1 (scaleR (Sp.mulR al ah bl bh).1.1 (Sp.mulR al ah bl bh).1.2 2).1.1 (Sp.sqR bl bh).1.1) (L3 (Sp.sqR al ah).1.2 (scaleR (Sp.mulR al ah bl bh).1.1 (Sp.mulR al ah bl bh).1.2 2).1.2 (Sp.sqR bl bh).1.2) 3).2).1.2 := by
  have vx := sqR_v e1
  obtain ⟨se, va, vb⟩ := addR_ok e
  have ha := Sp.vld_iff.1 va
  have hb := Sp.vld_iff.1 vb
  have v : ∀ k, k < 3 → Sp.vldB ((L3 (Sp.sqR al ah).1.1 (scaleR (Sp.mulR al ah bl bh).1.1 (Sp.mulR al ah bl bh).1.2 2).1.1 (Sp.sqR bl bh).1.1) k) ((L3 (Sp.sqR al ah).1.2 (scaleR (Sp.mulR al ah bl bh).1.1 (Sp.mulR al ah bl bh).1.2 2).1.2 (Sp.sqR bl bh).1.2) k) = true := fun k hk => by
    match k, hk with
    | 0, _ => exact sqR_v e2
    | 1, _ => exact scaleR_v e5
    | 2, _ => exact sqR_v e3
  have t3 := totR_ok v
  rw [t3] at e6 ⊢
  have e6' : (Sp.told (sm (L3 (Sp.sqR al ah).1.1 (scaleR (Sp.mulR al ah bl bh).1.1 (Sp.mulR al ah bl bh).1.2 2).1.1 (Sp.sqR bl bh).1.1) 3) (sm (L3 (Sp.sqR al ah).1.2 (scaleR (Sp.mulR al ah bl bh).1.1 (Sp.mulR al ah bl bh).1.2 2).1.2 (Sp.sqR bl bh).1.2) 3)).2 = 0 := e6
  have vt := told_v e6'
  rw [se] at e1 vx ⊢
  have bi := binomial ha.2.1 hb.2.1 e1 e2 e3 e4 e5
  have tq := (Sp.told_ok e6').1
  have q : sumR (((sm (L3 (Sp.sqR al ah).1.1 (scaleR (Sp.mulR al ah bl bh).1.1 (Sp.mulR al ah bl bh).1.2 2).1.1 (Sp.sqR bl bh).1.1) 3, sm (L3 (Sp.sqR al ah).1.2 (scaleR (Sp.mulR al ah bl bh).1.1 (Sp.mulR al ah bl bh).1.2 2).1.2 (Sp.sqR bl bh).1.2) 3), (0 : Int)) : (Int × Int) × Int).1.1 (((sm (L3 (Sp.sqR al ah).1.1 (scaleR (Sp.mulR al ah bl bh).1.1 (Sp.mulR al ah bl bh).1.2 2).1.1 (Sp.sqR bl bh).1.1) 3, sm (L3 (Sp.sqR al ah).1.2 (scaleR (Sp.mulR al ah bl bh).1.1 (Sp.mulR al ah bl bh).1.2 2).1.2 (Sp.sqR bl bh).1.2) 3), (0 : Int)) : (Int × Int) × Int).1.2 (((sm (L3 (Sp.sqR al ah).1.1 (scaleR (Sp.mulR al ah bl bh).1.1 (Sp.mulR al ah bl bh).1.2 2).1.1 (Sp.sqR bl bh).1.1) 3, sm (L3 (Sp.sqR al ah).1.2 (scaleR (Sp.mulR al ah bl bh).1.1 (Sp.mulR al ah bl bh).1.2 2).1.2 (Sp.sqR bl bh).1.2) 3), (0 : Int)) : (Int × Int) × Int).2 = ((sm (L3 (Sp.sqR al ah).1.1 (scaleR (Sp.mulR al ah bl bh).1.1 (Sp.mulR al ah bl bh).1.2 2).1.1 (Sp.sqR bl bh).1.1) 3, sm (L3 (Sp.sqR al ah).1.2 (scaleR (Sp.mulR al ah bl bh).1.1 (Sp.mulR al ah bl bh).1.2 2).1.2 (Sp.sqR bl bh).1.2) 3), 0) := tq
  rw [q]
  refine ⟨vx, (Sp.told_ok e6').2, ?_, ?_⟩
  · show 0 + (Sp.sqR al ah).1.1 + (scaleR (Sp.mulR al ah bl bh).1.1 (Sp.mulR al ah bl bh).1.2 2).1.1 + (Sp.sqR bl bh).1.1 ≤ (Sp.sqR (al + bl) (ah + bh)).1.2
    omega
  · show (Sp.sqR (al + bl) (ah + bh)).1.1 ≤ 0 + (Sp.sqR al ah).1.2 + (scaleR (Sp.mulR al ah bl bh).1.1 (Sp.mulR al ah bl bh).1.2 2).1.2 + (Sp.sqR bl bh).1.2
    omega
theorem part4 (al ah bl bh cl ch : Int) (e : (sumR (totR (L4 al bl cl al) (L4 ah bh ch ah) 4).1.1 (totR (L4 al bl cl al) (L4 ah bh ch ah) 4).1.2 (totR (L4 al bl cl al) (L4 ah bh ch ah) 4).2).2 = 0) : (meanR (totR (L4 al bl cl al) (L4 ah bh ch ah) 4).1.1 (totR (L4 al bl cl al) (L4 ah bh ch ah) 4).1.2 (totR (L4 al bl cl al) (L4 ah bh ch ah) 4).2 4).2 = 0 ∧ (partR (sumR (totR (L4 al bl cl al) (L4 ah bh ch ah) 4).1.1 (totR (L4 al bl cl al) (L4 ah bh ch ah) 4).1.2 (totR (L4 al bl cl al) (L4 ah bh ch ah) 4).2).1.1 (sumR (totR (L4 al bl cl al) (L4 ah bh ch ah) 4).1.1 (totR (L4 al bl cl al) (L4 ah bh ch ah) 4).1.2 (totR (L4 al bl cl al) (L4 ah bh ch ah) 4).2).1.2 4).2 = 0 ∧ (meanR (totR (L4 al bl cl al) (L4 ah bh ch ah) 4).1.1 (totR (L4 al bl cl al) (L4 ah bh ch ah) 4).1.2 (totR (L4 al bl cl al) (L4 ah bh ch ah) 4).2 4).1.1 = (partR (sumR (totR (L4 al bl cl al) (L4 ah bh ch ah) 4).1.1 (totR (L4 al bl cl al) (L4 ah bh ch ah) 4).1.2 (totR (L4 al bl cl al) (L4 ah bh ch ah) 4).2).1.1 (sumR (totR (L4 al bl cl al) (L4 ah bh ch ah) 4).1.1 (totR (L4 al bl cl al) (L4 ah bh ch ah) 4).1.2 (totR (L4 al bl cl al) (L4 ah bh ch ah) 4).2).1.2 4).1.1 ∧ (meanR (totR (L4 al bl cl al) (L4 ah bh ch ah) 4).1.1 (totR (L4 al bl cl al) (L4 ah bh ch ah) 4).1.2 (totR (L4 al bl cl al) (L4 ah bh ch ah) 4).2 4).1.2 = (partR (sumR (totR (L4 al bl cl al) (L4 ah bh ch ah) 4).1.1 (totR (L4 al bl cl al) (L4 ah bh ch ah) 4).1.2 (totR (L4 al bl cl al) (L4 ah bh ch ah) 4).2).1.1 (sumR (totR (L4 al bl cl al) (L4 ah bh ch ah) 4).1.1 (totR (L4 al bl cl al) (L4 ah bh ch ah) 4).1.2 (totR (L4 al bl cl al) (L4 ah bh ch ah) 4).2).1.2 4).1.2 := by
  rcases first_bad' (fun k => Sp.vldB ((L4 al bl cl al) k) ((L4 ah bh ch ah) k)) 4 with v | ⟨k0, hk, nv, _⟩
  · rw [totR_ok v] at e ⊢
    have m := mean_part e
    dsimp only at m ⊢
    rw [m.1]
    exact ⟨m.2, m.2, rfl, rfl⟩
  · rw [totR_no hk nv] at e
    exact absurd e (by decide)
theorem part5 (al ah bl bh cl ch : Int) (e : (Sp.hull al ah bl bh).2 = 0) (e1 : (Sp.mulR (Sp.hull al ah bl bh).1.1 (Sp.hull al ah bl bh).1.2 cl ch).2 = 0) (e2 : (Sp.mulR al ah cl ch).2 = 0) : Sp.vldB (Sp.mulR al ah cl ch).1.1 (Sp.mulR al ah cl ch).1.2 = true ∧ Sp.vldB (Sp.mulR (Sp.hull al ah bl bh).1.1 (Sp.hull al ah bl bh).1.2 cl ch).1.1 (Sp.mulR (Sp.hull al ah bl bh).1.1 (Sp.hull al ah bl bh).1.2 cl ch).1.2 = true ∧ (Sp.mulR (Sp.hull al ah bl bh).1.1 (Sp.hull al ah bl bh).1.2 cl ch).1.1 ≤ (Sp.mulR al ah cl ch).1.1 ∧ (Sp.mulR al ah cl ch).1.2 ≤ (Sp.mulR (Sp.hull al ah bl bh).1.1 (Sp.hull al ah bl bh).1.2 cl ch).1.2 := by
  have vc := (mulR_in e2).2
  have w := Sp.mul_wide (hull_wid e) (⟨vc, vc, Int.le_refl _, Int.le_refl _⟩ : Sp.Wid cl ch cl ch) e2 e1
  exact ⟨mulR_v e2, mulR_v e1, w.1, w.2⟩
theorem top_any (al ah bl bh cl ch : Int) (w : World) :
    Calls Try.prog 4 #[spv al ah, spv bl bh, spv cl ch] w fun e w' => e = .returned (.bool true) ∧ Below w.heap.size w w' := by
  refine top_walk al ah bl bh cl ch (Sp.addR al ah bl bh) (Sp.sqR (Sp.addR al ah bl bh).1.1 (Sp.addR al ah bl bh).1.2) (Sp.sqR al ah) (Sp.sqR bl bh) (Sp.mulR al ah bl bh) (scaleR (Sp.mulR al ah bl bh).1.1 (Sp.mulR al ah bl bh).1.2 2) (sumR (totR (L3 (Sp.sqR al ah).1.1 (scaleR (Sp.mulR al ah bl bh).1.1 (Sp.mulR al ah bl bh).1.2 2).1.1 (Sp.sqR bl bh).1.1) (L3 (Sp.sqR al ah).1.2 (scaleR (Sp.mulR al ah bl bh).1.1 (Sp.mulR al ah bl bh).1.2 2).1.2 (Sp.sqR bl bh).1.2) 3).1.1 (totR (L3 (Sp.sqR al ah).1.1 (scaleR (Sp.mulR al ah bl bh).1.1 (Sp.mulR al ah bl bh).1.2 2).1.1 (Sp.sqR bl bh).1.1) (L3 (Sp.sqR al ah).1.2 (scaleR (Sp.mulR al ah bl bh).1.1 (Sp.mulR al ah bl bh).1.2 2).1.2 (Sp.sqR bl bh).1.2) 3).1.2 (totR (L3 (Sp.sqR al ah).1.1 (scaleR (Sp.mulR al ah bl bh).1.1 (Sp.mulR al ah bl bh).1.2 2).1.1 (Sp.sqR bl bh).1.1) (L3 (Sp.sqR al ah).1.2 (scaleR (Sp.mulR al ah bl bh).1.1 (Sp.mulR al ah bl bh).1.2 2).1.2 (Sp.sqR bl bh).1.2) 3).2) (Sp.divR al ah cl ch) (Sp.divR 1048576 1048576 cl ch) (Sp.mulR al ah (Sp.divR 1048576 1048576 cl ch).1.1 (Sp.divR 1048576 1048576 cl ch).1.2) (rootR al ah) (rootR bl bh) (Sp.mulR (rootR al ah).1.1 (rootR al ah).1.2 (rootR bl bh).1.1 (rootR bl bh).1.2) (rootR (Sp.mulR al ah bl bh).1.1 (Sp.mulR al ah bl bh).1.2) (meanR (totR (L4 al bl cl al) (L4 ah bh ch ah) 4).1.1 (totR (L4 al bl cl al) (L4 ah bh ch ah) 4).1.2 (totR (L4 al bl cl al) (L4 ah bh ch ah) 4).2 4) (sumR (totR (L4 al bl cl al) (L4 ah bh ch ah) 4).1.1 (totR (L4 al bl cl al) (L4 ah bh ch ah) 4).1.2 (totR (L4 al bl cl al) (L4 ah bh ch ah) 4).2) (partR (sumR (totR (L4 al bl cl al) (L4 ah bh ch ah) 4).1.1 (totR (L4 al bl cl al) (L4 ah bh ch ah) 4).1.2 (totR (L4 al bl cl al) (L4 ah bh ch ah) 4).2).1.1 (sumR (totR (L4 al bl cl al) (L4 ah bh ch ah) 4).1.1 (totR (L4 al bl cl al) (L4 ah bh ch ah) 4).1.2 (totR (L4 al bl cl al) (L4 ah bh ch ah) 4).2).1.2 4) (Sp.hull al ah bl bh) (Sp.mulR (Sp.hull al ah bl bh).1.1 (Sp.hull al ah bl bh).1.2 cl ch) (Sp.mulR al ah cl ch) w
    (Lib.hid fun W => by have q := quo_any 1 3 W; rw [quo_third] at q; exact q)
    (Lib.hid fun W => add_any _ _ _ _ W) (Lib.hid fun W => sq_any _ _ W) (Lib.hid fun W => sq_any _ _ W) (Lib.hid fun W => sq_any _ _ W) (Lib.hid fun W => mul_any _ _ _ _ W) (Lib.hid fun W => scale_any _ _ _ W)
    (Lib.hid fun W b r => sum_any _ _ _ _ _ _ W W (Lib.hid (tot_any b 3 3 _ _ W r (by decide))) (Below.refl _ _))
    (Lib.hid fun e e2 e3 e4 e5 W => meets_imp _ _ _ _ _ _ W (fun e1 e6 => part1 _ _ _ _ e e2 e3 e4 e5 e1 e6))
    (Lib.hid fun W => div_any _ _ _ _ W) (Lib.hid fun W => div_any _ _ _ _ W) (Lib.hid fun W => mul_any _ _ _ _ W)
    (Lib.hid fun e W => meets_imp _ _ _ _ _ _ W (fun e1 e2 => ⟨divR_v e1, mulR_v e2, (Sp.inverse_meets e1 e e2).2, (Sp.inverse_meets e1 e e2).1⟩))
    (Lib.hid fun W => rt_any _ _ W) (Lib.hid fun W => rt_any _ _ W) (Lib.hid fun W => mul_any _ _ _ _ W) (Lib.hid fun W => rt_any _ _ W)
    (Lib.hid fun e1 e2 e4 W => meets_imp _ _ _ _ _ _ W (fun e3 e5 => ⟨mulR_v e3, rootR_v e5, (roots_meet e1 e2 e3 e4 e5).2, (roots_meet e1 e2 e3 e4 e5).1⟩))
    (Lib.hid fun W b r => mean_any _ _ _ _ _ _ W W (Lib.hid (tot_any b 4 4 _ _ W r (by decide))) (Below.refl _ _) (by decide) (Lib.hid (tot_sm _ _ 4 (by decide)).1) (Lib.hid (tot_sm _ _ 4 (by decide)).2))
    (Lib.hid fun W b r => sum_any _ _ _ _ _ _ W W (Lib.hid (tot_any b 4 4 _ _ W r (by decide))) (Below.refl _ _))
    (Lib.hid fun W => part_any _ _ _ W)
    (Lib.hid fun e => part4 _ _ _ _ _ _ e)
    (Lib.hid fun W => hull_any _ _ _ _ W) (Lib.hid fun W => mul_any _ _ _ _ W) (Lib.hid fun W => mul_any _ _ _ _ W)
    (Lib.hid fun e e1 e2 W => within_in _ _ _ _ W (part5 _ _ _ _ _ _ e e1 e2).1 (part5 _ _ _ _ _ _ e e1 e2).2.1 (part5 _ _ _ _ _ _ e e1 e2).2.2.1 (part5 _ _ _ _ _ _ e e1 e2).2.2.2)

end Go.Proofs.Ythpjjpfflpjpdab
