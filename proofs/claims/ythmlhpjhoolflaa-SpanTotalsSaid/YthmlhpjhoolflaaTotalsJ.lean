/-
  The law SpanTotals: every list.
-/
import Derived.Test.YthmlhpjhoolflaaTotalsX
namespace Go.Proofs.Ythmlhpjhoolflaa
open Go.ChangeShapes Go.WideShapes Go.RowKit
theorem first_bad (f : Nat → Bool) (n : Nat) : (∀ k, k < n → f k = true) ∨ ∃ k0, k0 < n ∧ f k0 = false ∧ ∀ k, k < k0 → f k = true := by
  induction n with
  | zero => exact Or.inl (fun k hk => absurd hk (Nat.not_lt_zero k))
  | succ n ih =>
    rcases ih with ih | ⟨k0, h1, h2, h3⟩
    · cases e : f n with
      | true => exact Or.inl (fun k hk => by
          by_cases c : k = n
          · rw [c, e]
          · exact ih k (by omega))
      | false => exact Or.inr ⟨n, by omega, e, ih⟩
    · exact Or.inr ⟨k0, by omega, h2, h3⟩
theorem sm_small (n : Nat) (hn : n ≤ 20000) : Sm 0 (n : Int) := by
  refine ⟨by omega, by omega, by omega, by omega⟩
theorem totals_row (b off n cap : Nat) (l h : Nat → Int) (w : World) (r : Row w b off n l h) (h0 : 0 < n) (hm : n ≤ 10000) :
    Calls Try.prog 9 #[.slice (some ⟨b, off, none⟩) n cap] w fun e w' => e = .returned (.bool true) ∧ Below w.heap.size w w' := by
  rcases first_bad (fun k => Sp.vldB (l k) (h k)) n with v | ⟨k0, hk, nv, v⟩
  · have bd1 := sm_bd (f := l) (k := n) (fun i hi => by have := Sp.vld_iff.1 (v i hi); omega)
    have bd2 := sm_bd (f := h) (k := n) (fun i hi => by have := Sp.vld_iff.1 (v i hi); omega)
    have T1 : TotC 75 (some ⟨b, off, none⟩) n cap (sm l n) (sm h n) 0 w := fun W B => total_ok b off n cap l h W (row_below r B) hm v
    have T2 : TotC 76 (some ⟨b, off, none⟩) n cap (sm l n) (sm h n) 0 w := fun W B => rtotal_ok b off n cap l h W (row_below r B) hm v
    have S1 : Sm (sm l n) (n : Int) := ⟨by omega, by omega, by omega, by omega⟩
    have S2 : Sm (sm h n) (n : Int) := ⟨by omega, by omega, by omega, by omega⟩
    by_cases z : (meanR (sm l n) (sm h n) 0 n).2 = 0
    · obtain ⟨m, rfl⟩ : ∃ m, n = m + 1 := ⟨n - 1, by omega⟩
      exact totals_ok b off m cap l h w r (Lib.hid v) (Lib.hid T1) (Lib.hid T2) (Lib.hid (show m + 1 ≤ 20000 by omega)) (Lib.hid S1) (Lib.hid S2) z
    · exact totals_e _ n cap _ _ _ w (Lib.hid T1) (Lib.hid T2) (Lib.hid (show n ≤ 20000 by omega)) (Lib.hid S1) (Lib.hid S2) z
  · have T1 : TotC 75 (some ⟨b, off, none⟩) n cap 0 0 1 w := fun W B => total_bad b off n cap k0 l h W (row_below r B) hm hk v nv
    have T2 : TotC 76 (some ⟨b, off, none⟩) n cap 0 0 1 w := fun W B => rtotal_bad b off n cap k0 l h W (row_below r B) hm hk v nv
    exact totals_e _ n cap 0 0 1 w (Lib.hid T1) (Lib.hid T2) (Lib.hid (show n ≤ 20000 by omega)) (Lib.hid (sm_small n (by omega))) (Lib.hid (sm_small n (by omega))) (by unfold meanR; simp)
theorem totals_walk (a : Option Addr) (n cap : Nat) (w : World) (hm : n ≤ 9223372036854775807) (hr : 0 < n → ∃ (b off : Nat) (l h : Nat → Int), a = some ⟨b, off, none⟩ ∧ Row w b off n l h) :
    Calls Try.prog 9 #[.slice a n cap] w fun e w' => e = .returned (.bool true) ∧ Below w.heap.size w w' := by
  by_cases c1 : 20000 < n
  · exact totals_long a n cap w c1 hm
  by_cases c2 : 10000 < n
  · have T1 : TotC 75 a n cap 0 0 4 w := fun W _ => total_long a n cap W c2 (by omega)
    have T2 : TotC 76 a n cap 0 0 4 w := fun W _ => rtotal_long a n cap W c2 (by omega)
    exact totals_e a n cap 0 0 4 w (Lib.hid T1) (Lib.hid T2) (Lib.hid (show n ≤ 20000 by omega)) (Lib.hid (sm_small n (by omega))) (Lib.hid (sm_small n (by omega))) (by unfold meanR; simp)
  by_cases c3 : n = 0
  · subst c3
    have T1 : TotC 75 a 0 cap 0 0 0 w := fun W _ => total_zero a cap W
    have T2 : TotC 76 a 0 cap 0 0 0 w := fun W _ => rtotal_zero a cap W
    exact totals_e a 0 cap 0 0 0 w (Lib.hid T1) (Lib.hid T2) (Lib.hid (show 0 ≤ 20000 by omega)) (Lib.hid (sm_small 0 (by omega))) (Lib.hid (sm_small 0 (by omega))) (by unfold meanR; simp)
  · obtain ⟨b, off, l, h, rfl, r⟩ := hr (by omega)
    exact totals_row b off n cap l h w r (by omega) (by omega)

end Go.Proofs.Ythmlhpjhoolflaa
