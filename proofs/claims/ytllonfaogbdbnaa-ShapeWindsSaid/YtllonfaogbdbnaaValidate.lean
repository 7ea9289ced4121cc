/-
  The contract of Validate: what it answers for every mesh.
-/
import Derived.Test.YtllonfaogbdbnaaValW
namespace Go.Proofs.Ytllonfaogbdbnaa
open Go.ChangeShapes Go.WideShapes Go.RowKit
open Sh
/-- n points or faces in memory; of none nothing is known -/
def Lst (w : World) (a : Option Addr) (n : Nat) (f : Nat → P3) : Prop := 0 < n → ∃ b off, a = some ⟨b, off, none⟩ ∧ Row3 w b off n f
theorem lst_below {w w1 : World} {a : Option Addr} {n : Nat} {f : Nat → P3} (h : Lst w a n f) (hb : Below w.heap.size w w1) : Lst w1 a n f := fun h0 => by
  obtain ⟨b, off, e, r⟩ := h h0
  exact ⟨b, off, e, row3_below r hb⟩
theorem first_bad3 (f : Nat → Int) (n : Nat) : (∀ k, k < n → f k = 0) ∨ ∃ k0, k0 < n ∧ f k0 ≠ 0 ∧ ∀ k, k < k0 → f k = 0 := by
  induction n with
  | zero => exact Or.inl (fun k hk => absurd hk (Nat.not_lt_zero k))
  | succ n ih =>
    rcases ih with ih | ⟨k0, h1, h2, h3⟩
    · by_cases e : f n = 0
      · exact Or.inl (fun k hk => by
          by_cases c : k = n
          · rw [c, e]
          · exact ih k (by omega))
      · exact Or.inr ⟨n, by omega, e, ih⟩
    · exact Or.inr ⟨k0, by omega, h2, h3⟩
theorem fcodes_zero {np : Nat} {P F : Nat → P3} {n : Nat} (h : ∀ k, k < n → fcode np P (F k) = 0) : fcodes np P F n = 0 := by
  induction n with
  | zero => rfl
  | succ n ih =>
    show (if fcodes np P F n = 0 then fcode np P (F n) else fcodes np P F n) = 0
    rw [if_pos (ih (fun k hk => h k (by omega)))]
    exact h n (by omega)
theorem fcodes_bad {np : Nat} {P F : Nat → P3} {n k0 : Nat} (hk : k0 < n) (ne : fcode np P (F k0) ≠ 0) (h : ∀ k, k < k0 → fcode np P (F k) = 0) : fcodes np P F n = fcode np P (F k0) := by
  induction n with
  | zero => omega
  | succ n ih =>
    show (if fcodes np P F n = 0 then fcode np P (F n) else fcodes np P F n) = _
    by_cases c : k0 = n
    · subst c; rw [if_pos (fcodes_zero h)]
    · rw [ih (by omega), if_neg ne]
theorem fcode_ok {np : Nat} {P : Nat → P3} {p : P3} (h : fcode np P p = 0) : Fok np p := by
  unfold fcode at h
  split at h
  · assumption
  · exact absurd h (by decide)
theorem fcode_in {np : Nat} {P : Nat → P3} {x y z : Nat} (hx : x < np) (hy : y < np) (hz : z < np) (h : ∀ i, i < np → inP 64 (P i) = true) : fcode np P ((x : Int), (y : Int), (z : Int)) = pcode (P x) (P y) (P z) := by
  unfold fcode pcode
  rw [if_pos (show 0 ≤ (x : Int) ∧ (x : Int) < np ∧ 0 ≤ (y : Int) ∧ (y : Int) < np ∧ 0 ≤ (z : Int) ∧ (z : Int) < np by omega), h x hx, h y hy, h z hz]
  rfl
theorem pts_in {P : Nat → P3} {np : Nat} (h : ptsB P np = true) : ∀ i, i < np → inP 64 (P i) = true := by
  intro i hi
  unfold ptsB at h
  rw [List.all_eq_true] at h
  have := h i (List.mem_range.2 hi)
  unfold ptB at this
  simp only [Bool.and_eq_true] at this
  exact this.1
theorem vpts_any (a : Option Addr) (n c : Nat) (P : Nat → P3) (w : World) (r : Lst w a n P) (hn : n ≤ 1000000) :
    Calls Try.prog 71 #[.slice a n c] w fun e w' => e = .returned (.bool (ptsB P n)) ∧ Below w.heap.size w w' := by
  by_cases h : n = 0
  · subst h; exact vpts_zero a c w
  · obtain ⟨b, off, rfl, q⟩ := r (by omega)
    exact vpts_row b off n c P w q hn
theorem vf_any (a : Option Addr) (np c : Nat) (a' : Option Addr) (nf c' : Nat) (P : Nat → P3) (p : P3) (w : World) (r : Lst w a np P) (hn : np ≤ 1000000) (hi : ∀ i, i < np → inP 64 (P i) = true) :
    Calls Try.prog 72 #[msv a np c a' nf c', ptv p] w fun e w' => e = .returned (.int .i64 (fcode np P p)) ∧ Below w.heap.size w w' := by
  by_cases h : Fok np p
  · obtain ⟨x, y, z, rfl, hx, hy, hz⟩ := fok_nat h
    obtain ⟨b, off, rfl, q⟩ := r (by omega)
    rw [fcode_in hx hy hz hi]
    exact vf_nat b off np c a' nf c' x y z P w hn q hx hy hz
  · have e : fcode np P p = 5 := by unfold fcode; exact if_neg h
    rw [e]
    unfold Fok at h
    rcases Int.lt_or_le p.1 0 with k | h1
    · exact vf_lo0 a np c a' nf c' p w hn k
    rcases Int.lt_or_le p.1 np with h2 | k
    case inr => exact vf_hi0 a np c a' nf c' p w hn h1 k
    rcases Int.lt_or_le p.2.1 0 with k | h3
    · exact vf_lo1 a np c a' nf c' p w hn h1 h2 k
    rcases Int.lt_or_le p.2.1 np with h4 | k
    case inr => exact vf_hi1 a np c a' nf c' p w hn h1 h2 h3 k
    rcases Int.lt_or_le p.2.2 0 with k | h5
    · exact vf_lo2 a np c a' nf c' p w hn h1 h2 h3 h4 k
    rcases Int.lt_or_le p.2.2 np with h6 | k
    case inr => exact vf_hi2 a np c a' nf c' p w hn h1 h2 h3 h4 h5 k
    exact absurd ⟨h1, h2, h3, h4, h5, h6⟩ h
theorem fnr_of {np : Nat} {p : P3} (hn : np ≤ 1000000) (h : Fok np p) : Fnr p := by
  unfold Fok at h
  exact ⟨⟨by omega, by omega⟩, ⟨by omega, by omega⟩, ⟨by omega, by omega⟩⟩
theorem val_any (a : Option Addr) (np c : Nat) (a' : Option Addr) (nf c' : Nat) (P F : Nat → P3) (w : World) (rp : Lst w a np P) (rf : Lst w a' nf F) (hn : np ≤ 1000000) (hm : nf ≤ 1000000) :
    Calls Try.prog 31 #[msv a np c a' nf c'] w fun e w' => e = .returned (.int .i64 (vcode ⟨np, nf, P, F⟩)) ∧ Below w.heap.size w w' := by
  unfold vcode
  dsimp only
  by_cases g : 64 < np ∨ nf = 0 ∨ 96 < nf
  · rw [if_pos g]
    rcases Nat.lt_or_ge 64 np with h | h
    · exact val_big1 a np c a' nf c' w h (by omega)
    · by_cases k : nf = 0
      · exact val_big2 a np c a' nf c' w h k
      · exact val_big3 a np c a' nf c' w h (by omega) (by omega)
  rw [if_neg g]
  have g1 : np ≤ 64 := by omega
  have g2 : 0 < nf := by omega
  have g3 : nf ≤ 96 := by omega
  clear g
  have VP := fun W (B : Below w.heap.size w W) => vpts_any a np c P W (lst_below rp B) hn
  cases h1 : ptsB P np with
  | false =>
    rw [if_pos (by rfl)]
    rw [h1] at VP
    exact val_pts a np c a' nf c' w g1 g2 g3 (Lib.hid VP)
  | true =>
    rw [if_neg (by decide)]
    rw [h1] at VP
    have hi := pts_in h1
    obtain ⟨b', off', rfl, rF⟩ := rf g2
    have VF : ∀ k, k < nf → ∀ W, Below w.heap.size w W → Calls Try.prog 72 #[msv a np c (some ⟨b', off', none⟩) nf c', ptv (F k)] W fun e w' => e = .returned (.int .i64 (fcode np P (F k))) ∧ Below W.heap.size W w' :=
      fun k _ W B => vf_any a np c _ nf c' P (F k) W (lst_below rp B) hn hi
    rcases first_bad3 (fun k => fcode np P (F k)) nf with z | ⟨k0, hk0, ne, z⟩
    case inr =>
      rw [fcodes_bad hk0 ne z, if_pos ne]
      exact val_face a np c b' off' nf c' k0 F (fun k => fcode np P (F k)) w g1 g2 g3 rF (Lib.hid VP) (Lib.hid VF) (Lib.hid z) hk0 ne
    rw [fcodes_zero z, if_neg (by decide)]
    have fo : ∀ k, k < nf → Fok np (F k) := fun k hk => fcode_ok (z k hk)
    have hnp : 0 < np := by have := fo 0 g2; unfold Fok at this; omega
    obtain ⟨b, off, rfl, rP⟩ := rp hnp
    have nr : ∀ k, k < nf → Fnr (F k) := fun k hk => fnr_of hn (fo k hk)
    have tb : TrB P F nf := trB_of (fun i h => inP_iff.1 (hi i h)) fo
    have CL := fun W (B : Below w.heap.size w W) => closed_row b' off' nf c' F W (row3_below rF B) (by omega) nr
    have US := fun W (B : Below w.heap.size w W) => used_row b off np c b' off' nf c' F W (row3_below rF B) hn hm fo
    have VO := fun W (B : Below w.heap.size w W) => vol_row b off np c b' off' nf c' P F W (row3_below rP B) (row3_below rF B) hn hm g2 fo tb
    cases h2 : closedB F nf with
    | false =>
      rw [if_pos (by rfl)]
      rw [h2] at CL
      exact val_open _ np c b' off' nf c' F (fun k => fcode np P (F k)) w g1 g2 g3 rF (Lib.hid VP) (Lib.hid VF) (Lib.hid z) (Lib.hid CL)
    | true =>
      rw [if_neg (by decide)]
      rw [h2] at CL
      cases h3 : allB F nf np with
      | false =>
        rw [if_pos (by rfl)]
        rw [h3] at US
        exact val_used _ np c b' off' nf c' F (fun k => fcode np P (F k)) w g1 g2 g3 rF (Lib.hid VP) (Lib.hid VF) (Lib.hid z) (Lib.hid CL) (Lib.hid US)
      | true =>
        rw [if_neg (by decide)]
        rw [h3] at US
        by_cases h4 : vol P F nf ≤ 0
        · rw [if_pos h4]
          exact val_turned _ np c b' off' nf c' F (fun k => fcode np P (F k)) w g1 g2 g3 rF (Lib.hid VP) (Lib.hid VF) (Lib.hid z) (Lib.hid CL) (Lib.hid US) _ (Lib.hid VO) h4
        · rw [if_neg h4]
          exact val_ok _ np c b' off' nf c' F (fun k => fcode np P (F k)) w g1 g2 g3 rF (Lib.hid VP) (Lib.hid VF) (Lib.hid z) (Lib.hid CL) (Lib.hid US) _ (Lib.hid VO) (by omega)

end Go.Proofs.Ytllonfaogbdbnaa
