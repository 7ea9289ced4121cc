/-
  Energies, quotients and the bounds of the capacity as numbers.
-/
import Derived.Test.YtbcjiigmbcfkeaaGreatHo1
import Derived.Test.YtbcjiigmbcfkeaaGreatLen
namespace Go.Proofs.YtbcjiigmbcfkeaaGreat
open Go.ChangeShapes Go.WideShapes Go.RowKit
open Sh
theorem wsm_dbl (g : Nat → Nat → Int) (c : Nat → Int) (n : Nat) : sm (fun i => sm (fun j => g j i * (c i * c j)) n) n = wsm (fun j => wsm (g j) c n) c n := by
  show _ = sm (fun j => sm (fun i => g j i * c i) n * c j) n
  have e : sm (fun j => sm (fun i => g j i * c i) n * c j) n = sm (fun j => sm (fun i => g j i * c i * c j) n) n := smcg fun j _ => (sm_scl _ _ _).symm
  rw [e, sms (fun i j => g j i * c i * c j) n n]
  exact smcg fun i _ => smcg fun j _ => (Int.mul_assoc _ _ _).symm
theorem sm_ap7 (f : Nat → Int) (m : Nat) : ∀ k, sm f (m + k) = sm f m + sm (fun i => f (m + i)) k
  | 0 => by show sm f m = sm f m + 0; omega
  | k + 1 => by
    show sm f (m + k) + f (m + k) = sm f m + (sm (fun i => f (m + i)) k + f (m + k))
    rw [sm_ap7 f m k]; omega
theorem sm_flat (a : Nat → Nat → Int) {n : Nat} (p : 0 < n) : ∀ m, sm (fun k => a (k / n) (k % n)) (m * n) = sm (fun i => sm (a i) n) m
  | 0 => by rw [Nat.zero_mul]; rfl
  | m + 1 => by
    rw [Nat.succ_mul, sm_ap7, sm_flat a p m]
    show _ = sm (fun i => sm (a i) n) m + sm (a m) n
    congr 1
    refine smcg fun i hi => ?_
    rw [Nat.mul_comm m n, Nat.mul_add_div p, Nat.div_eq_of_lt hi, Nat.mul_add_mod, Nat.mod_eq_of_lt hi, Nat.add_zero]
/-- the energy, its lower and upper end -/
def enL (m : Nat → Nat → Int × Int) (c : Nat → Int) (n : Nat) : Int := wsm (ptL m c n) c n
def enH (m : Nat → Nat → Int × Int) (c : Nat → Int) (n : Nat) : Int := wsm (ptH m c n) c n
def enR (m : Nat → Nat → Int × Int) (c : Nat → Int) (n : Nat) : Sp.R := Sp.told (enL m c n) (enH m c n)
section
variable {n : Nat} {f : Nat → Nat → Int × Int} {c : Nat → Int} (t : TB n f) (hc : ∀ i, i < n → 0 ≤ c i ∧ c i ≤ 100)
include t hc
theorem en_le : enL f c n ≤ enH f c n := sml fun j hj => Int.mul_le_mul_of_nonneg_right (pt_le t hc hj) (hc j hj).1
theorem en_lo : sm c n * sm c n ≤ enL f c n := by
  have a : sm (fun j => c j * sm c n) n ≤ sm (fun j => ptL f c n j * c j) n := sml fun j hj => by
    rw [Int.mul_comm (c j)]
    exact Int.mul_le_mul_of_nonneg_right (pt_lo t hc hj) (hc j hj).1
  rw [sm_scl] at a
  exact a
theorem en_nn : 0 ≤ enL f c n := by
  have a := en_lo t hc
  have b := sm_nn (f := c) (n := n) fun i hi => (hc i hi).1
  have := Int.mul_le_mul_of_nonneg_right b b
  omega
end
/-- the greatest of some numbers and 0; the least of some numbers and MaxFix -/
def mxl (f : Nat → Int) : Nat → Int
  | 0 => 0
  | k + 1 => Sp.mx (mxl f k) (f k)
def mnl (f : Nat → Int) : Nat → Int
  | 0 => 1099511627776
  | k + 1 => Sp.mn (mnl f k) (f k)
theorem mxl_ge (f : Nat → Int) {k : Nat} : ∀ {n : Nat}, k < n → f k ≤ mxl f n
  | n + 1, h => by
    show f k ≤ Sp.mx (mxl f n) (f n)
    rw [Sp.mx_eq]
    by_cases e : k = n
    · subst e; omega
    · have := mxl_ge f (k := k) (n := n) (by omega)
      omega
theorem mxl_le {f : Nat → Int} {B : Int} (b : 0 ≤ B) : ∀ {n : Nat}, (∀ k, k < n → f k ≤ B) → mxl f n ≤ B
  | 0, _ => b
  | n + 1, h => by
    show Sp.mx (mxl f n) (f n) ≤ B
    have := mxl_le b (n := n) fun k hk => h k (by omega)
    have := h n (by omega)
    rw [Sp.mx_eq]; omega
theorem mxl_nn (f : Nat → Int) : ∀ n, 0 ≤ mxl f n
  | 0 => Int.le_refl _
  | n + 1 => by
    have := mxl_nn f n
    show 0 ≤ Sp.mx (mxl f n) (f n)
    rw [Sp.mx_eq]; omega
theorem mnl_le (f : Nat → Int) {k : Nat} : ∀ {n : Nat}, k < n → mnl f n ≤ f k
  | n + 1, h => by
    show Sp.mn (mnl f n) (f n) ≤ f k
    rw [Sp.mn_eq]
    by_cases e : k = n
    · subst e; omega
    · have := mnl_le f (k := k) (n := n) (by omega)
      omega
theorem mnl_ge {f : Nat → Int} {B : Int} (b : B ≤ 1099511627776) : ∀ {n : Nat}, (∀ k, k < n → B ≤ f k) → B ≤ mnl f n
  | 0, _ => b
  | n + 1, h => by
    show B ≤ Sp.mn (mnl f n) (f n)
    have := mnl_ge b (n := n) fun k hk => h k (by omega)
    have := h n (by omega)
    rw [Sp.mn_eq]; omega
theorem mnl_top (f : Nat → Int) : ∀ n, mnl f n ≤ 1099511627776
  | 0 => Int.le_refl _
  | n + 1 => by
    have := mnl_top f n
    show Sp.mn (mnl f n) (f n) ≤ _
    rw [Sp.mn_eq]; omega
/-- the bounds -/
def lowN (S d : Int) : Int := S * 1099511627776 / d
def abvN (S d : Int) : Int := (S * 1099511627776 + d - 1) / d
def thoN (S E : Int) : Int := lowN S ((E + S - 1) / S)
theorem quoS {S d : Int} (s1 : 1 ≤ S) (s2 : S ≤ 9600) (h1 : S ≤ d) :
    Sp.told (Sp.fl (S * 1048576 * 1048576) d) (Sp.ce (S * 1048576 * 1048576) d) = ((lowN S d, abvN S d), 0) ∧ 0 ≤ lowN S d ∧ lowN S d ≤ abvN S d ∧ abvN S d ≤ 1099511627776 := by
  have e : S * 1048576 * 1048576 = S * 1099511627776 := by omega
  have a1 : 0 ≤ lowN S d := Int.ediv_nonneg (by omega) (by omega)
  have a2 : lowN S d ≤ abvN S d := Int.ediv_le_ediv (by omega) (by omega)
  have a3 : abvN S d ≤ 1099511627776 := by
    have : (S * 1099511627776 + d - 1) / d < 1099511627776 + 1 := Int.ediv_lt_of_lt_mul (by omega) (by omega)
    unfold abvN
    omega
  refine ⟨?_, a1, a2, a3⟩
  rw [e, ce_up (by omega)]
  have f : Sp.fl (S * 1099511627776) d = lowN S d := by unfold Sp.fl; rw [if_pos (by omega)]; rfl
  rw [f]
  show Sp.told (lowN S d) (abvN S d) = _
  exact Sp.told_yes (Sp.vld_iff.2 ⟨by omega, a2, a3⟩)
/-- the energy by the sum of the charges -/
theorem parS {S l h : Int} (s1 : 1 ≤ S) (s2 : S ≤ 9600) (h0 : S * S ≤ l) (h1 : l ≤ h) (h2 : h ≤ 1099511627776) :
    ∃ k, partR l h S = ((k, (h + S - 1) / S), 0) ∧ S ≤ (h + S - 1) / S ∧ (h + S - 1) / S ≤ 1099511627776 := by
  have s0 : 0 ≤ S * S := Int.mul_nonneg (by omega) (by omega)
  have b1 : S ≤ (h + S - 1) / S := (Int.le_ediv_iff_mul_le (by omega)).2 (by omega)
  have b2 : (h + S - 1) / S ≤ 1099511627776 := by
    have : (h + S - 1) / S < 1099511627776 + 1 := Int.ediv_lt_of_lt_mul (by omega) (by
      have := Int.mul_le_mul_of_nonneg_left s1 (show (0 : Int) ≤ 1099511627776 by decide)
      omega)
    omega
  have b3 : l / S ≤ (h + S - 1) / S := Int.ediv_le_ediv (by omega) (by omega)
  have b4 : 0 ≤ l / S := Int.ediv_nonneg (by omega) (by omega)
  refine ⟨l / S, ?_, b1, b2⟩
  unfold partR
  rw [if_pos ⟨Sp.vld_iff.2 ⟨by omega, h1, h2⟩, s1, by omega⟩, ce_up (by omega)]
  have f : Sp.fl l S = l / S := by unfold Sp.fl; rw [if_pos (by omega)]
  rw [f]
  exact Sp.told_yes (Sp.vld_iff.2 ⟨by omega, b3, b2⟩)
/-- squares of distances, the greatest one; the ball -/
def dsq (P : Nat → P3) (x : P3) (k : Nat) : Int := sq (sub (P k) x)
def ballR (vc : Int) (np : Nat) (P : Nat → P3) (x : P3) : Int × Int :=
  if vc = 0 then (if inP 256 x = true then ((lenR (mxl (dsq P x) np)).1.2, (lenR (mxl (dsq P x) np)).2) else (0, 1)) else (0, vc)
theorem csq_1048576 : Rt.csq 1099511627776 = 1048576 := by
  have a : Rt.csq 1099511627776 ≤ 1048576 := csq_le.2 (by decide)
  have b : ¬ Rt.csq 1099511627776 ≤ 1048575 := fun h => absurd (csq_le.1 h) (by decide)
  omega
theorem sqn7 (x : Int) : 0 ≤ x * x := by
  rcases Int.le_total 0 x with h | h
  · exact Int.mul_nonneg h h
  · exact Int.mul_nonneg_of_nonpos_of_nonpos h h
theorem dsq_bd {P : Nat → P3} {x : P3} {n : Nat} (h : ∀ k, k < n → BdP 64 (P k)) (hx : BdP 256 x) {k : Nat} (hk : k < n) : 0 ≤ dsq P x k ∧ dsq P x k ≤ 307200 := by
  have a := h k hk
  obtain ⟨a1, a2, a3, a4, a5, a6⟩ := a
  obtain ⟨b1, b2, b3, b4, b5, b6⟩ := hx
  have x1 := mul_bd (A := 320) (B := 320) (x := (P k).1 - x.1) (y := (P k).1 - x.1) (by omega) (by omega) (by omega) (by omega)
  have x2 := mul_bd (A := 320) (B := 320) (x := (P k).2.1 - x.2.1) (y := (P k).2.1 - x.2.1) (by omega) (by omega) (by omega) (by omega)
  have x3 := mul_bd (A := 320) (B := 320) (x := (P k).2.2 - x.2.2) (y := (P k).2.2 - x.2.2) (by omega) (by omega) (by omega) (by omega)
  have y1 := sqn7 ((P k).1 - x.1)
  have y2 := sqn7 ((P k).2.1 - x.2.1)
  have y3 := sqn7 ((P k).2.2 - x.2.2)
  simp only [dsq, sq, dot, sub]
  omega
theorem len_ok {m : Int} (h0 : 0 ≤ m) (h1 : m ≤ 307200) : (lenR m).2 = 0 ∧ 0 ≤ (lenR m).1.2 ∧ (lenR m).1.2 ≤ 1099511627776 := by
  have s := Rt.isq_spec (m.toNat * 1099511627776)
  have c : Rt.csq (m.toNat * 1099511627776) ≤ 1073741824 := csq_le.2 (by omega)
  have d : Rt.isq (m.toNat * 1099511627776) ≤ Rt.csq (m.toNat * 1099511627776) := by
    unfold Rt.csq; split <;> omega
  unfold lenR
  rw [if_pos ⟨h0, by omega⟩, Sp.told_yes (Sp.vld_iff.2 ⟨by omega, by omega, by omega⟩)]
  exact ⟨rfl, by dsimp only; omega, by dsimp only; omega⟩
/-- the middle of two points, rounded down -/
def mid (a b : P3) : P3 := ((a.1 + b.1) / 2, (a.2.1 + b.2.1) / 2, (a.2.2 + b.2.2) / 2)
theorem mid_bd {a b : P3} (h : BdP 64 a) (k : BdP 64 b) : BdP 256 (mid a b) := by
  obtain ⟨a1, a2, a3, a4, a5, a6⟩ := h
  obtain ⟨b1, b2, b3, b4, b5, b6⟩ := k
  simp only [BdP, mid]
  omega
end Go.Proofs.YtbcjiigmbcfkeaaGreat
