/-
  Means of means; what a pair's means have in common.
-/
import Derived.Test.YtjigcgpcglfjfaaFg55
namespace Go.Proofs.Ytjigcgpcglfjfaa
open Go.ChangeShapes Go.WideShapes Go.RowKit
open Sh
theorem sml {f g : Nat → Int} : ∀ {n : Nat}, (∀ k, k < n → f k ≤ g k) → sm f n ≤ sm g n
  | 0, _ => Int.le_refl _
  | n + 1, e => by
    have := sml (n := n) fun k hk => e k (by omega)
    have := e n (by omega)
    show sm f n + f n ≤ sm g n + g n
    omega
theorem smc (c : Int) : ∀ n : Nat, sm (fun _ => c) n = (n : Int) * c
  | 0 => by show (0 : Int) = ((0 : Nat) : Int) * c; simp
  | n + 1 => by
    show sm (fun _ => c) n + c = ((n + 1 : Nat) : Int) * c
    rw [smc c n, Int.natCast_succ, Int.add_mul]
    omega
theorem sma (f g : Nat → Int) : ∀ n, sm (fun j => f j + g j) n = sm f n + sm g n
  | 0 => rfl
  | n + 1 => by
    show sm (fun j => f j + g j) n + (f n + g n) = (sm f n + f n) + (sm g n + g n)
    rw [sma f g n]; omega
theorem sms (a : Nat → Nat → Int) (m : Nat) : ∀ n, sm (fun j => sm (fun k => a k j) n) m = sm (fun k => sm (fun j => a k j) m) n
  | 0 => by
    show sm (fun _ => (0 : Int)) m = 0
    rw [smc]; simp
  | n + 1 => by
    show sm (fun j => sm (fun k => a k j) n + a n j) m = sm (fun k => sm (fun j => a k j) m) n + sm (fun j => a n j) m
    rw [sma, sms a m n]
theorem smfl {n : Int} (h : 0 < n) (f : Nat → Int) : ∀ m, sm (fun j => f j / n) m * n ≤ sm f m
  | 0 => by show (0 : Int) * n ≤ 0; simp
  | m + 1 => by
    have := smfl h f m
    have q := Int.ediv_mul_le (f m) (show n ≠ 0 by omega)
    show (sm (fun j => f j / n) m + f m / n) * n ≤ sm f m + f m
    rw [Int.add_mul]; omega
theorem ce_ge {n : Int} (h : 0 < n) (x : Int) : x ≤ (x + n - 1) / n * n := by
  have := Int.lt_ediv_add_one_mul_self (x + n - 1) h
  rw [Int.add_mul] at this
  omega
theorem smce {n : Int} (h : 0 < n) (f : Nat → Int) : ∀ m, sm f m ≤ sm (fun j => (f j + n - 1) / n) m * n
  | 0 => by show (0 : Int) ≤ 0 * n; simp
  | m + 1 => by
    have := smce h f m
    have q := ce_ge h (f m)
    show sm f m + f m ≤ (sm (fun j => (f j + n - 1) / n) m + (f m + n - 1) / n) * n
    rw [Int.add_mul]; omega
/-- means, rounded down and up; means of means -/
def slo (c : Nat → Int) (n : Nat) : Int := sm c n / (n : Int)
def shi (c : Nat → Int) (n : Nat) : Int := (sm c n + (n : Int) - 1) / (n : Int)
def dlo (a : Nat → Nat → Int) (n : Nat) : Int := slo (fun j => slo (fun k => a k j) n) n
def dhi (a : Nat → Nat → Int) (n : Nat) : Int := shi (fun j => shi (fun k => a k j) n) n
def dsm (a : Nat → Nat → Int) (n : Nat) : Int := sm (fun j => sm (fun k => a k j) n) n
theorem slo_le {c : Nat → Int} {n : Nat} (h : 0 < n) : slo c n * (n : Int) ≤ sm c n := Int.ediv_mul_le _ (by omega)
theorem shi_ge {c : Nat → Int} {n : Nat} (h : 0 < n) : sm c n ≤ shi c n * (n : Int) := ce_ge (by omega) _
theorem dlo_le {a : Nat → Nat → Int} {n : Nat} (h : 0 < n) : dlo a n * (n : Int) * (n : Int) ≤ dsm a n := by
  have p : (0 : Int) < (n : Int) := by omega
  have h1 := slo_le (c := fun j => slo (fun k => a k j) n) h
  have h2 := Int.mul_le_mul_of_nonneg_right h1 (Int.le_of_lt p)
  exact Int.le_trans h2 (smfl p (fun j => sm (fun k => a k j) n) n)
theorem dhi_ge {a : Nat → Nat → Int} {n : Nat} (h : 0 < n) : dsm a n ≤ dhi a n * (n : Int) * (n : Int) := by
  have p : (0 : Int) < (n : Int) := by omega
  have h1 := shi_ge (c := fun j => shi (fun k => a k j) n) h
  have h2 := Int.mul_le_mul_of_nonneg_right h1 (Int.le_of_lt p)
  exact Int.le_trans (smce p (fun j => sm (fun k => a k j) n) n) h2
theorem cut2 {x y : Int} {n : Nat} (h : 0 < n) (k : x * (n : Int) * (n : Int) ≤ y * (n : Int) * (n : Int)) : x ≤ y :=
  Int.le_of_mul_le_mul_right (Int.le_of_mul_le_mul_right k (by omega)) (by omega)
theorem dsm_le {a b : Nat → Nat → Int} {n : Nat} (h : ∀ k, k < n → ∀ j, j < n → a k j ≤ b k j) : dsm a n ≤ dsm b n := sml fun j hj => sml fun k hk => h k hk j hj
theorem dsm_sw (a : Nat → Nat → Int) (n : Nat) : dsm a n = dsm (fun k j => a j k) n := sms a n n
theorem dl_dd {a b : Nat → Nat → Int} {n : Nat} (p : 0 < n) (h : ∀ k, k < n → ∀ j, j < n → a k j ≤ b k j) : dlo a n ≤ dhi b n := cut2 p (Int.le_trans (dlo_le p) (Int.le_trans (dsm_le h) (dhi_ge p)))
theorem dl_ds {a b : Nat → Nat → Int} {n : Nat} (p : 0 < n) (h : ∀ k, k < n → ∀ j, j < n → a k j ≤ b j k) : dlo a n ≤ dhi b n := cut2 p (Int.le_trans (dlo_le p) (Int.le_trans (by rw [dsm_sw b]; exact dsm_le h) (dhi_ge p)))
theorem dsm_c (c : Nat → Int) (n : Nat) : dsm (fun k _ => c k) n = (n : Int) * sm c n := smc (sm c n) n
theorem slo2 {c : Nat → Int} {n : Nat} (p : 0 < n) : slo c n * (n : Int) * (n : Int) ≤ dsm (fun k _ => c k) n := by
  rw [dsm_c, Int.mul_comm (n : Int)]
  exact Int.mul_le_mul_of_nonneg_right (slo_le p) (by omega)
theorem shi2 {c : Nat → Int} {n : Nat} (p : 0 < n) : dsm (fun k _ => c k) n ≤ shi c n * (n : Int) * (n : Int) := by
  rw [dsm_c, Int.mul_comm (n : Int)]
  exact Int.mul_le_mul_of_nonneg_right (shi_ge p) (by omega)
theorem dl_1 {a : Nat → Nat → Int} {d : Nat → Int} {n : Nat} (p : 0 < n) (h : ∀ k, k < n → ∀ j, j < n → a k j ≤ d k) : dlo a n ≤ shi d n := cut2 p (Int.le_trans (dlo_le p) (Int.le_trans (dsm_le (b := fun k _ => d k) h) (shi2 p)))
theorem dl_2 {b : Nat → Nat → Int} {c : Nat → Int} {n : Nat} (p : 0 < n) (h : ∀ k, k < n → ∀ j, j < n → c k ≤ b k j) : slo c n ≤ dhi b n := cut2 p (Int.le_trans (slo2 p) (Int.le_trans (dsm_le (a := fun k _ => c k) h) (dhi_ge p)))
theorem dl_3 {a : Nat → Nat → Int} {d : Nat → Int} {n : Nat} (p : 0 < n) (h : ∀ k, k < n → ∀ j, j < n → a k j ≤ d j) : dlo a n ≤ shi d n := cut2 p (Int.le_trans (dlo_le p) (Int.le_trans (dsm_le (b := fun _ j => d j) h) (by rw [dsm_sw]; exact shi2 p)))
theorem dl_4 {b : Nat → Nat → Int} {c : Nat → Int} {n : Nat} (p : 0 < n) (h : ∀ k, k < n → ∀ j, j < n → c j ≤ b k j) : slo c n ≤ dhi b n := cut2 p (Int.le_trans (by rw [← dsm_sw (fun k _ => c k)]; exact slo2 p) (Int.le_trans (dsm_le (a := fun _ j => c j) h) (dhi_ge p)))
theorem sl_1 {c d : Nat → Int} {n : Nat} (p : 0 < n) (h : ∀ k, k < n → c k ≤ d k) : slo c n ≤ shi d n := by
  refine Int.le_of_mul_le_mul_right (Int.le_trans (slo_le p) (Int.le_trans (sml h) (shi_ge p))) (by omega)
/-- low and high ends of a pair of triangles -/
def lwP (s : Int) (p q : P9) : Int := (kV false (FF p q) s).1.1
def upP (s rm : Int) (p q : P9) : Int := if NN p q = 0 then rm else Sp.mn rm (kV false (NN p q) s).1.2
theorem ff_bd {p q : P9} (h : BdT 512 p) (k : BdT 512 q) : FF p q ≤ 1099511627776 := ff_le fun i hi j hj => by
  have a := p3f_bd h hi
  have b := p3f_bd k hj
  have z : BdP 1024 (sub (P3F p i) (P3F q j)) := by
    obtain ⟨a1, a2, a3, a4, a5, a6⟩ := a
    obtain ⟨b1, b2, b3, b4, b5, b6⟩ := b
    simp only [BdP, sub]
    omega
  obtain ⟨c1, c2, c3, c4, c5, c6⟩ := z
  have x1 := mul_bd c1 c2 c1 c2
  have x2 := mul_bd c3 c4 c3 c4
  have x3 := mul_bd c5 c6 c5 c6
  simp only [sq, dot]
  omega
theorem lw_up {S : Nat} {f s : Int} {p q : P9} (S1 : 1 ≤ S) (S2 : S ≤ 60000) (s1 : 1 ≤ s) (s2 : s ≤ 8) (h : (S : Int) ≤ 3 * f) (f2 : f ≤ 1099511627776) (m : NN p q ≤ f) : (kV false f s).1.1 ≤ upP s ((rimN S s : Nat) : Int) p q := by
  have a := lw_rim S1 S2 s1 s2 h f2
  have n0 := nn_nn p q
  unfold upP
  by_cases z : NN p q = 0
  · rw [if_pos z]; exact a
  · rw [if_neg z, Sp.mn_eq]
    have := kV_mono false (by omega : 1 ≤ NN p q) m f2 s1 s2
    omega

end Go.Proofs.Ytjigcgpcglfjfaa
