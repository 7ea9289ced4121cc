/-
  Plain arithmetic for TopSpans: a product of roots and the root of the product meet.
-/
import Derived.Test.YthpjjpfflpjpdabTopNum2
import Derived.Test.YthpjjpfflpjpdabRootRef
namespace Go.Proofs.Ythpjjpfflpjpdab
theorem csq_top (n : Nat) : n ≤ Rt.csq n * Rt.csq n := by
  have a := (Rt.isq_spec n)
  unfold Rt.csq
  split <;> omega
theorem sq_le {x y : Int} (hy : 0 ≤ y) (h : x * x ≤ y * y) : x ≤ y := by
  rcases Int.lt_or_le y x with c | c
  · have a := Int.mul_le_mul (show y + 1 ≤ x by omega) (show y + 1 ≤ x by omega) (by omega) (by omega)
    rw [Int.add_mul, Int.mul_add] at a
    omega
  · exact c
theorem root_point {lo hi : Int} (h : (rootR lo hi).2 = 0) :
    0 ≤ lo ∧ lo ≤ hi ∧ 0 ≤ (rootR lo hi).1.1 ∧ 0 ≤ (rootR lo hi).1.2 ∧ (rootR lo hi).1.1 * (rootR lo hi).1.1 ≤ lo * 1048576 ∧ hi * 1048576 ≤ (rootR lo hi).1.2 * (rootR lo hi).1.2 := by
  unfold rootR at *
  split at h
  · rename_i v
    rw [if_pos v, (Sp.told_ok h).1]
    have c := Sp.vld_iff.1 v.1
    have a := (Rt.isq_spec (lo.toNat * 1048576)).1
    have b := csq_top (hi.toNat * 1048576)
    refine ⟨v.2, c.2.1, Int.natCast_nonneg _, Int.natCast_nonneg _, ?_, ?_⟩
    · have := Int.ofNat_le.2 a
      rw [Int.natCast_mul] at this
      show ((Rt.isq (lo.toNat * 1048576) : Nat) : Int) * ((Rt.isq (lo.toNat * 1048576) : Nat) : Int) ≤ _
      omega
    · have := Int.ofNat_le.2 b
      rw [Int.natCast_mul (Rt.csq _)] at this
      show _ ≤ ((Rt.csq (hi.toNat * 1048576) : Nat) : Int) * ((Rt.csq (hi.toNat * 1048576) : Nat) : Int)
      omega
  · exact absurd h (by decide)
theorem mul_top {al ah bl bh : Int} (h : (Sp.mulR al ah bl bh).2 = 0) : ah * bh ≤ (Sp.mulR al ah bl bh).1.2 * 1048576 := by
  unfold Sp.mulR at *
  split at h
  · rename_i v
    rw [if_pos v, (Sp.told_ok h).1]
    have b := Sp.mx4_ge (Sp.mulU al bl) (Sp.mulU al bh) (Sp.mulU ah bl) (Sp.mulU ah bh)
    have u := Sp.mulU_ge ah bh
    dsimp only
    omega
  · exact absurd h (by decide)
theorem sq_low {V K r u a b : Int} (hK : 0 < K) (hV : 0 ≤ V) (hr : 0 ≤ r) (hu : 0 ≤ u) (ha : 0 ≤ a) (h : V * K ≤ r * u) (h1 : r * r ≤ a * K) (h2 : u * u ≤ b * K) : V * V ≤ a * b := by
  have e1 : (V * K) * (V * K) ≤ (r * u) * (r * u) := Int.mul_le_mul h h (Int.mul_nonneg hV (by omega)) (Int.mul_nonneg hr hu)
  have e2 : (r * r) * (u * u) ≤ (a * K) * (b * K) := Int.mul_le_mul h1 h2 (Int.mul_nonneg hu hu) (Int.mul_nonneg ha (by omega))
  have e3 : (V * V) * (K * K) ≤ (a * b) * (K * K) := by
    rw [show (V * V) * (K * K) = (V * K) * (V * K) by ac_rfl, show (a * b) * (K * K) = (a * K) * (b * K) by ac_rfl]
    refine Int.le_trans e1 ?_
    rw [show (r * u) * (r * u) = (r * r) * (u * u) by ac_rfl]
    exact e2
  exact Int.le_of_mul_le_mul_right e3 (Int.mul_pos hK hK)
theorem sq_high {V K r u a b : Int} (hK : 0 < K) (hr : 0 ≤ r) (hu : 0 ≤ u) (hb : 0 ≤ b) (h : r * u ≤ V * K) (h1 : a * K ≤ r * r) (h2 : b * K ≤ u * u) : a * b ≤ V * V := by
  have z := Int.mul_nonneg hr hu
  have e1 : (r * u) * (r * u) ≤ (V * K) * (V * K) := Int.mul_le_mul h h z (Int.le_trans z h)
  have e2 : (a * K) * (b * K) ≤ (r * r) * (u * u) := Int.mul_le_mul h1 h2 (Int.mul_nonneg hb (by omega)) (Int.mul_nonneg hr hr)
  have e3 : (a * b) * (K * K) ≤ (V * V) * (K * K) := by
    rw [show (V * V) * (K * K) = (V * K) * (V * K) by ac_rfl, show (a * b) * (K * K) = (a * K) * (b * K) by ac_rfl]
    refine Int.le_trans e2 ?_
    rw [show (r * r) * (u * u) = (r * u) * (r * u) by ac_rfl]
    exact e1
  exact Int.le_of_mul_le_mul_right e3 (Int.mul_pos hK hK)
/-- a product of roots and the root of the product -/
theorem roots_meet {al ah bl bh : Int} (e1 : (rootR al ah).2 = 0) (e2 : (rootR bl bh).2 = 0) (e3 : (Sp.mulR (rootR al ah).1.1 (rootR al ah).1.2 (rootR bl bh).1.1 (rootR bl bh).1.2).2 = 0)
    (e4 : (Sp.mulR al ah bl bh).2 = 0) (e5 : (rootR (Sp.mulR al ah bl bh).1.1 (Sp.mulR al ah bl bh).1.2).2 = 0) :
    (Sp.mulR (rootR al ah).1.1 (rootR al ah).1.2 (rootR bl bh).1.1 (rootR bl bh).1.2).1.1 ≤ (rootR (Sp.mulR al ah bl bh).1.1 (Sp.mulR al ah bl bh).1.2).1.2 ∧
    (rootR (Sp.mulR al ah bl bh).1.1 (Sp.mulR al ah bl bh).1.2).1.1 ≤ (Sp.mulR (rootR al ah).1.1 (rootR al ah).1.2 (rootR bl bh).1.1 (rootR bl bh).1.2).1.2 := by
  obtain ⟨a0, a1, r0, r1, r2, r3⟩ := root_point e1
  obtain ⟨b0, b1, u0, u1, u2, u3⟩ := root_point e2
  obtain ⟨m0, m1, w0, w1, w2, w3⟩ := root_point e5
  have n1 := (Sp.mul_point e3).1
  have n2 := mul_top e3
  have k1 := Sp.mul_point e4
  have ab := Int.mul_le_mul a1 b1 b0 (by omega)
  have z := Int.mul_nonneg r1 u1
  constructor
  · by_cases c : 0 ≤ (Sp.mulR (rootR al ah).1.1 (rootR al ah).1.2 (rootR bl bh).1.1 (rootR bl bh).1.2).1.1
    · have s := sq_low (by decide) c r0 u0 a0 n1 r2 u2
      exact sq_le w1 (by omega)
    · omega
  · have s := sq_high (by decide) r1 u1 (by omega) n2 r3 u3
    exact sq_le (by omega) (by omega)

end Go.Proofs.Ythpjjpfflpjpdab
