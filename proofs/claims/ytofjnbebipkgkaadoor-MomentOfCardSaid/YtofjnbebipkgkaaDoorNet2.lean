/-
  Two calls in their order and a fresh variable anywhere between them, in a region that draws its order: one proof for all orders. No program in sight.
-/
import Derived.Test.YtofjnbebipkgkaaDoorNet
namespace Go.Proofs.YtofjnbebipkgkaaDoor
def rsq2 (c1 c2 k : Nat) : Nat → Option Nat → List Nat := fun n q => (if n = 0 then [c1] else if n = 1 then [c2] else []) ++ (if q.isSome then [] else [k])
theorem rsq2_mem {c1 c2 k n i : Nat} {q : Option Nat} (h : i ∈ rsq2 c1 c2 k n q) : (n = 0 ∧ i = c1) ∨ (n = 1 ∧ i = c2) ∨ (q = none ∧ i = k) := by
  unfold rsq2 at h
  rcases List.mem_append.1 h with h | h
  · split at h
    · exact .inl ⟨by assumption, by simpa using h⟩
    · split at h
      · exact .inr (.inl ⟨by assumption, by simpa using h⟩)
      · cases h
  · cases q with
    | none => exact .inr (.inr ⟨rfl, by simpa using h⟩)
    | some b => simp at h
def left2 (n : Nat) (q : Option Nat) : Nat := (2 - n) + (if q.isSome then 0 else 1)
theorem rsq2_ne {c1 c2 k n : Nat} {q : Option Nat} (h : 0 < left2 n q) : rsq2 c1 c2 k n q ≠ [] := by
  intro e
  unfold left2 at h
  unfold rsq2 at e
  obtain ⟨e0, e1⟩ := List.append_eq_nil_iff.1 e
  have h1 : q.isSome = true := by
    cases q with
    | none => simp at e1
    | some b => rfl
  rw [h1] at h
  simp at h
  split at e0
  · cases e0
  · split at e0
    · cases e0
    · omega
section
variable {P : Program} {ops : Array Oper} {Q : Exit → Act → World → Prop} {md : Region.Mode} {S : World → Prop} {hd : Nat → Bool}
theorem wpHU_net2 (St : World → Option Nat → Prop) (AX : Value → Value → Value → Act) (A B U1 U2 V : Value) (L : Nat → Bool → Array Bool) (c1 c2 k f0 : Nat)
    (hr : ∀ n q, n ≤ 2 → 0 < left2 n q → Region.ready md ops (L n q.isSome) = rsq2 c1 c2 k n q)
    (l1 : ∀ d, (L 0 d).setIfInBounds c1 true = L 1 d) (l2 : ∀ d, (L 1 d).setIfInBounds c2 true = L 2 d) (m1 : ∀ n, n ≤ 2 → (L n false).setIfInBounds k true = L n true)
    (hS : ∀ W q, St W q → S W)
    (C1 : ∀ y q W K, St W q → (∀ v, St v q → K (AX A U2 y) v) → wpOp P ops Q c1 K (AX U1 U2 y) W)
    (C2 : ∀ y q W K, St W q → (∀ v, St v q → K (AX A B y) v) → wpOp P ops Q c2 K (AX A U2 y) W)
    (K1 : ∀ x1 x2 W K, St W none → (∀ b v, St v (some b) → K (AX x1 x2 (pq V (some b))) v) → wpOp P ops Q k K (AX x1 x2 V) W)
    (fin : ∀ b W, St W (some b) → wpHU P md ops Q S hd f0 (L 2 true) (AX A B (pq V (some b))) W) :
    ∀ m n q W, n ≤ 2 → left2 n q = m → St W q → wpHU P md ops Q S hd (f0 + m) (L n q.isSome) (AX (xq n 0 A U1) (xq n 1 B U2) (pq V q)) W := by
  intro m
  induction m with
  | zero =>
    intro n q W hn hm hst
    have h1 : q.isSome = true := by
      cases q with
      | none => unfold left2 at hm; simp at hm
      | some b => rfl
    have h4 : n = 2 := by unfold left2 at hm; omega
    obtain ⟨b1, rfl⟩ := Option.isSome_iff_exists.1 h1
    subst h4
    exact fin b1 W hst
  | succ m ih =>
    intro n q W hn hm hst
    have hl : 0 < left2 n q := by omega
    have hR := hr n q hn hl
    refine ⟨fun h0 => absurd (hR.symm.trans h0) (rsq2_ne hl), fun i hi => ?_⟩
    rw [hR] at hi
    rcases rsq2_mem hi with ⟨rfl, rfl⟩ | ⟨rfl, rfl⟩ | ⟨rfl, rfl⟩
    · refine C1 _ q W _ hst fun v hv => ⟨fun _ => hS _ _ hv, ?_⟩
      rw [l1]
      exact ih 1 q v (by omega) (by unfold left2 at hm ⊢; omega) hv
    · refine C2 _ q W _ hst fun v hv => ⟨fun _ => hS _ _ hv, ?_⟩
      rw [l2]
      exact ih 2 q v (by omega) (by unfold left2 at hm ⊢; omega) hv
    · refine K1 _ _ W _ hst fun b v hv => ⟨fun _ => hS _ _ hv, ?_⟩
      have z := ih n (some b) v hn (by unfold left2 at hm ⊢; simp at hm ⊢; omega) hv
      rw [show (none : Option Nat).isSome = false from rfl, m1 n hn]
      exact z
end
end Go.Proofs.YtofjnbebipkgkaaDoor
