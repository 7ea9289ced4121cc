/-
  Three calls in their order and three fresh variables in any order between them, in a region that draws its order: one proof for all orders. No program in sight.
-/
import Derived.Test.YtofjnbebipkgkaaDoorHeldU
namespace Go.Proofs.YtofjnbebipkgkaaDoor
def pq (u : Value) : Option Nat → Value
  | none => u
  | some b => .pointer (some ⟨b, 0, none⟩)
/-- a value that is there behind the first n calls -/
def xq (n j : Nat) (v u : Value) : Value := if j < n then v else u
def rsq (c1 c2 c3 k1 k2 k3 : Nat) : Nat → Option Nat → Option Nat → Option Nat → List Nat := fun n q1 q2 q3 =>
  (if n = 0 then [c1] else if n = 1 then [c2] else if n = 2 then [c3] else []) ++ ((if q1.isSome then [] else [k1]) ++ ((if q2.isSome then [] else [k2]) ++ (if q3.isSome then [] else [k3])))
theorem rsq_mem {c1 c2 c3 k1 k2 k3 n i : Nat} {q1 q2 q3 : Option Nat} (h : i ∈ rsq c1 c2 c3 k1 k2 k3 n q1 q2 q3) :
    (n = 0 ∧ i = c1) ∨ (n = 1 ∧ i = c2) ∨ (n = 2 ∧ i = c3) ∨ (q1 = none ∧ i = k1) ∨ (q2 = none ∧ i = k2) ∨ (q3 = none ∧ i = k3) := by
  unfold rsq at h
  rcases List.mem_append.1 h with h | h
  · split at h
    · exact .inl ⟨by assumption, by simpa using h⟩
    · split at h
      · exact .inr (.inl ⟨by assumption, by simpa using h⟩)
      · split at h
        · exact .inr (.inr (.inl ⟨by assumption, by simpa using h⟩))
        · cases h
  · rcases List.mem_append.1 h with h | h
    · cases q1 with
      | none => exact .inr (.inr (.inr (.inl ⟨rfl, by simpa using h⟩)))
      | some b => simp at h
    · rcases List.mem_append.1 h with h | h
      · cases q2 with
        | none => exact .inr (.inr (.inr (.inr (.inl ⟨rfl, by simpa using h⟩))))
        | some b => simp at h
      · cases q3 with
        | none => exact .inr (.inr (.inr (.inr (.inr ⟨rfl, by simpa using h⟩))))
        | some b => simp at h
/-- how much is left -/
def left (n : Nat) (q1 q2 q3 : Option Nat) : Nat := (3 - n) + ((if q1.isSome then 0 else 1) + ((if q2.isSome then 0 else 1) + (if q3.isSome then 0 else 1)))
theorem rsq_ne {c1 c2 c3 k1 k2 k3 n : Nat} {q1 q2 q3 : Option Nat} (h : 0 < left n q1 q2 q3) : rsq c1 c2 c3 k1 k2 k3 n q1 q2 q3 ≠ [] := by
  intro e
  unfold left at h
  unfold rsq at e
  obtain ⟨e0, e⟩ := List.append_eq_nil_iff.1 e
  obtain ⟨e1, e⟩ := List.append_eq_nil_iff.1 e
  obtain ⟨e2, e3⟩ := List.append_eq_nil_iff.1 e
  have h1 : q1.isSome = true := by
    cases q1 with
    | none => simp at e1
    | some b => rfl
  have h2 : q2.isSome = true := by
    cases q2 with
    | none => simp at e2
    | some b => rfl
  have h3 : q3.isSome = true := by
    cases q3 with
    | none => simp at e3
    | some b => rfl
  rw [h1, h2, h3] at h
  simp at h
  split at e0
  · cases e0
  · split at e0
    · cases e0
    · split at e0
      · cases e0
      · omega
section
variable {P : Program} {ops : Array Oper} {Q : Exit → Act → World → Prop} {md : Region.Mode} {S : World → Prop} {hd : Nat → Bool}
theorem wpHU_net (St : World → Option Nat → Option Nat → Option Nat → Prop) (AX : Value → Value → Value → Value → Value → Value → Act) (A B C U1 U2 U3 V1 V2 V3 : Value) (L : Nat → Bool → Bool → Bool → Array Bool) (c1 c2 c3 k1 k2 k3 f0 : Nat)
    (hr : ∀ n q1 q2 q3, n ≤ 3 → 0 < left n q1 q2 q3 → Region.ready md ops (L n q1.isSome q2.isSome q3.isSome) = rsq c1 c2 c3 k1 k2 k3 n q1 q2 q3)
    (l1 : ∀ d1 d2 d3, (L 0 d1 d2 d3).setIfInBounds c1 true = L 1 d1 d2 d3) (l2 : ∀ d1 d2 d3, (L 1 d1 d2 d3).setIfInBounds c2 true = L 2 d1 d2 d3) (l3 : ∀ d1 d2 d3, (L 2 d1 d2 d3).setIfInBounds c3 true = L 3 d1 d2 d3)
    (m1 : ∀ n d2 d3, n ≤ 3 → (L n false d2 d3).setIfInBounds k1 true = L n true d2 d3) (m2 : ∀ n d1 d3, n ≤ 3 → (L n d1 false d3).setIfInBounds k2 true = L n d1 true d3) (m3 : ∀ n d1 d2, n ≤ 3 → (L n d1 d2 false).setIfInBounds k3 true = L n d1 d2 true)
    (hS : ∀ W q1 q2 q3, St W q1 q2 q3 → S W)
    (C1 : ∀ y1 y2 y3 q1 q2 q3 W K, St W q1 q2 q3 → (∀ v, St v q1 q2 q3 → K (AX A U2 U3 y1 y2 y3) v) → wpOp P ops Q c1 K (AX U1 U2 U3 y1 y2 y3) W)
    (C2 : ∀ y1 y2 y3 q1 q2 q3 W K, St W q1 q2 q3 → (∀ v, St v q1 q2 q3 → K (AX A B U3 y1 y2 y3) v) → wpOp P ops Q c2 K (AX A U2 U3 y1 y2 y3) W)
    (C3 : ∀ y1 y2 y3 q1 q2 q3 W K, St W q1 q2 q3 → (∀ v, St v q1 q2 q3 → K (AX A B C y1 y2 y3) v) → wpOp P ops Q c3 K (AX A B U3 y1 y2 y3) W)
    (K1 : ∀ x1 x2 x3 y2 y3 q2 q3 W K, St W none q2 q3 → (∀ b v, St v (some b) q2 q3 → K (AX x1 x2 x3 (pq V1 (some b)) y2 y3) v) → wpOp P ops Q k1 K (AX x1 x2 x3 V1 y2 y3) W)
    (K2 : ∀ x1 x2 x3 y1 y3 q1 q3 W K, St W q1 none q3 → (∀ b v, St v q1 (some b) q3 → K (AX x1 x2 x3 y1 (pq V2 (some b)) y3) v) → wpOp P ops Q k2 K (AX x1 x2 x3 y1 V2 y3) W)
    (K3 : ∀ x1 x2 x3 y1 y2 q1 q2 W K, St W q1 q2 none → (∀ b v, St v q1 q2 (some b) → K (AX x1 x2 x3 y1 y2 (pq V3 (some b))) v) → wpOp P ops Q k3 K (AX x1 x2 x3 y1 y2 V3) W)
    (fin : ∀ b1 b2 b3 W, St W (some b1) (some b2) (some b3) → wpHU P md ops Q S hd f0 (L 3 true true true) (AX A B C (pq V1 (some b1)) (pq V2 (some b2)) (pq V3 (some b3))) W) :
    ∀ m n q1 q2 q3 W, n ≤ 3 → left n q1 q2 q3 = m → St W q1 q2 q3 → wpHU P md ops Q S hd (f0 + m) (L n q1.isSome q2.isSome q3.isSome) (AX (xq n 0 A U1) (xq n 1 B U2) (xq n 2 C U3) (pq V1 q1) (pq V2 q2) (pq V3 q3)) W := by
  intro m
  induction m with
  | zero =>
    intro n q1 q2 q3 W hn hm hst
    have h1 : q1.isSome = true := by
      cases q1 with
      | none => unfold left at hm; simp at hm
      | some b => rfl
    have h2 : q2.isSome = true := by
      cases q2 with
      | none => unfold left at hm; simp at hm
      | some b => rfl
    have h3 : q3.isSome = true := by
      cases q3 with
      | none => unfold left at hm; simp at hm
      | some b => rfl
    have h4 : n = 3 := by unfold left at hm; omega
    obtain ⟨b1, rfl⟩ := Option.isSome_iff_exists.1 h1
    obtain ⟨b2, rfl⟩ := Option.isSome_iff_exists.1 h2
    obtain ⟨b3, rfl⟩ := Option.isSome_iff_exists.1 h3
    subst h4
    exact fin b1 b2 b3 W hst
  | succ m ih =>
    intro n q1 q2 q3 W hn hm hst
    have hl : 0 < left n q1 q2 q3 := by omega
    have hR := hr n q1 q2 q3 hn hl
    refine ⟨fun h0 => absurd (hR.symm.trans h0) (rsq_ne hl), fun i hi => ?_⟩
    rw [hR] at hi
    rcases rsq_mem hi with ⟨rfl, rfl⟩ | ⟨rfl, rfl⟩ | ⟨rfl, rfl⟩ | ⟨rfl, rfl⟩ | ⟨rfl, rfl⟩ | ⟨rfl, rfl⟩
    · refine C1 _ _ _ q1 q2 q3 W _ hst fun v hv => ⟨fun _ => hS _ _ _ _ hv, ?_⟩
      rw [l1]
      exact ih 1 q1 q2 q3 v (by omega) (by unfold left at hm ⊢; omega) hv
    · refine C2 _ _ _ q1 q2 q3 W _ hst fun v hv => ⟨fun _ => hS _ _ _ _ hv, ?_⟩
      rw [l2]
      exact ih 2 q1 q2 q3 v (by omega) (by unfold left at hm ⊢; omega) hv
    · refine C3 _ _ _ q1 q2 q3 W _ hst fun v hv => ⟨fun _ => hS _ _ _ _ hv, ?_⟩
      rw [l3]
      exact ih 3 q1 q2 q3 v (by omega) (by unfold left at hm ⊢; omega) hv
    · refine K1 _ _ _ _ _ q2 q3 W _ hst fun b v hv => ⟨fun _ => hS _ _ _ _ hv, ?_⟩
      have z := ih n (some b) q2 q3 v hn (by unfold left at hm ⊢; simp at hm ⊢; omega) hv
      rw [show (none : Option Nat).isSome = false from rfl, m1 n _ _ hn]
      exact z
    · refine K2 _ _ _ _ _ q1 q3 W _ hst fun b v hv => ⟨fun _ => hS _ _ _ _ hv, ?_⟩
      have z := ih n q1 (some b) q3 v hn (by unfold left at hm ⊢; simp at hm ⊢; omega) hv
      rw [show (none : Option Nat).isSome = false from rfl, m2 n _ _ hn]
      exact z
    · refine K3 _ _ _ _ _ q1 q2 W _ hst fun b v hv => ⟨fun _ => hS _ _ _ _ hv, ?_⟩
      have z := ih n q1 q2 (some b) v hn (by unfold left at hm ⊢; simp at hm ⊢; omega) hv
      rw [show (none : Option Nat).isSome = false from rfl, m3 n _ _ hn]
      exact z
theorem wpHU_enter {l l' : Array Bool} {a a' : Act} {f f' : Nat} {W : World} (e1 : l = l') (e2 : a = a') (e3 : f = f') (h : wpHU P md ops Q S hd f' l' a' W) : wpHU P md ops Q S hd f l a W := by
  subst e1 e2 e3
  exact h
theorem wpHU_name {l : Array Bool} {a : Act} {f : Nat} {W : World} (h : ∀ a0, a0 = a → wpHU P md ops Q S hd f l a0 W) : wpHU P md ops Q S hd f l a W := h a rfl
end
end Go.Proofs.YtofjnbebipkgkaaDoor
