/-
  A region that draws its order, by an invariant: each operation that may come up keeps it.
-/
import Derived.WalkKit
import Derived.RegionTactic
namespace Go.Proofs.Ytlegalibjkeccaa
open Go
/-- how many of the first n are not listed -/
def unl (l : Array Bool) : Nat → Nat
  | 0 => 0
  | n + 1 => unl l n + (if l.getD n true = true then 0 else 1)
theorem unl_far {l : Array Bool} {i : Nat} : ∀ {n : Nat}, n ≤ i → unl (l.setIfInBounds i true) n = unl l n
  | 0, _ => rfl
  | n + 1, h => by
    show unl _ n + _ = unl l n + _
    rw [unl_far (n := n) (by omega), getD_set_ne true (by omega)]
theorem getD_set_self {l : Array Bool} {i : Nat} : (l.setIfInBounds i true).getD i true = true := by
  rw [Array.getD_eq_getD_getElem?, Array.getElem?_setIfInBounds]
  split
  · split <;> rfl
  · rename_i h; exact absurd rfl h
theorem unl_set {l : Array Bool} {i : Nat} : ∀ {n : Nat}, i < n → l.getD i true = false → unl (l.setIfInBounds i true) n + 1 = unl l n
  | 0, h, _ => absurd h (Nat.not_lt_zero i)
  | n + 1, h, k => by
    show unl _ n + _ + 1 = unl l n + _
    by_cases e : i = n
    · subst e
      rw [unl_far (Nat.le_refl i), getD_set_self, k]
      simp
    · rw [getD_set_ne true e]
      have := unl_set (n := n) (by omega) k
      omega
theorem unl_zero {l : Array Bool} : ∀ {n : Nat}, unl l n = 0 → ∀ i, i < n → l.getD i true = true
  | 0, _, i, h => absurd h (Nat.not_lt_zero i)
  | n + 1, h, i, k => by
    have h : unl l n + (if l.getD n true = true then 0 else 1) = 0 := h
    by_cases e : i = n
    · subst e
      refine Classical.byContradiction fun c => ?_
      rw [if_neg c] at h
      omega
    · exact unl_zero (n := n) (by omega) i (by omega)
/-- p holds of each of the operations, numbered from k on -/
def allOps (p : Nat → Oper → Prop) : Nat → List Oper → Prop
  | _, [] => True
  | k, o :: os => p k o ∧ allOps p (k + 1) os
theorem allOps_at {p : Nat → Oper → Prop} : ∀ {os : List Oper} {k : Nat}, allOps p k os → ∀ (i : Nat) (o : Oper), os[i]? = some o → p (k + i) o
  | [], _, _, i, o, h => by simp at h
  | x :: os, k, ⟨h0, hs⟩, 0, o, h => by
    have : x = o := by simpa using h
    subst this
    exact h0
  | x :: os, k, ⟨h0, hs⟩, i + 1, o, h => by
    have := allOps_at hs i o (by simpa using h)
    rwa [show k + 1 + i = k + (i + 1) by omega] at this
section
variable {P : Program} {ops : Array Oper} {Q : Exit → Act → World → Prop}
theorem wpAny_inv (Inv : Array Bool → Act → World → Prop)
    (hstep : ∀ (i : Nat) (o : Oper), ops[i]? = some o → ∀ (l : Array Bool) (a : Act) (w : World), Inv l a w → l.getD i true = false → (∀ e ∈ o.after, Region.binds .any e = true → l.getD e.on false = true) → ∀ K' : Act → World → Prop, (∀ a w, Inv (l.setIfInBounds i true) a w → K' a w) → if Region.wanted o (yielded ops a.tmps) = true then Oper.wp P o a w K' Q else K' (a.put o.dst undef) w)
    (hend : ∀ (l : Array Bool) (a : Act) (w : World), Inv l a w → Region.ready .any ops l = [] → Q .normal a w) :
    ∀ (fuel : Nat) (l : Array Bool) (a : Act) (w : World), unl l ops.size ≤ fuel → Inv l a w → wpAny P .any ops Q fuel l a w
  | 0, l, a, w, hf, hi => by
    have hr : Region.ready .any ops l = [] := by
      refine List.eq_nil_iff_forall_not_mem.2 fun i hm => ?_
      obtain ⟨h1, o, ho, _⟩ := mem_ready.1 hm
      have hlt : i < ops.size := (Array.getElem?_eq_some_iff.1 ho).1
      rw [unl_zero (by omega) i hlt] at h1
      cases h1
    exact ⟨hr, hend l a w hi hr⟩
  | fuel + 1, l, a, w, hf, hi => by
    refine ⟨fun hr => hend l a w hi hr, fun i hm => ?_⟩
    obtain ⟨h1, o, ho, hp⟩ := mem_ready.1 hm
    have hlt : i < ops.size := (Array.getElem?_eq_some_iff.1 ho).1
    have hs := unl_set hlt h1
    refine wpOp_step ho fun K' hK => hstep i o ho l a w hi h1 hp K' fun a' w' hi' => hK _ _ (wpAny_inv Inv hstep hend fuel _ _ _ (by omega) hi')
/-- a region by an invariant -/
theorem wp_region_inv {id : Nat} {a : Act} {w : World} (Inv : Array Bool → Act → World → Prop) (hm : P.follows .mixedOrders = true)
    (h0 : Inv (Array.replicate ops.size false) a w.drew)
    (hstep : allOps (fun i o => ∀ (l : Array Bool) (a : Act) (w : World), Inv l a w → l.getD i true = false → (∀ e ∈ o.after, Region.binds .any e = true → l.getD e.on false = true) → ∀ K' : Act → World → Prop, (∀ a w, Inv (l.setIfInBounds i true) a w → K' a w) → if Region.wanted o (yielded ops a.tmps) = true then Oper.wp P o a w K' Q else K' (a.put o.dst undef) w) 0 ops.toList)
    (hend : ∀ (l : Array Bool) (a : Act) (w : World), Inv l a w → Region.ready .any ops l = [] → Q .normal a w) :
    (Code.region id ops true).wp P Q a w := by
  refine wp_region_any hm (wpAny_inv Inv (fun i o ho => ?_) hend _ _ _ _ ?_ h0)
  · have := allOps_at hstep i o (by rw [Array.getElem?_toList]; exact ho)
    rwa [Nat.zero_add] at this
  have : ∀ n m : Nat, n ≤ m → unl (Array.replicate m false) n ≤ n := by
    intro n m h
    induction n with
    | zero => exact Nat.le_refl _
    | succ n ih =>
      show unl _ n + (if _ then 0 else 1) ≤ n + 1
      have := ih (by omega)
      split <;> omega
  exact this _ _ (Nat.le_refl _)
/-- what is listed at the end -/
theorem ready_end {l : Array Bool} (h : Region.ready .any ops l = []) (i : Nat) {o : Oper} (hs : i < l.size) (ho : ops[i]? = some o) (hp : ∀ e ∈ o.after, Region.binds .any e = true → l.getD e.on false = true) : l.getD i false = true := by
  cases e : l.getD i true with
  | false =>
    have : i ∈ Region.ready .any ops l := mem_ready.2 ⟨e, o, ho, hp⟩
    rw [h] at this
    cases this
  | true =>
    rw [Array.getD_eq_getD_getElem?, Array.getElem?_eq_getElem hs] at e ⊢
    exact e
end
theorem gs {l : Array Bool} {i j : Nat} (h : i ≠ j) (k : (l.setIfInBounds i true).getD j false = true) : l.getD j false = true := by
  rwa [getD_set_ne false h] at k
theorem gs_t {l : Array Bool} {i j : Nat} (h : i ≠ j) (k : l.getD j false = true) : (l.setIfInBounds i true).getD j false = true := by
  rwa [getD_set_ne false h]
theorem gs_i {l : Array Bool} {i : Nat} (h : i < l.size) : (l.setIfInBounds i true).getD i false = true := by
  rw [Array.getD_eq_getD_getElem?, Array.getElem?_setIfInBounds]
  simp [h]
/-- slot k is read as v once its operation is listed -/
def PV (l : Array Bool) (k : Nat) (x v : Value) : Prop := l.getD k false = true → x = v
theorem PV.keep {l : Array Bool} {i k : Nat} {x v : Value} (h : PV l k x v) (ne : i ≠ k) : PV (l.setIfInBounds i true) k x v := fun e => h (gs ne e)
theorem PV.made {l : Array Bool} {k : Nat} {x v : Value} (h : x = v) : PV l k x v := fun _ => h
/-- another slot -/
def upd (X : Nat → Value) (d : Nat) (v : Value) (n : Nat) : Value := if n = d then v else X n
end Go.Proofs.Ytlegalibjkeccaa
