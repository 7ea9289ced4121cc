/-
  A region that draws its order and ends with one store: what is held of the world need not hold behind that store. No program in sight.
-/
import Derived.Deep.RegionHeld3
import Derived.StillTailTactics
namespace Go.Proofs.Ytjflgiegnibgmaa
section
variable {P : Program} {ops : Array Oper} {Q : Exit → Act → World → Prop} {md : Region.Mode} {S : World → Prop} {t : Nat}
/-- whatever order is picked from here on; S holds behind each operation ahead of number t -/
def wpHT (P : Program) (md : Region.Mode) (ops : Array Oper) (Q : Exit → Act → World → Prop) (S : World → Prop) (t : Nat) : Nat → Array Bool → Act → World → Prop
  | 0, listed, a, w => Region.ready md ops listed = [] ∧ Q .normal a w
  | fuel + 1, listed, a, w =>
    (Region.ready md ops listed = [] → Q .normal a w) ∧
    ∀ i ∈ Region.ready md ops listed, wpOp P ops Q i (fun a' w' => (i < t → S w') ∧ wpHT P md ops Q S t fuel (listed.setIfInBounds i true) a' w') a w
theorem wpAny_of_HT : ∀ (fuel : Nat) (listed : Array Bool) (a : Act) (w : World), wpHT P md ops Q S t fuel listed a w → wpAny P md ops Q fuel listed a w
  | 0, _, _, _, h => h
  | fuel + 1, _, _, _, h => ⟨h.1, fun i hi => wpOp_mono (fun a' w' h' => wpAny_of_HT fuel _ a' w' h'.2) (h.2 i hi)⟩
/-- what is unlisted behind one more listing was unlisted before -/
theorem wpHT.unl {listed : Array Bool} {j k : Nat} (h : (listed.setIfInBounds j true).getD k true = false) : listed.getD k true = false := by
  by_cases e : j = k
  · subst e
    by_cases s : j < listed.size
    · simp [s] at h
    · rwa [Array.setIfInBounds_eq_of_size_le (by omega)] at h
  · rwa [getD_set_ne true e] at h
/-- what may come up waits for nothing that may come up -/
theorem wpHT.free {listed : Array Bool} {i j : Nat} {oj : Oper} (hj : j ∈ Region.ready md ops listed) (hi : i ∈ Region.ready md ops listed) (ho : ops[j]? = some oj) (e : Edge) (he : e ∈ oj.after) (hb : Region.binds md e = true) : e.on ≠ i := by
  intro q
  obtain ⟨_, o, ho', all⟩ := mem_ready.1 hj
  obtain rfl : o = oj := Option.some.inj (ho'.symm.trans ho)
  have yes := all e he hb
  rw [q] at yes
  exact absurd (yes.symm.trans (getD_both (mem_ready.1 hi).1)) (by decide)
/-- number i is apart from each unlisted operation that does not wait for it -/
def Lone (md : Region.Mode) (ops : Array Oper) (i : Nat) (oi : Oper) (listed : Array Bool) : Prop :=
  ∀ j oj, ops[j]? = some oj → j ≠ i → listed.getD j true = false → (∀ e ∈ oj.after, Region.binds md e = true → e.on ≠ i) → oi.apart ops oj = true
theorem Lone.more {i : Nat} {oi : Oper} {listed : Array Bool} (h : Lone md ops i oi listed) (j : Nat) : Lone md ops i oi (listed.setIfInBounds j true) :=
  fun k ok hk hne hun hno => h k ok hk hne (wpHT.unl hun) hno
/-- number i, which yields its value where S holds, may be taken first, if the operations from number t on wait for it -/
theorem wpHT_first {i : Nat} {oi : Oper} {v : Value} (hi : ops[i]? = some oi) (nosel : ∀ (j : Nat) (o : Oper) cs b, ops[j]? = some o → o.op ≠ .select cs b)
    (calm : ∀ c a w, Q (.panic c) (a.put oi.dst v) w → Q (.panic c) a w) (tail : ∀ j oj, ops[j]? = some oj → t ≤ j → ∃ e ∈ oj.after, Region.binds md e = true ∧ e.on = i) :
    ∀ (fuel : Nat) (listed : Array Bool) (a : Act) (w : World), Lone md ops i oi listed → i ∈ Region.ready md ops listed → YieldsIf P ops S oi v a → S w →
      wpHT P md ops Q S t fuel (listed.setIfInBounds i true) (a.put oi.dst v) w → wpHT P md ops Q S t (fuel + 1) listed a w := by
  intro fuel
  induction fuel with
  | zero =>
    intro listed a w _ up gives holds next
    refine ⟨fun none => absurd up (by rw [none]; exact List.not_mem_nil), fun j hj => ?_⟩
    rcases Decidable.em (j = i) with rfl | ne
    · exact gives.wpOp hi holds ⟨fun _ => holds, next⟩
    · exact absurd (ready_mono hj ne) (by rw [next.1]; exact List.not_mem_nil)
  | succ fuel again =>
    intro listed a w lone up gives holds next
    refine ⟨fun none => absurd up (by rw [none]; exact List.not_mem_nil), fun j hj => ?_⟩
    rcases Decidable.em (j = i) with rfl | ne
    · exact gives.wpOp hi holds ⟨fun _ => holds, next⟩
    · obtain ⟨un, oj, hoj, _⟩ := mem_ready.1 hj
      have nowait := fun e he hb => wpHT.free hj up hoj e he hb
      have early : j < t := Nat.lt_of_not_le fun l => by
        obtain ⟨e, he, hb, q⟩ := tail j oj hoj l
        exact nowait e he hb q
      have swap := wpOp_putIf hoj (lone j oj hoj ne un nowait) (fun cs b => nosel i oi cs b hi) (fun cs b => nosel j oj cs b hoj) calm gives (next.2 j (ready_mono hj ne))
      refine wpOp_mono (fun a' w' got => ⟨got.2.1, ?_⟩) swap
      refine again (listed.setIfInBounds j true) a' w' (lone.more j) (ready_mono up (Ne.symm ne)) got.1 (got.2.1 early) ?_
      rw [Array.setIfInBounds_comm _ _ ne]
      exact got.2.2
/-- does each operation from number t on wait for number i? -/
def waitsB (md : Region.Mode) (ops : Array Oper) (t i : Nat) : Bool :=
  (List.range ops.size).all fun j => decide (j < t) || match ops[j]? with
    | some oj => oj.after.any (fun e => Region.binds md e && e.on == i)
    | none => true
theorem waitsB_spec {i : Nat} (h : waitsB md ops t i = true) (j : Nat) (oj : Oper) (hj : ops[j]? = some oj) (l : t ≤ j) : ∃ e ∈ oj.after, Region.binds md e = true ∧ e.on = i := by
  unfold waitsB at h
  have h1 := List.all_eq_true.1 h j (List.mem_range.2 (Array.getElem?_eq_some_iff.1 hj).1)
  rw [hj] at h1
  have h2 : decide (j < t) = false := decide_eq_false (by omega)
  rw [h2, Bool.false_or] at h1
  obtain ⟨e, he, hb⟩ := Array.any_eq_true'.1 h1
  exact ⟨e, he, by simpa using hb⟩
theorem wpHT_take {i : Nat} {oi : Oper} {v : Value} {fuel : Nat} {listed : Array Bool} {a : Act} {w : World} (hi : ops[i]? = some oi)
    (hs : Region.noSelect ops = true) (hf : Region.free md ops listed i = true) (hr : (Region.ready md ops listed).contains i = true) (_hit : i < t) (hw : waitsB md ops t i = true)
    (hQ : ∀ c a w, Q (.panic c) (a.put oi.dst v) w → Q (.panic c) a w) (hy : YieldsIf P ops S oi v a) (hS : S w)
    (h : wpHT P md ops Q S t fuel (listed.setIfInBounds i true) (a.put oi.dst v) w) : wpHT P md ops Q S t (fuel + 1) listed a w :=
  wpHT_first hi (Region.noSelect_spec hs) hQ (waitsB_spec hw) fuel listed a w (Region.free_spec hi hf) (by simpa using hr) hy hS h
theorem wpHT_one {i : Nat} {o : Oper} {fuel : Nat} {listed : Array Bool} {a : Act} {w : World} (hr : Region.ready md ops listed = [i]) (ho : ops[i]? = some o)
    (h : ∀ K' : Act → World → Prop, Shut (∀ a w, S w → (S w → wpHT P md ops Q S t fuel (listed.setIfInBounds i true) a w) → K' a w) → if Region.wanted o (yielded ops a.tmps) = true then Oper.wp P o a w K' Q else K' (a.put o.dst undef) w) :
    wpHT P md ops Q S t (fuel + 1) listed a w := by
  refine ⟨fun h0 => (by rw [hr] at h0; cases h0), fun j hj => ?_⟩
  rw [hr] at hj
  obtain rfl : j = i := by simpa using hj
  exact wpOp_step ho (fun K' hK => h K' (fun a w hS hW => hK a w ⟨fun _ => hS, hW hS⟩))
theorem wpHT_last {i : Nat} {o : Oper} {fuel : Nat} {listed : Array Bool} {a : Act} {w : World} (hr : Region.ready md ops listed = [i]) (ho : ops[i]? = some o) (hit : t ≤ i)
    (h : ∀ K' : Act → World → Prop, Shut (∀ a w, wpHT P md ops Q S t fuel (listed.setIfInBounds i true) a w → K' a w) → if Region.wanted o (yielded ops a.tmps) = true then Oper.wp P o a w K' Q else K' (a.put o.dst undef) w) :
    wpHT P md ops Q S t (fuel + 1) listed a w := by
  refine ⟨fun h0 => (by rw [hr] at h0; cases h0), fun j hj => ?_⟩
  rw [hr] at hj
  obtain rfl : j = i := by simpa using hj
  exact wpOp_step ho (fun K' hK => h K' (fun a w hW => hK a w ⟨fun l => absurd l (by omega), hW⟩))
theorem wpHT_done {listed : Array Bool} {a : Act} {w : World} (hr : Region.ready md ops listed = []) (h : Q .normal a w) : ∀ fuel, wpHT P md ops Q S t fuel listed a w
  | 0 => ⟨hr, h⟩
  | _ + 1 => ⟨fun _ => h, by rw [hr]; simp⟩
theorem wp_region_HT {id : Nat} {a : Act} {w : World} (S : World → Prop) (t : Nat) (hm : P.follows .mixedOrders = true) (hS : S w.drew)
    (h : S w.drew → wpHT P .any ops Q S t ops.size (Array.replicate ops.size false) a w.drew) : (Code.region id ops true).wp P Q a w :=
  wp_region_any hm (wpAny_of_HT _ _ _ _ (h hS))
end
end Go.Proofs.Ytjflgiegnibgmaa
