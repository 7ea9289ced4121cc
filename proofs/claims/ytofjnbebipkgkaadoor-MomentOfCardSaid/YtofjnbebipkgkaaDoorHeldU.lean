/-
  A region that draws its order and ends with one store: what is held of the world need not hold behind that store. No program in sight.
-/
import Derived.Deep.RegionHeld3
import Derived.StillTailTactics
namespace Go.Proofs.YtofjnbebipkgkaaDoor
section
variable {P : Program} {ops : Array Oper} {Q : Exit → Act → World → Prop} {md : Region.Mode} {S : World → Prop} {hd : Nat → Bool}
/-- whatever order is picked from here on; S holds behind each operation that hd names -/
def wpHU (P : Program) (md : Region.Mode) (ops : Array Oper) (Q : Exit → Act → World → Prop) (S : World → Prop) (hd : Nat → Bool) : Nat → Array Bool → Act → World → Prop
  | 0, listed, a, w => Region.ready md ops listed = [] ∧ Q .normal a w
  | fuel + 1, listed, a, w =>
    (Region.ready md ops listed = [] → Q .normal a w) ∧
    ∀ i ∈ Region.ready md ops listed, wpOp P ops Q i (fun a' w' => (hd i = true → S w') ∧ wpHU P md ops Q S hd fuel (listed.setIfInBounds i true) a' w') a w
theorem wpAny_of_HU : ∀ (fuel : Nat) (listed : Array Bool) (a : Act) (w : World), wpHU P md ops Q S hd fuel listed a w → wpAny P md ops Q fuel listed a w
  | 0, _, _, _, h => h
  | fuel + 1, _, _, _, h => ⟨h.1, fun i hi => wpOp_mono (fun a' w' h' => wpAny_of_HU fuel _ a' w' h'.2) (h.2 i hi)⟩
/-- what is unlisted behind one more listing was unlisted before -/
theorem wpHU.unl {listed : Array Bool} {j k : Nat} (h : (listed.setIfInBounds j true).getD k true = false) : listed.getD k true = false := by
  by_cases e : j = k
  · subst e
    by_cases s : j < listed.size
    · simp [s] at h
    · rwa [Array.setIfInBounds_eq_of_size_le (by omega)] at h
  · rwa [getD_set_ne true e] at h
/-- what may come up waits for nothing that may come up -/
theorem wpHU.free {listed : Array Bool} {i j : Nat} {oj : Oper} (hj : j ∈ Region.ready md ops listed) (hi : i ∈ Region.ready md ops listed) (ho : ops[j]? = some oj) (e : Edge) (he : e ∈ oj.after) (hb : Region.binds md e = true) : e.on ≠ i := by
  intro q
  obtain ⟨_, o, ho', all⟩ := mem_ready.1 hj
  obtain rfl : o = oj := Option.some.inj (ho'.symm.trans ho)
  have yes := all e he hb
  rw [q] at yes
  exact absurd (yes.symm.trans (getD_both (mem_ready.1 hi).1)) (by decide)
/-- number i is apart from each unlisted operation that does not wait for it -/
def LoneU (md : Region.Mode) (ops : Array Oper) (i : Nat) (oi : Oper) (listed : Array Bool) : Prop :=
  ∀ j oj, ops[j]? = some oj → j ≠ i → listed.getD j true = false → (∀ e ∈ oj.after, Region.binds md e = true → e.on ≠ i) → oi.apart ops oj = true
theorem LoneU.more {i : Nat} {oi : Oper} {listed : Array Bool} (h : LoneU md ops i oi listed) (j : Nat) : LoneU md ops i oi (listed.setIfInBounds j true) :=
  fun k ok hk hne hun hno => h k ok hk hne (wpHU.unl hun) hno
/-- what is unlisted, and not named by hd, waits for number i -/
def TailU (md : Region.Mode) (ops : Array Oper) (hd : Nat → Bool) (i : Nat) (listed : Array Bool) : Prop :=
  ∀ j oj, ops[j]? = some oj → hd j = false → j ≠ i → listed.getD j true = false → ∃ e ∈ oj.after, Region.binds md e = true ∧ e.on = i
theorem TailU.more {i : Nat} {listed : Array Bool} (h : TailU md ops hd i listed) (j : Nat) : TailU md ops hd i (listed.setIfInBounds j true) :=
  fun k ok hok hk ne hun => h k ok hok hk ne (wpHU.unl hun)
/-- number i, which yields its value where S holds, may be taken first, if the operations that hd does not name wait for it -/
theorem wpHU_first {i : Nat} {oi : Oper} {v : Value} (hi : ops[i]? = some oi) (nosel : ∀ (j : Nat) (o : Oper) cs b, ops[j]? = some o → o.op ≠ .select cs b)
    (calm : ∀ c a w, Q (.panic c) (a.put oi.dst v) w → Q (.panic c) a w) :
    ∀ (fuel : Nat) (listed : Array Bool) (a : Act) (w : World), LoneU md ops i oi listed → TailU md ops hd i listed → i ∈ Region.ready md ops listed → YieldsIf P ops S oi v a → S w →
      wpHU P md ops Q S hd fuel (listed.setIfInBounds i true) (a.put oi.dst v) w → wpHU P md ops Q S hd (fuel + 1) listed a w := by
  intro fuel
  induction fuel with
  | zero =>
    intro listed a w _ _ up gives holds next
    refine ⟨fun none => absurd up (by rw [none]; exact List.not_mem_nil), fun j hj => ?_⟩
    rcases Decidable.em (j = i) with rfl | ne
    · exact gives.wpOp hi holds ⟨fun _ => holds, next⟩
    · exact absurd (ready_mono hj ne) (by rw [next.1]; exact List.not_mem_nil)
  | succ fuel again =>
    intro listed a w lone tail up gives holds next
    refine ⟨fun none => absurd up (by rw [none]; exact List.not_mem_nil), fun j hj => ?_⟩
    rcases Decidable.em (j = i) with rfl | ne
    · exact gives.wpOp hi holds ⟨fun _ => holds, next⟩
    · obtain ⟨un, oj, hoj, _⟩ := mem_ready.1 hj
      have nowait := fun e he hb => wpHU.free hj up hoj e he hb
      have early : hd j = true := by
        cases c : hd j with
        | true => rfl
        | false =>
          obtain ⟨e, he, hb, q⟩ := tail j oj hoj c ne un
          exact absurd q (nowait e he hb)
      have swap := wpOp_putIf hoj (lone j oj hoj ne un nowait) (fun cs b => nosel i oi cs b hi) (fun cs b => nosel j oj cs b hoj) calm gives (next.2 j (ready_mono hj ne))
      refine wpOp_mono (fun a' w' got => ⟨got.2.1, ?_⟩) swap
      refine again (listed.setIfInBounds j true) a' w' (lone.more j) (tail.more j) (ready_mono up (Ne.symm ne)) got.1 (got.2.1 early) ?_
      rw [Array.setIfInBounds_comm _ _ ne]
      exact got.2.2
/-- number i, which yields its value in whatever world, may be taken first, if hd does not name it -/
theorem wpHU_first0 {i : Nat} {oi : Oper} {v : Value} (hi : ops[i]? = some oi) (nosel : ∀ (j : Nat) (o : Oper) cs b, ops[j]? = some o → o.op ≠ .select cs b)
    (hdi : hd i = false) (calm : ∀ c a w, Q (.panic c) (a.put oi.dst v) w → Q (.panic c) a w) :
    ∀ (fuel : Nat) (listed : Array Bool) (a : Act) (w : World), LoneU md ops i oi listed → i ∈ Region.ready md ops listed → YieldsIf P ops (fun _ => True) oi v a →
      wpHU P md ops Q S hd fuel (listed.setIfInBounds i true) (a.put oi.dst v) w → wpHU P md ops Q S hd (fuel + 1) listed a w := by
  intro fuel
  induction fuel with
  | zero =>
    intro listed a w _ up gives next
    refine ⟨fun none => absurd up (by rw [none]; exact List.not_mem_nil), fun j hj => ?_⟩
    rcases Decidable.em (j = i) with rfl | ne
    · exact gives.wpOp hi trivial ⟨fun q => absurd (hdi.symm.trans q) (by decide), next⟩
    · exact absurd (ready_mono hj ne) (by rw [next.1]; exact List.not_mem_nil)
  | succ fuel again =>
    intro listed a w lone up gives next
    refine ⟨fun none => absurd up (by rw [none]; exact List.not_mem_nil), fun j hj => ?_⟩
    rcases Decidable.em (j = i) with rfl | ne
    · exact gives.wpOp hi trivial ⟨fun q => absurd (hdi.symm.trans q) (by decide), next⟩
    · obtain ⟨un, oj, hoj, _⟩ := mem_ready.1 hj
      have nowait := fun e he hb => wpHU.free hj up hoj e he hb
      have swap := wpOp_putIf hoj (lone j oj hoj ne un nowait) (fun cs b => nosel i oi cs b hi) (fun cs b => nosel j oj cs b hoj) calm gives (next.2 j (ready_mono hj ne))
      refine wpOp_mono (fun a' w' got => ⟨got.2.1, ?_⟩) swap
      refine again (listed.setIfInBounds j true) a' w' (lone.more j) (ready_mono up (Ne.symm ne)) got.1 ?_
      rw [Array.setIfInBounds_comm _ _ ne]
      exact got.2.2
/-- does each operation that hd does not name, and that has not come up, wait for number i? -/
def waitsU (md : Region.Mode) (ops : Array Oper) (hd : Nat → Bool) (listed : Array Bool) (i : Nat) : Bool :=
  (List.range ops.size).all fun j => hd j || (j == i || (listed.getD j true || match ops[j]? with
    | some oj => oj.after.any (fun e => Region.binds md e && e.on == i)
    | none => true))
theorem waitsU_spec {i : Nat} {listed : Array Bool} (h : waitsU md ops hd listed i = true) : TailU md ops hd i listed := by
  intro j oj hj hdj hji hun
  unfold waitsU at h
  have h1 := List.all_eq_true.1 h j (List.mem_range.2 (Array.getElem?_eq_some_iff.1 hj).1)
  rw [hj, hdj, hun, Bool.false_or, Bool.false_or, beq_false_of_ne hji, Bool.false_or] at h1
  obtain ⟨e, he, hb⟩ := Array.any_eq_true'.1 h1
  exact ⟨e, he, by simpa using hb⟩
theorem wpHU_take {i : Nat} {oi : Oper} {v : Value} {fuel : Nat} {listed : Array Bool} {a : Act} {w : World} (hi : ops[i]? = some oi)
    (hs : Region.noSelect ops = true) (hf : Region.free md ops listed i = true) (hr : (Region.ready md ops listed).contains i = true) (hw : waitsU md ops hd listed i = true)
    (hQ : ∀ c a w, Q (.panic c) (a.put oi.dst v) w → Q (.panic c) a w) (hy : YieldsIf P ops S oi v a) (hS : S w)
    (h : wpHU P md ops Q S hd fuel (listed.setIfInBounds i true) (a.put oi.dst v) w) : wpHU P md ops Q S hd (fuel + 1) listed a w :=
  wpHU_first hi (Region.noSelect_spec hs) hQ fuel listed a w (Region.free_spec hi hf) (waitsU_spec hw) (by simpa using hr) hy hS h
theorem wpHU_take0 {i : Nat} {oi : Oper} {v : Value} {fuel : Nat} {listed : Array Bool} {a : Act} {w : World} (hi : ops[i]? = some oi)
    (hs : Region.noSelect ops = true) (hf : Region.free md ops listed i = true) (hr : (Region.ready md ops listed).contains i = true) (hdi : hd i = false)
    (hQ : ∀ c a w, Q (.panic c) (a.put oi.dst v) w → Q (.panic c) a w) (hy : YieldsIf P ops (fun _ => True) oi v a)
    (h : wpHU P md ops Q S hd fuel (listed.setIfInBounds i true) (a.put oi.dst v) w) : wpHU P md ops Q S hd (fuel + 1) listed a w :=
  wpHU_first0 hi (Region.noSelect_spec hs) hdi hQ fuel listed a w (Region.free_spec hi hf) (by simpa using hr) hy h
theorem wpHU_one {i : Nat} {o : Oper} {fuel : Nat} {listed : Array Bool} {a : Act} {w : World} (hr : Region.ready md ops listed = [i]) (ho : ops[i]? = some o)
    (h : ∀ K' : Act → World → Prop, Shut (∀ a w, S w → (S w → wpHU P md ops Q S hd fuel (listed.setIfInBounds i true) a w) → K' a w) → if Region.wanted o (yielded ops a.tmps) = true then Oper.wp P o a w K' Q else K' (a.put o.dst undef) w) :
    wpHU P md ops Q S hd (fuel + 1) listed a w := by
  refine ⟨fun h0 => (by rw [hr] at h0; cases h0), fun j hj => ?_⟩
  rw [hr] at hj
  obtain rfl : j = i := by simpa using hj
  exact wpOp_step ho (fun K' hK => h K' (fun a w hS hW => hK a w ⟨fun _ => hS, hW hS⟩))
theorem wpHU_last {i : Nat} {o : Oper} {fuel : Nat} {listed : Array Bool} {a : Act} {w : World} (hr : Region.ready md ops listed = [i]) (ho : ops[i]? = some o) (hit : hd i = false)
    (h : ∀ K' : Act → World → Prop, Shut (∀ a w, wpHU P md ops Q S hd fuel (listed.setIfInBounds i true) a w → K' a w) → if Region.wanted o (yielded ops a.tmps) = true then Oper.wp P o a w K' Q else K' (a.put o.dst undef) w) :
    wpHU P md ops Q S hd (fuel + 1) listed a w := by
  refine ⟨fun h0 => (by rw [hr] at h0; cases h0), fun j hj => ?_⟩
  rw [hr] at hj
  obtain rfl : j = i := by simpa using hj
  exact wpOp_step ho (fun K' hK => h K' (fun a w hW => hK a w ⟨fun l => absurd (hit.symm.trans l) (by decide), hW⟩))
theorem wpHU_done {listed : Array Bool} {a : Act} {w : World} (hr : Region.ready md ops listed = []) (h : Q .normal a w) : ∀ fuel, wpHU P md ops Q S hd fuel listed a w
  | 0 => ⟨hr, h⟩
  | _ + 1 => ⟨fun _ => h, by rw [hr]; simp⟩
theorem wp_region_HU {id : Nat} {a : Act} {w : World} (S : World → Prop) (hd : Nat → Bool) (hm : P.follows .mixedOrders = true) (hS : S w.drew)
    (h : S w.drew → wpHU P .any ops Q S hd ops.size (Array.replicate ops.size false) a w.drew) : (Code.region id ops true).wp P Q a w :=
  wp_region_any hm (wpAny_of_HU _ _ _ _ (h hS))
end
end Go.Proofs.YtofjnbebipkgkaaDoor
