/-
  Maps of the call's own with keys that are points or sides: made, asked, written; each read as a function of the key.
-/
import Derived.Test.YtllonfaogbdbnaaVec
import Derived.DeepKeys4
import Derived.WideKeyEntry
import Derived.Maps.OwnOps
import Derived.Maps.Views
namespace Go.Proofs.Ytllonfaogbdbnaa
open Go.ChangeShapes Go.WideShapes Go.RowKit Go.Maps Sh
open Go.ChangeMaps (setBlock heap_setBlock_same heap_setBlock_other)
open Go.WideElems (Fit entry_then_store)
open Go.WideMaps (KeyLaw)
/-- a side as a value -/
abbrev sdv (s : Int × Int) : Value := .agg #[.int .i64 s.1, .int .i64 s.2]
theorem laidOut : laidOutB Try.prog = true := by kernel_rfl
theorem cellsInt' : Try.prog.cellsOf 3 = 1 := by kernel_rfl
theorem cellsPt : Try.prog.cellsOf 27 = 3 := by kernel_rfl
theorem cellsSd : Try.prog.cellsOf 130 = 2 := by kernel_rfl
theorem keyInt (d : Nat) {n : Int} (h : (Lit.int .i64 n).wf = true) : Try.prog.keyLits (d + 1) 3 [.int .i64 n] = some [.int .i64 n] := by
  unfold Program.keyLits
  simp [Try.underlying3, h]
theorem keyPt {p : P3} (h1 : (Lit.int .i64 p.1).wf = true) (h2 : (Lit.int .i64 p.2.1).wf = true) (h3 : (Lit.int .i64 p.2.2).wf = true) : ∃ kl, keyOf Try.prog 27 (ptv p) = some kl := by
  have hk : Try.prog.keyType 27 = true := by kernel_rfl
  have hf : Value.formed Try.prog 27 (ptv p) = true := by simp [Value.formed, Try.underlying27, cellsPt]
  have hl (d : Nat) : ∃ ls, Try.prog.keyLits (d + 1 + 1) 27 (ptv p).cells.toList = some ls := by
    unfold Program.keyLits
    simp [Try.underlying27, cellsPt, cellsInt', Value.cells, keyInt d h1, keyInt d h2, keyInt d h3]
  obtain ⟨ls, hl⟩ := hl (Try.prog.types.size - 1)
  rw [show Try.prog.types.size - 1 + 1 + 1 = Try.prog.types.size + 1 by decide +kernel] at hl
  exact ⟨.string (keyBytes ls), by unfold keyOf; rw [Try.underlying27]; dsimp only; rw [hk, hf, hl]; rfl⟩
theorem keySd {s : Int × Int} (h1 : (Lit.int .i64 s.1).wf = true) (h2 : (Lit.int .i64 s.2).wf = true) : ∃ kl, keyOf Try.prog 130 (sdv s) = some kl := by
  have hk : Try.prog.keyType 130 = true := by kernel_rfl
  have hf : Value.formed Try.prog 130 (sdv s) = true := by simp [Value.formed, Try.underlying130, cellsSd]
  have hl (d : Nat) : ∃ ls, Try.prog.keyLits (d + 1 + 1) 130 (sdv s).cells.toList = some ls := by
    unfold Program.keyLits
    simp [Try.underlying130, cellsSd, cellsInt', Value.cells, List.range, List.range.loop, keyInt d h1, keyInt d h2]
  obtain ⟨ls, hl⟩ := hl (Try.prog.types.size - 1)
  rw [show Try.prog.types.size - 1 + 1 + 1 = Try.prog.types.size + 1 by decide +kernel] at hl
  exact ⟨.string (keyBytes ls), by unfold keyOf; rw [Try.underlying130]; dsimp only; rw [hk, hf, hl]; rfl⟩
theorem lawPt : WideMaps.KeyLaw Try.prog 27 := deep_law_laid laidOut (m := 2) (by omega) (of_decide_eq_true (by kernel_rfl)) (by kernel_rfl) (by rw [Try.underlying27])
theorem lawSd : WideMaps.KeyLaw Try.prog 130 := deep_law_laid laidOut (m := 2) (by omega) (of_decide_eq_true (by kernel_rfl)) (by kernel_rfl) (by rw [Try.underlying130])
theorem zeroB (w : World) : (zeroValue 4).run Try.prog w = .ok (.bool false) w := by kernel_rfl
theorem zeroI (w : World) : (zeroValue 3).run Try.prog w = .ok (.int .i64 0) w := by kernel_rfl
theorem ptv_inj {p q : P3} (h : ptv p = ptv q) : p = q := by
  obtain ⟨a, b, c⟩ := p
  obtain ⟨d, e, f⟩ := q
  simp only [ptv, Value.agg.injEq, Array.mk.injEq, List.cons.injEq, Value.int.injEq, true_and, and_true] at h
  rw [h.1, h.2.1, h.2.2]
theorem sdv_inj {p q : Int × Int} (h : sdv p = sdv q) : p = q := by
  obtain ⟨a, b⟩ := p
  obtain ⟨d, e⟩ := q
  simp only [sdv, Value.agg.injEq, Array.mk.injEq, List.cons.injEq, Value.int.injEq, true_and, and_true] at h
  rw [h.1, h.2]

/-- block b is a map of at most n entries that reads as g: the keys are mk a, the elements of the type E -/
def MapOf {α : Type} (K E : TypeId) (mk : α → Value) (z : Lit) (g : α → Lit) (w : World) (b n : Nat) : Prop :=
  ∃ D : DataW Unit, w.ownsMap Try.prog K (plainElem Try.prog E) b n D ∧ IsMap D ∧ ∀ a kl, keyOf Try.prog K (mk a) = some kl → D.atKey kl (.lit z) = .lit (g a)
theorem mapOf_made {α : Type} (K E : TypeId) (mk : α → Value) (z : Lit) (w : World) : MapOf K E mk z (fun _ => z) (w.alloc (.map #[] 0)) w.heap.size 0 :=
  ⟨.map [], World.ownsMap_made w _ _ _, isMap_empty, fun _ _ _ => rfl⟩
theorem mapOf_lt {α : Type} {K E : TypeId} {mk : α → Value} {z : Lit} {g : α → Lit} {w : World} {b n : Nat} (h : MapOf K E mk z g w b n) : b < w.heap.size := by
  obtain ⟨D, h, _⟩ := h; exact h.lt
theorem mapOf_below {α : Type} {K E : TypeId} {mk : α → Value} {z : Lit} {g : α → Lit} {w w1 : World} {b n : Nat} (h : MapOf K E mk z g w b n) (hb : Below w.heap.size w w1) : MapOf K E mk z g w1 b n := by
  have hlt := mapOf_lt h
  obtain ⟨D, ⟨es, clock, h1, h2, h3, h4⟩, r⟩ := h
  exact ⟨D, ⟨es, clock, (hb.block b hlt).trans h1, h2, h3, h4⟩, r⟩
theorem mapOf_alloc {α : Type} {K E : TypeId} {mk : α → Value} {z : Lit} {g : α → Lit} {w : World} {b n : Nat} (h : MapOf K E mk z g w b n) (o : Obj) : MapOf K E mk z g (w.alloc o) b n :=
  mapOf_below h ((Below.refl _ _).alloc (Nat.le_refl _) _)
theorem mapOf_mono {α : Type} {K E : TypeId} {mk : α → Value} {z : Lit} {g : α → Lit} {w : World} {b n m : Nat} (h : MapOf K E mk z g w b n) (k : n ≤ m) : MapOf K E mk z g w b m := by
  obtain ⟨D, h, r⟩ := h; exact ⟨D, h.mono k, r⟩
theorem mapOf_eq {α : Type} {K E : TypeId} {mk : α → Value} {z : Lit} {g g' : α → Lit} {w : World} {b n : Nat} (h : MapOf K E mk z g w b n) (e : ∀ a, g a = g' a) : MapOf K E mk z g' w b n := by
  obtain rfl : g = g' := funext e
  exact h
/-- what a store does to what is read -/
theorem put_reads {α : Type} {K : TypeId} (law : WideMaps.KeyLaw Try.prog K) {mk : α → Value} (inj : ∀ a c, mk a = mk c → a = c) {z d : Lit} {g : α → Lit} {D : DataW Unit} (hD : IsMap D) {a : α} {kl : Lit} (hkey : keyOf Try.prog K (mk a) = some kl)
    (r : ∀ a kl, keyOf Try.prog K (mk a) = some kl → D.atKey kl (.lit z) = .lit (g a)) [DecidableEq α] : ∀ c kl', keyOf Try.prog K (mk c) = some kl' → (D.put kl (.lit d)).atKey kl' (.lit z) = .lit (if c = a then d else g c) := by
  intro c kl' hc
  have L := Keyed.of_law law
  by_cases e : c = a
  · subst e
    obtain rfl : kl' = kl := by rw [hkey] at hc; exact (Option.some.inj hc).symm
    rw [if_pos rfl]
    exact atKey_put_same hD (L.key hkey) _ _
  · rw [if_neg e, atKey_put_other (fun e1 : kl' = kl => e (inj _ _ (L.inj hc (by rw [e1]; exact hkey)))) _ _]
    exact r c kl' hc
theorem setBlock_twice {w : World} {b : Nat} {o o' : Obj} : setBlock (setBlock w b o) b o' = setBlock w b o' := by
  simp [setBlock]
theorem bool_inv {v : Value} {x : Bool} {ps : List MemPlace} (h : plainElem (H := Unit) Try.prog 4 v = some (.lit (.bool x), ps)) : v = .bool x := by
  unfold plainElem at h
  simp only [Try.underlying4] at h
  cases v with
  | bool y =>
    simp only [Option.some.injEq, Prod.mk.injEq, DataW.lit.injEq, Lit.bool.injEq] at h
    rw [h.1]
  | _ => exact absurd h (by simp)
/-- a map of bools: the look-up -/
theorem look_bool {α : Type} {K T : TypeId} {mk : α → Value} {g : α → Bool} {w : World} {b n : Nat} (law : WideMaps.KeyLaw Try.prog K) (ht : Try.prog.underlying T = some (.map K 4)) (h : MapOf K 4 mk (.bool false) (fun a => .bool (g a)) w b n) {a : α} {kl : Lit} (hkey : keyOf Try.prog K (mk a) = some kl) :
    (Instr.lookup T (.map (some b)) (mk a) false).run Try.prog w = .ok (.bool (g a)) w := by
  obtain ⟨D, hD, _, r⟩ := h
  obtain ⟨v, ps, hrun, hv⟩ := hD.lookup (Keyed.of_law law) ht (zeroB w) (plainElem_bool Try.underlying4 false) hkey
  rw [r a kl hkey] at hv
  rw [hrun, bool_inv hv]
/-- a map of integers: the look-up -/
theorem look_int {α : Type} {K T : TypeId} {mk : α → Value} {g : α → Int} {w : World} {b n : Nat} (law : WideMaps.KeyLaw Try.prog K) (ht : Try.prog.underlying T = some (.map K 3)) (h : MapOf K 3 mk (.int .i64 0) (fun a => .int .i64 (g a)) w b n) {a : α} {kl : Lit} (hkey : keyOf Try.prog K (mk a) = some kl) :
    (Instr.lookup T (.map (some b)) (mk a) false).run Try.prog w = .ok (.int .i64 (g a)) w := by
  obtain ⟨D, hD, _, r⟩ := h
  obtain ⟨c, hrun, hat, _⟩ := hD.lookup_int (Keyed.of_law law) ht Try.underlying3 (zeroI w) hkey
  rw [r a kl hkey] at hat
  rw [hrun]
  simp only [DataW.lit.injEq, Lit.int.injEq, true_and] at hat
  rw [hat]
/-- a store -/
theorem store_of {α : Type} [DecidableEq α] {K T E : TypeId} {mk : α → Value} (inj : ∀ a c, mk a = mk c → a = c) {z d : Lit} {g : α → Lit} {w : World} {b n : Nat} (law : WideMaps.KeyLaw Try.prog K) (ht : Try.prog.underlying T = some (.map K E)) (h : MapOf K E mk z g w b n) (hn : n < maxLen) {a : α} {kl : Lit} (hkey : keyOf Try.prog K (mk a) = some kl)
    {val : Value} {ps : List MemPlace} (hv : plainElem (H := Unit) Try.prog E val = some (.lit d, ps)) :
    ∃ w', (Instr.mapUpdate T (.map (some b)) (mk a) val).run Try.prog w = .ok () w' ∧ MapOf K E mk z (fun c => if c = a then d else g c) w' b (n + 1) ∧ w.grownBy w' (some b) := by
  obtain ⟨D, hD, hm, r⟩ := h
  obtain ⟨w', h1, h2, h3⟩ := hD.update (Keyed.of_law law) ht hn hkey hv
  exact ⟨w', h1, ⟨_, h2, hm.put _ _, put_reads law inj hm hkey r⟩, h3⟩
/-- an entry, and what is stored there -/
theorem entry_of {α : Type} [DecidableEq α] {K T E : TypeId} {mk : α → Value} (inj : ∀ a c, mk a = mk c → a = c) {z : Lit} {g : α → Lit} {w : World} {b n : Nat} (law : WideMaps.KeyLaw Try.prog K) (ht : Try.prog.underlying T = some (.map K E)) {zv : Value} (hz : ∀ u : World, (zeroValue E).run Try.prog u = .ok zv u) (h : MapOf K E mk z g w b n) (hn : n < maxLen) {a : α} {kl : Lit} (hkey : keyOf Try.prog K (mk a) = some kl) :
    ∃ (v0 : Value) (st : Nat) (w1 : World), (Instr.mapEntry T (.map (some b)) (mk a)).run Try.prog w = .ok (.tuple #[v0, .int .i64 (st : Int)]) w1 ∧ w.grownBy w1 (some b) ∧
      ∀ (val : Value) (d : Lit) (ps : List MemPlace), plainElem (H := Unit) Try.prog E val = some (.lit d, ps) → ∃ w2, (Instr.entryStore T (.map (some b)) (.int .i64 (st : Int)) val).run Try.prog w1 = .ok () w2 ∧ MapOf K E mk z (fun c => if c = a then d else g c) w2 b (n + 1) ∧ w.grownBy w2 (some b) := by
  have h0 := h
  obtain ⟨D, ⟨es, clock, hb, F, hs, hD⟩, _, _⟩ := h
  obtain ⟨v0, st, es1, clock1, h1, _, h3⟩ := entry_then_store law ht hz hb F hkey
  refine ⟨v0, st, setBlock w b (.map es1 clock1), h1, ⟨rfl, rfl, rfl, by simp [setBlock], fun i _ hi => heap_setBlock_other hb _ (fun e => hi (by rw [e]))⟩, fun val d ps hv => ?_⟩
  obtain ⟨es', clock', h4, h5⟩ := h3 (setBlock w b (.map es1 clock1)) val (heap_setBlock_same hb _)
  obtain ⟨w', h6, h7, h8⟩ := store_of inj law ht h0 hn hkey hv
  rw [h5] at h6
  simp only [Result.ok.injEq, true_and] at h6
  rw [setBlock_twice, h6] at h4
  exact ⟨w', h4, h7, h8⟩
/-- the look-up behind the entry -/
theorem entry_look {α : Type} {K T : TypeId} {mk : α → Value} {g : α → Int} {w : World} {b n : Nat} (law : WideMaps.KeyLaw Try.prog K) (ht : Try.prog.underlying T = some (.map K 3)) (h : MapOf K 3 mk (.int .i64 0) (fun a => .int .i64 (g a)) w b n) {a : α} {kl : Lit} (hkey : keyOf Try.prog K (mk a) = some kl)
    {u : Value} {w1 : World} (e : (Instr.mapEntry T (.map (some b)) (mk a)).run Try.prog w = .ok u w1) : (Instr.lookup T (.map (some b)) (mk a) false).run Try.prog w1 = .ok (.int .i64 (g a)) w1 := by
  have L0 := look_int law ht h hkey
  obtain ⟨D, ⟨es, clock, hb, F, hs, hD⟩, hm, r⟩ := h
  rcases law.find w hkey es.toList F.keys with ⟨h1, h2⟩ | ⟨j, e0, h1, h2, h3⟩
  · simp [Instr.mapEntry, run_underlying ht, MapKept.run_getObj_map hb, law.check w false hkey, h1, MapKept.run_setObj_map _ hb, Result.andThen] at e
    simp [Instr.lookup, run_underlying ht, MapKept.run_getObj_map hb, law.check w es.isEmpty hkey, h1, Result.andThen] at L0
    have hw : w1 = setBlock w b (.map (es.push ⟨mk a, .int .i64 0, clock⟩) (clock + 1)) := e.2.symm
    rw [← L0]
    have hb1 : w1.heap[b]? = some (.map (es.push ⟨mk a, .int .i64 0, clock⟩) (clock + 1)) := by rw [hw]; exact heap_setBlock_same hb _
    clear hw e
    have ks : ∀ x ∈ (es.push ⟨mk a, .int .i64 0, clock⟩).toList, ∃ l, keyOf Try.prog K x.key = some l := by
      intro x hx
      rw [Array.toList_push, List.mem_append] at hx
      rcases hx with hx | hx
      · exact F.keys x hx
      · rw [List.mem_singleton] at hx; subst hx; exact ⟨kl, hkey⟩
    rcases law.find w1 hkey _ ks with ⟨q1, q2⟩ | ⟨i, e1, q1, q2, q3⟩
    · exact absurd rfl (q2 ⟨mk a, .int .i64 0, clock⟩ (by rw [Array.toList_push]; exact List.mem_append_right _ (List.mem_singleton.2 rfl)))
    · have hv : e1.val = .int .i64 0 := by
        have hm : e1 ∈ (es.push ⟨mk a, .int .i64 0, clock⟩).toList := List.mem_of_getElem? q2
        rw [Array.toList_push, List.mem_append] at hm
        rcases hm with hm | hm
        · exact absurd q3 (h2 e1 hm)
        · rw [List.mem_singleton] at hm; rw [hm]
      rw [hv] at q1
      generalize es.push ⟨mk a, .int .i64 0, clock⟩ = es1 at *
      simp [Instr.lookup, run_underlying ht, MapKept.run_getObj_map hb1, law.check w1 es1.isEmpty hkey, q1, Result.andThen]
  · have hj : es[j]? = some e0 := by simpa using h2
    simp [Instr.mapEntry, run_underlying ht, MapKept.run_getObj_map hb, law.check w false hkey, h1, hj, h3, law.stays w hkey, MapKept.run_setObj_map _ hb, Result.andThen] at e
    have hsame : (es.modify j fun e => { key := mk a, val := e.val, born := e.born }) = es := by
      apply Array.ext_getElem?
      intro i
      rw [Array.getElem?_modify]
      split
      · rename_i c
        subst c
        rw [hj, ← h3]; rfl
      · rfl
    rw [hsame] at e
    have hb1 : w1.heap[b]? = some (.map es clock) := by rw [← e.2]; exact heap_setBlock_same hb _
    exact look_int law ht ⟨D, ⟨es, clock, hb1, F, hs, hD⟩, hm, r⟩ hkey

end Go.Proofs.Ytllonfaogbdbnaa
