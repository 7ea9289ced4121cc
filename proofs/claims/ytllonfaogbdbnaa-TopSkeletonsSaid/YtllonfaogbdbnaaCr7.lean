/-
  Cuts of lists and matrices; the contract of without (a matrix without a column).
-/
import Derived.Test.YtllonfaogbdbnaaCr6
import Derived.Deep.RegionLaw
import Derived.RegionTactic
import Derived.Laws.CopyOwn
import Derived.Deep.OwnRows
import Derived.StillTailTactics
namespace Go.Proofs.Ytllonfaogbdbnaa
open Go.ChangeShapes Go.WideShapes Go.RowKit
open Cr
/-- where the rest of a slice of one cell an element lies -/
def cutA (A : Option Addr) (lo c : Nat) : Option Addr := if c = lo then A else A.map (·.add lo)
theorem cutA_some {b o lo c : Nat} (h : c ≠ lo) : cutA (some ⟨b, o, none⟩) lo c = some ⟨b, o + lo, none⟩ := by
  unfold cutA
  rw [if_neg h]
  show some (Addr.add ⟨b, o, none⟩ lo) = _
  unfold Addr.add
  split
  · rename_i e; subst e; rfl
  · rfl
theorem at_drop (l : List Int) (lo k : Nat) : at_ (l.drop lo) k = at_ l (lo + k) := by unfold at_; simp [List.getD]
theorem at_take (l : List Int) {hi k : Nat} (h : k < hi) : at_ (l.take hi) k = at_ l k := by unfold at_; simp [List.getD, h]
theorem rw_drop (M : List (List Int)) (lo k : Nat) : rw_ (M.drop lo) k = rw_ M (lo + k) := by unfold rw_; simp [List.getD]
theorem il_drop {w : World} {A : Option Addr} {l : List Int} {c : Nat} (h : IL w A l) (hl : l.length ≤ c) (lo : Nat) : IL w (cutA A lo c) (l.drop lo) := fun k hk => by
  rw [List.length_drop] at hk
  obtain ⟨b, o, rfl, hb, hc⟩ := h (lo + k) (by omega)
  exact ⟨b, o + lo, cutA_some (by omega), hb, by rw [at_drop, Nat.add_assoc]; exact hc⟩
theorem il_take {w : World} {A : Option Addr} {l : List Int} (h : IL w A l) (hi : Nat) : IL w A (l.take hi) := fun k hk => by
  rw [List.length_take] at hk
  obtain ⟨b, o, rfl, hb, hc⟩ := h k (by omega)
  exact ⟨b, o, rfl, hb, by rw [at_take _ (by omega)]; exact hc⟩
theorem ml_drop {w : World} {A : Option Addr} {M : List (List Int)} {c : Nat} (h : ML w A M) (hl : M.length ≤ c) (lo : Nat) : ML w (cutA A lo c) (M.drop lo) := fun i hi => by
  rw [List.length_drop] at hi
  obtain ⟨b, o, A', c', rfl, hb, hc, hl', hr⟩ := h (lo + i) (by omega)
  exact ⟨b, o + lo, A', c', cutA_some (by omega), hb, by rw [rw_drop, Nat.add_assoc]; exact hc, by rw [rw_drop]; exact hl', by rw [rw_drop]; exact hr⟩
theorem size1 (w : World) : (sizeOf (Try.prog.elem 37)).run Try.prog w = .ok 1 w := by kernel_rfl
theorem size2 (w : World) : (sizeOf (Try.prog.elem 36)).run Try.prog w = .ok 1 w := by kernel_rfl
theorem und1 : Try.prog.underlying 37 = some (.slice (Try.prog.elem 37)) := by kernel_rfl
theorem und2 : Try.prog.underlying 36 = some (.slice (Try.prog.elem 36)) := by kernel_rfl
theorem cut_eq (A : Option Addr) (lo c s : Nat) (hs : s = 1) : (if c = lo then A else A.map (·.add (lo * s))) = cutA A lo c := by subst hs; unfold cutA; simp
theorem run_hi1 (A : Option Addr) (n c : Nat) (kh : IntKind) (h : Int) (w : World) (h0 : 0 ≤ h) (h2 : h ≤ c) :
    (Instr.slice 37 (.slice A n c) none (some (.int kh h)) none).run Try.prog w = .ok (.slice A h.toNat c) w := by
  rw [run_slice_h _ _ _ _ _ und1 kh h h0 h2, size1]
  simp only [Result.andThen, sliced, Nat.zero_mul, Nat.sub_zero]
  congr 2
  split
  · rfl
  · cases A with
    | none => rfl
    | some a => rfl
theorem run_lo1 (A : Option Addr) (n c : Nat) (kl : IntKind) (l : Int) (w : World) (h0 : 0 ≤ l) (h1 : l ≤ n) :
    (Instr.slice 37 (.slice A n c) (some (.int kl l)) none none).run Try.prog w = .ok (.slice (cutA A l.toNat c) (n - l.toNat) (c - l.toNat)) w := by
  rw [run_slice_l _ _ _ _ _ und1 kl l h0 h1, size1]
  simp only [Result.andThen, sliced, cut_eq _ _ _ 1 rfl]
theorem run_lo2 (A : Option Addr) (n c : Nat) (kl : IntKind) (l : Int) (w : World) (h0 : 0 ≤ l) (h1 : l ≤ n) :
    (Instr.slice 36 (.slice A n c) (some (.int kl l)) none none).run Try.prog w = .ok (.slice (cutA A l.toNat c) (n - l.toNat) (c - l.toNat)) w := by
  rw [run_slice_l _ _ _ _ _ und2 kl l h0 h1, size2]
  simp only [Result.andThen, sliced, cut_eq _ _ _ 1 rfl]
attribute [go_sem 1000000] run_hi1 run_lo1 run_lo2
theorem infoI : (Try.prog.info? 3).map (fun i => (i.zero, i.size, i.bytes)) = some (some (.int .i64 0), 1, 8) := by kernel_rfl
theorem infoL : (Try.prog.info? 37).map (fun i => (i.zero, i.size, i.bytes)) = some (some (.slice none 0 0), 1, 24) := by kernel_rfl
/-- the numbers as values -/
def vals (l : List Int) : List Value := l.map fun x => Value.int .i64 x
theorem len_vals (l : List Int) : (vals l).length = l.length := by unfold vals; simp
theorem vals_get (l : List Int) {k : Nat} (h : k < l.length) : (vals l)[k]? = some (.int .i64 (at_ l k)) := by
  unfold vals at_; simp [List.getD, h]
theorem vals_one {l : List Int} : ∀ v ∈ vals l, v.oneCell' = true := fun v hv => by
  unfold vals at hv
  obtain ⟨x, _, rfl⟩ := List.mem_map.1 hv
  rfl
/-- block g holds just the numbers -/
def Bl (w : World) (g : Nat) (l : List Int) : Prop := w.heap[g]? = some (.cells (vals l).toArray 3 (0, 0))
theorem bl_lt {w : World} {g : Nat} {l : List Int} (h : Bl w g l) : g < w.heap.size := by
  rcases Nat.lt_or_ge g w.heap.size with hlt | hge
  · exact hlt
  · unfold Bl at h; rw [Array.getElem?_eq_none hge] at h; cases h
theorem bl_il {w : World} {g : Nat} {l : List Int} (h : Bl w g l) : IL w (some ⟨g, 0, none⟩) l := fun k hk =>
  ⟨g, 0, rfl, bl_lt h, by
    rw [Nat.zero_add, cell_of_row w g k _ _ (0, 0) h]
    have := vals_get l hk
    simpa using this⟩
theorem bl_block {w w1 : World} {g : Nat} {l : List Int} (h : Bl w g l) (e : w1.heap[g]? = w.heap[g]?) : Bl w1 g l := e.trans h
theorem bl_alloc {w : World} {g : Nat} {l : List Int} (h : Bl w g l) (o : Obj) : Bl (w.alloc o) g l := bl_block h (Below.heap_alloc w o g (bl_lt h))
theorem bl_set {w : World} {g : Nat} {l : List Int} (h : Bl w g l) {a : Addr} (ha : g ≠ a.block) (v : Value) : Bl (w.setCell a v) g l := bl_block h (Below.heap_setCell w a v g ha)
theorem bl_drew {w : World} {g : Nat} {l : List Int} (h : Bl w g l) : Bl w.drew g l := h

end Go.Proofs.Ytllonfaogbdbnaa
