/-
  Lists and matrices of numbers in memory; the contracts of ranges, limits and sets, in the program and in the document's answer.
-/
import Derived.Test.YtllonfaogbdbnaaBase
import Derived.Test.YtllonfaogbdbnaaCr
import Derived.LoopTactic
import Derived.Deep.LoopGhost
import Derived.Deep.RegionHeld3
import Derived.Deep.Draws
import Derived.Laws.OwnMore
import Derived.Deep.AppendLies
namespace Go.Proofs.Ytllonfaogbdbnaa
open Go.ChangeShapes Go.WideShapes Go.RowKit
open Cr
/-- a row of a matrix -/
def rw_ (M : List (List Int)) (i : Nat) : List Int := M.getD i []
/-- a list of numbers in memory -/
def IL (w : World) (A : Option Addr) (l : List Int) : Prop :=
  ∀ k, k < l.length → ∃ b o, A = some ⟨b, o, none⟩ ∧ b < w.heap.size ∧ w.cell? ⟨b, o + k, none⟩ = some (.int .i64 (at_ l k))
/-- a matrix in memory -/
def ML (w : World) (A : Option Addr) (M : List (List Int)) : Prop :=
  ∀ i, i < M.length → ∃ b o A' c, A = some ⟨b, o, none⟩ ∧ b < w.heap.size ∧ w.cell? ⟨b, o + i, none⟩ = some (.slice A' (rw_ M i).length c) ∧ (rw_ M i).length ≤ c ∧ IL w A' (rw_ M i)
theorem il_in {w w1 : World} {A : Option Addr} {l : List Int} (h : IL w A l) (hb : Below w.heap.size w w1) : IL w1 A l := fun k hk => by
  obtain ⟨b, o, e, hlt, hc⟩ := h k hk
  exact ⟨b, o, e, Nat.lt_of_lt_of_le hlt hb.size, (hb.cell (p := ⟨b, o + k, none⟩) hlt).trans hc⟩
theorem ml_in {w w1 : World} {A : Option Addr} {M : List (List Int)} (h : ML w A M) (hb : Below w.heap.size w w1) : ML w1 A M := fun i hi => by
  obtain ⟨b, o, A', c, e, hlt, hc, hl, hr⟩ := h i hi
  exact ⟨b, o, A', c, e, Nat.lt_of_lt_of_le hlt hb.size, (hb.cell (p := ⟨b, o + i, none⟩) hlt).trans hc, hl, il_in hr hb⟩
theorem rw_len {n m : Nat} {M : List (List Int)} (h : Sq n m M) {i : Nat} (hi : i < n) : (rw_ M i).length = m := h.getD hi
theorem rw_mem {M : List (List Int)} {i : Nat} (hi : i < M.length) : rw_ M i ∈ M := by
  unfold rw_
  simp [List.getD, hi]
/-- is it in the range? -/
def inr (n lo hi : Int) : Bool := decide (lo ≤ n ∧ n ≤ hi)
theorem inr_iff {n lo hi : Int} : inr n lo hi = true ↔ lo ≤ n ∧ n ≤ hi := by unfold inr; simp
theorem inr_not {n lo hi : Int} : inr n lo hi = false ↔ ¬ (lo ≤ n ∧ n ≤ hi) := by unfold inr; simp
/-- are all numbers at most so large? -/
def allB (l : List Int) (L : Int) : Bool := (List.range l.length).all fun k => inr (at_ l k) (-L) L
theorem all_bad {f : Nat → Bool} {n k : Nat} (h : k < n) (b : f k = false) : (List.range n).all f = false := by
  rw [List.all_eq_false]
  exact ⟨k, List.mem_range.2 h, by simp [b]⟩
theorem all_good {f : Nat → Bool} {n : Nat} (h : ∀ k, k < n → f k = true) : (List.range n).all f = true := by
  rw [List.all_eq_true]
  exact fun k hk => h k (List.mem_range.1 hk)
theorem allB_bad {l : List Int} {L : Int} {k : Nat} (h : k < l.length) (b : inr (at_ l k) (-L) L = false) : allB l L = false := all_bad (f := fun k => inr (at_ l k) (-L) L) h b
theorem allB_good {l : List Int} {L : Int} (h : ∀ k, k < l.length → inr (at_ l k) (-L) L = true) : allB l L = true := all_good h
/-- is the element one of a set of numbers below n? -/
def setB1 (l : List Int) (n : Int) (k : Nat) : Bool := inr (at_ l k) 0 (n - 1) && !(decide (0 < k) && decide (at_ l k ≤ at_ l (k - 1)))
def setB (l : List Int) (n : Int) : Bool := (List.range l.length).all (setB1 l n)
theorem inrange_any (n lo hi : Int) (w : World) : Calls Try.prog 65 #[.int .i64 n, .int .i64 lo, .int .i64 hi] w fun e w' => e = .returned (.bool (inr n lo hi)) ∧ w = w' := by
  cases h : inr n lo hi
  · have h := inr_not.1 h
    by_cases h1 : lo ≤ n
    · have h2 : ¬ n ≤ hi := fun h2 => h ⟨h1, h2⟩
      clear h
      go_enter Try.func65, Try.ntmps65
      go_wp2
      go_ret
      exact ⟨rfl, rfl⟩
    · clear h
      go_enter Try.func65, Try.ntmps65
      go_wp2
      go_ret
      exact ⟨rfl, rfl⟩
  · obtain ⟨h1, h2⟩ := inr_iff.1 h
    clear h
    go_enter Try.func65, Try.ntmps65
    go_wp2
    go_ret
    exact ⟨rfl, rfl⟩
theorem within6_any (n lo hi : Int) (w : World) : Calls Try.prog 113 #[.int .i64 n, .int .i64 lo, .int .i64 hi] w fun e w' => e = .returned (.bool (inr n lo hi)) ∧ w = w' := by
  cases h : inr n lo hi
  · have h := inr_not.1 h
    by_cases h1 : lo ≤ n
    · have h2 : ¬ n ≤ hi := fun h2 => h ⟨h1, h2⟩
      clear h
      go_enter Try.func113, Try.ntmps113
      go_wp2
      go_ret
      exact ⟨rfl, rfl⟩
    · clear h
      go_enter Try.func113, Try.ntmps113
      go_wp2
      go_ret
      exact ⟨rfl, rfl⟩
  · obtain ⟨h1, h2⟩ := inr_iff.1 h
    clear h
    go_enter Try.func113, Try.ntmps113
    go_wp2
    go_ret
    exact ⟨rfl, rfl⟩
set_option maxHeartbeats 400000 in
theorem allw_any (A : Option Addr) (c : Nat) (l : List Int) (L : Int) (w : World) (h : IL w A l) (hn : l.length ≤ 1000) (hL : 0 ≤ L ∧ L ≤ 1000000) : Calls Try.prog 92 #[.slice A l.length c, .int .i64 L] w fun e w' => e = .returned (.bool (allB l L)) ∧ w = w' := by
  obtain ⟨res, hres⟩ : ∃ res, allB l L = res := ⟨_, rfl⟩
  have RES := Lib.hid hres
  have H := Lib.hid h
  have BAD := Lib.hid (fun k (hk : k < l.length) => allB_bad (L := L) hk)
  have GOOD := Lib.hid (allB_good (l := l) (L := L))
  rw [hres]
  clear hres h
  obtain ⟨n, hnn⟩ : ∃ n, l.length = n := ⟨_, rfl⟩
  rw [hnn] at BAD GOOD hn ⊢
  have NN := Lib.hid hnn
  clear hnn
  have hn' : (n : Int) ≤ 1000 := by omega
  obtain ⟨hL1, hL2⟩ := hL
  go_enter Try.func92, Try.ntmps92
  go_wp2
  go_loop [9] (fun kv => ∃ k : Nat, k ≤ n ∧ kv = .int .i64 k ∧ (∀ i, i < k → inr (at_ l i) (-L) L = true)) (fun kv => n - (intOf kv).toNat)
  case atStart => exact ⟨0, Nat.zero_le _, rfl, fun i hi => absurd hi (Nat.not_lt_zero i)⟩
  case round =>
    obtain ⟨k, hk, rfl, good⟩ := hrel
    have G := Lib.hid good
    clear good
    by_cases hlt : k < n
    · obtain ⟨b, o, rfl, hb, hc⟩ := H.out k (by rw [NN.out]; exact hlt)
      have hk1 : (k : Int) < (n : Int) := by omega
      have BAD := Lib.hid (BAD.out k hlt)
      have GS := Lib.hid (fun (z : inr (at_ l k) (-L) L = true) i (hi : i < k + 1) => if c : i < k then G.out i c else by rw [show i = k by omega]; exact z)
      generalize at_ l k = x at *
      cases hin : inr x (-L) L with
      | false =>
        have C := Lib.hid (fun W => (hin ▸ inrange_any x (-L) L W : Calls Try.prog 65 #[.int .i64 x, .int .i64 (-L), .int .i64 L] W fun e w' => e = .returned (.bool false) ∧ W = w'))
        have hf : res = false := by rw [← RES.out]; exact BAD.out hin
        subst hf
        clear hin
        go_wp2_with fail
        with_reducible refine (C.out _).mono ?_
        rintro e w' ⟨rfl, rfl⟩
        go_wp2
        go_ret
        exact ⟨rfl, rfl⟩
      | true =>
        have C := Lib.hid (fun W => (hin ▸ inrange_any x (-L) L W : Calls Try.prog 65 #[.int .i64 x, .int .i64 (-L), .int .i64 L] W fun e w' => e = .returned (.bool true) ∧ W = w'))
        have GS := Lib.hid (GS.out hin)
        clear hin
        go_wp2_with fail
        with_reducible refine (C.out _).mono ?_
        rintro e w' ⟨rfl, rfl⟩
        go_wp2
        go_round
        case rel => exact ⟨k + 1, by omega, by go_num, GS.out⟩
        case measure => simp [intOf]; omega
    · obtain rfl : k = n := by omega
      have hf : res = true := by rw [← RES.out]; exact GOOD.out G.out
      subst hf
      go_wp2
      go_ret
      exact ⟨rfl, rfl⟩

end Go.Proofs.Ytllonfaogbdbnaa
