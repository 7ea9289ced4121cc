/-
  The greatest minors of all choices of a number of rows; no program in sight.
-/
import Derived.Test.YtllonfaogbdbnaaCrS4
namespace Go.Proofs.Ytllonfaogbdbnaa
open Go.ChangeShapes Go.WideShapes Go.RowKit
open Cr
def mx (b d : Int) : Int := if d > b then d else b
def rowG (f : Nat → Int) : Nat → Int → Int
  | 0, b => b
  | j + 1, b => mx (rowG f j b) (f j)
def allG (f : Nat → Nat → Int) (m : Nat) : Nat → Int → Int
  | 0, b => b
  | i + 1, b => rowG (f i) m (allG f m i b)
def zz (a : Int) : Int := if a < 0 then 0 else a
theorem mx_z {a d : Int} (h : 0 ≤ d) : mx (zz a) d = zz (mx a d) := by unfold mx zz; repeat' split <;> omega
theorem mx_ge (b d : Int) : b ≤ mx b d ∧ d ≤ mx b d := by unfold mx; split <;> omega
theorem rowG_z {f : Nat → Int} (h : ∀ j, 0 ≤ f j) (b : Int) : ∀ j, rowG f j (zz b) = zz (rowG f j b)
  | 0 => rfl
  | j + 1 => by rw [rowG, rowG, rowG_z h b j, mx_z (h j)]
theorem allG_z {f : Nat → Nat → Int} (h : ∀ i j, 0 ≤ f i j) (m : Nat) (b : Int) : ∀ i, allG f m i (zz b) = zz (allG f m i b)
  | 0 => rfl
  | i + 1 => by rw [allG, allG, allG_z h m b i, rowG_z (h i)]
theorem allG_nn {f : Nat → Nat → Int} (h : ∀ i j, 0 ≤ f i j) {m n : Nat} (hm : 0 < m) (hn : 0 < n) (b : Int) : 0 ≤ allG f m n b := by
  obtain ⟨m', rfl⟩ : ∃ m', m = m' + 1 := ⟨m - 1, by omega⟩
  obtain ⟨n', rfl⟩ : ∃ n', n = n' + 1 := ⟨n - 1, by omega⟩
  rw [allG, rowG]
  exact Int.le_trans (h n' m') (mx_ge _ _).2
theorem absI_nn (n : Int) : 0 ≤ absI n := by unfold absI; split <;> omega
/-- the absolute value of a minor, by the numbers of its sets -/
def fa (M : List (List Int)) (n m q : Nat) (i j : Nat) : Int := absI (detR M (rw_ (setsN n q) i) (rw_ (setsN m q) j))
theorem fa_nn (M : List (List Int)) (n m q i j : Nat) : 0 ≤ fa M n m q i j := absI_nn _
/-- the greatest of them, from a number on -/
def gv (M : List (List Int)) (n m q : Nat) (b : Int) : Int := allG (fa M n m q) (setsN m q).length (setsN n q).length b
theorem sets_len0 : ∀ n, n < 7 → ∀ q, q < 7 → q ≤ n → 0 < (setsN n q).length := by decide +kernel
theorem sets_max : ∀ n, n < 7 → ∀ q, q < 7 → (setsN n q).length ≤ 64 := by decide +kernel
theorem bits_set : ∀ n, n < 7 → ∀ k, k < 64 → setB (ints (bitsL n k)) n = true := by decide +kernel
theorem sets_mem {n q : Nat} (hn : n ≤ 6) {r : List Int} (h : r ∈ setsN n q) : r.length = q ∧ setB r n = true := by
  unfold setsN setsTo at h
  obtain ⟨k, hk, rfl⟩ := List.mem_map.1 h
  have h2 := List.mem_filter.1 hk
  have h3 := List.mem_range.1 h2.1
  have := pow_le6 n (by omega)
  exact ⟨by rw [len_ints]; simpa using h2.2, bits_set n (by omega) k (by omega)⟩
theorem rw_mem6 {L : List (List Int)} {i : Nat} (h : i < L.length) : rw_ L i ∈ L := by
  have e : rw_ L i = L[i] := by show L.getD i [] = _; simp [List.getD, h]
  rw [e]; exact List.getElem_mem h
theorem gv_0 {M : List (List Int)} {n m q : Nat} (hn : n ≤ 6) (hm : m ≤ 6) (qn : q ≤ n) (qm : q ≤ m) : gv M n m q 0 = gv M n m q (-1) ∧ 0 ≤ gv M n m q (-1) := by
  have h := allG_nn (fa_nn M n m q) (sets_len0 m (by omega) q (by omega) qm) (sets_len0 n (by omega) q (by omega) qn) (-1)
  have e : gv M n m q 0 = zz (gv M n m q (-1)) := by
    have e := allG_z (fa_nn M n m q) (setsN m q).length (-1) (setsN n q).length
    rw [show zz (-1) = 0 from rfl] at e
    exact e
  have h' : 0 ≤ gv M n m q (-1) := h
  refine ⟨?_, h'⟩
  rw [e]; unfold zz; rw [if_neg (by omega)]
/-- what was picked: nothing, or a choice with that minor -/
def PK (w : World) (M : List (List Int)) (L C : List (List Int)) (v : Int) (rv cv : Value) : Prop :=
  (v = -1 ∧ rv = .slice none 0 0 ∧ cv = .slice none 0 0) ∨ ∃ R cr E ce rows cols, rows ∈ L ∧ cols ∈ C ∧ rv = .slice R rows.length cr ∧ cv = .slice E cols.length ce ∧ rows.length ≤ cr ∧ cols.length ≤ ce ∧ IL w R rows ∧ IL w E cols ∧ v = absI (detR M rows cols)
theorem pk_0 (w : World) (M L C : List (List Int)) : PK w M L C (-1) (.slice none 0 0) (.slice none 0 0) := .inl ⟨rfl, rfl, rfl⟩
theorem pk_in {w w1 : World} {M L C : List (List Int)} {v : Int} {rv cv : Value} (h : PK w M L C v rv cv) (hb : Below w.heap.size w w1) : PK w1 M L C v rv cv := by
  rcases h with h | ⟨R, cr, E, ce, rows, cols, h1, h2, h3, h4, h5, h6, h7, h8, h9⟩
  · exact .inl h
  · exact .inr ⟨R, cr, E, ce, rows, cols, h1, h2, h3, h4, h5, h6, il_in h7 hb, il_in h8 hb, h9⟩
theorem pk_new {w : World} {M : List (List Int)} {n m q i j : Nat} {R E : Option Addr} {cr ce : Nat} (hi : i < (setsN n q).length) (hj : j < (setsN m q).length) (h1 : q ≤ cr) (h2 : q ≤ ce) (hn : n ≤ 6) (hm : m ≤ 6) (i1 : IL w R (rw_ (setsN n q) i)) (i2 : IL w E (rw_ (setsN m q) j)) :
    PK w M (setsN n q) (setsN m q) (fa M n m q i j) (.slice R q cr) (.slice E q ce) := by
  have l1 := (sets_mem hn (rw_mem6 hi)).1
  have l2 := (sets_mem hm (rw_mem6 hj)).1
  exact .inr ⟨R, cr, E, ce, _, _, rw_mem6 hi, rw_mem6 hj, by rw [l1], by rw [l2], by omega, by omega, i1, i2, rfl⟩
theorem mx_1 {b d : Int} (h : d > b) : mx b d = d := if_pos h
theorem mx_0 {b d : Int} (h : ¬ d > b) : mx b d = b := if_neg h

end Go.Proofs.Ytllonfaogbdbnaa
