/-
  Lists of pulses of a call's own; the contract of slices.Clone at pulses, and of SamePulses.
  The contracts of Delay, in the program and in the document's answer.
  The contracts of Delay whole, and the law SoundDelays: its walk.
-/
import Derived.Test.YtemchbdlckcmkaaSoMa
import Derived.Test.YtemchbdlckcmkaaSoMb
import Derived.Laws.OwnMore
namespace Go.Proofs.Ytemchbdlckcmkaa
open Go.ChangeShapes Go.WideShapes Go.RowKit
open Sh
/-- the cells of a pulse, and of the first n pulses -/
def pucl (p : Pu) : List Value := [.int .i64 p.1.1.1, .int .i64 p.1.1.2.1, .int .i64 p.1.1.2.2, .int .i64 p.1.2.1.1, .int .i64 p.1.2.1.2.1, .int .i64 p.1.2.1.2.2, .int .i64 p.1.2.2.1, .int .i64 p.1.2.2.2.1, .int .i64 p.1.2.2.2.2, .int .i64 p.2.1, .int .i64 p.2.2]
def pucs (f : Nat → Pu) : Nat → List Value
  | 0 => []
  | n + 1 => pucs f n ++ pucl (f n)
theorem pucl_len (p : Pu) : (pucl p).length = 11 := rfl
theorem pucs_len (f : Nat → Pu) : ∀ n, (pucs f n).length = n * 11
  | 0 => rfl
  | n + 1 => by show (pucs f n ++ pucl (f n)).length = _; rw [List.length_append, pucs_len f n, pucl_len]; omega
theorem pucs_at (f : Nat → Pu) : ∀ {n k j : Nat}, k < n → j < 11 → (pucs f n)[k * 11 + j]? = (pucl (f k))[j]?
  | 0, k, j, h, _ => absurd h (Nat.not_lt_zero k)
  | n + 1, k, j, h, hj => by
    show (pucs f n ++ pucl (f n))[k * 11 + j]? = _
    by_cases e : k = n
    · subst e
      rw [List.getElem?_append_right (by rw [pucs_len]; omega), pucs_len, show k * 11 + j - k * 11 = j by omega]
    · rw [List.getElem?_append_left (by rw [pucs_len]; omega)]
      exact pucs_at f (by omega) hj
theorem pucl_one (p : Pu) : ∀ u ∈ pucl p, u.oneCell' = true := by
  intro u hu
  simp [pucl] at hu
  rcases hu with rfl | rfl | rfl | rfl | rfl | rfl | rfl | rfl | rfl | rfl | rfl <;> rfl
theorem pucs_one (f : Nat → Pu) : ∀ n, ∀ u ∈ pucs f n, u.oneCell' = true
  | 0, u, hu => by cases hu
  | n + 1, u, hu => by
    rcases List.mem_append.1 (show u ∈ pucs f n ++ pucl (f n) from hu) with h | h
    · exact pucs_one f n u h
    · exact pucl_one _ u h
theorem pucs_eq {f g : Nat → Pu} : ∀ {n : Nat}, (∀ k, k < n → f k = g k) → pucs f n = pucs g n
  | 0, _ => rfl
  | n + 1, h => by
    show pucs f n ++ pucl (f n) = pucs g n ++ pucl (g n)
    rw [pucs_eq fun k hk => h k (by omega), h n (by omega)]
theorem rowU_cell {w : World} {b off n : Nat} {f : Nat → Pu} (r : RowU w b off n f) {k : Nat} (hk : k < n) : ∀ j, j < 11 → w.cell? ⟨b, off + k * 11 + j, none⟩ = (pucl (f k))[j]? := by
  obtain ⟨h0, h1, h2, h3, h4, h5, h6, h7, h8, h9, h10⟩ := r.2 k hk
  intro j hj
  have : j = 0 ∨ j = 1 ∨ j = 2 ∨ j = 3 ∨ j = 4 ∨ j = 5 ∨ j = 6 ∨ j = 7 ∨ j = 8 ∨ j = 9 ∨ j = 10 := by omega
  rcases this with rfl | rfl | rfl | rfl | rfl | rfl | rfl | rfl | rfl | rfl | rfl
  · exact h0
  · exact h1
  · exact h2
  · exact h3
  · exact h4
  · exact h5
  · exact h6
  · exact h7
  · exact h8
  · exact h9
  · exact h10
theorem rowU_mem {w : World} {b off n : Nat} {f : Nat → Pu} (r : RowU w b off n f) : ∀ j u, (pucs f n)[j]? = some u → w.cell? ((⟨b, off, none⟩ : Addr).add j) = some u := by
  intro j u hu
  have hl : j < n * 11 := by
    have := (List.getElem?_eq_some_iff.1 hu).1
    rwa [pucs_len] at this
  have hk : j / 11 < n := by omega
  have z := pucs_at f (n := n) (k := j / 11) (j := j % 11) hk (by omega)
  have c := rowU_cell r hk (j % 11) (by omega)
  rw [show j / 11 * 11 + j % 11 = j by omega] at z
  have ea : (⟨b, off, none⟩ : Addr).add j = ⟨b, off + j, none⟩ := by
    unfold Addr.add
    split
    · rename_i e; subst e; rfl
    · rfl
  rw [ea, show off + j = off + j / 11 * 11 + j % 11 by omega, c, ← z]
  exact hu
/-- what a row of the call's own is, as pulses in memory -/
theorem rowU_of {w : World} {base n cap g : Nat} {f : Nat → Pu} (h : w.ownsRow base 27 11 (.slice (some ⟨g, 0, none⟩) n cap) n (pucs f n)) : RowU w g 0 n f := by
  refine ⟨(h.lt g rfl).2, fun k hk => ?_⟩
  have cc : ∀ j, j < 11 → w.cell? ⟨g, 0 + k * 11 + j, none⟩ = (pucl (f k))[j]? := fun j hj => by
    rw [Nat.zero_add, h.cellAt (k * 11 + j) (by omega), pucs_at f hk hj]
  exact ⟨cc 0 (by decide), cc 1 (by decide), cc 2 (by decide), cc 3 (by decide), cc 4 (by decide), cc 5 (by decide), cc 6 (by decide), cc 7 (by decide), cc 8 (by decide), cc 9 (by decide), cc 10 (by decide)⟩
theorem infoPu8 : (Try.prog.info? 27).map (fun i => (i.zero, i.size, i.bytes)) = some (some (.agg #[.int .i64 0, .int .i64 0, .int .i64 0, .int .i64 0, .int .i64 0, .int .i64 0, .int .i64 0, .int .i64 0, .int .i64 0, .int .i64 0, .int .i64 0]), 11, 88) := by kernel_rfl
theorem row_allocU {w : World} {b off n : Nat} {f : Nat → Pu} (r : RowU w b off n f) (o : Obj) : RowU (w.alloc o) b off n f := rowU_below r ((Below.refl _ _).alloc (Nat.le_refl _) _)
/-- a result: a list of pulses of the call's own, or none -/
def PuOut (w : World) (base : Nat) (v : Value) (n : Nat) (f : Nat → Pu) : Prop := w.ownsRow base 27 11 v n (pucs f n)
set_option maxRecDepth 100000 in
set_option maxHeartbeats 2000000 in
theorem clone8_mem (ad : Addr) (n cap : Nat) (f : Nat → Pu) (w : World) (r : ∀ j u, (pucs f n)[j]? = some u → (w.alloc (.cells #[] 27)).cell? (ad.add j) = some u) (hn : n ≤ 1000) :
    Calls Try.prog 29 #[.slice (some ad) n cap] w fun e w' => ∃ v, e = .returned v ∧ w'.ownsRow w.heap.size 27 11 v n (pucs f n) ∧ Below w.heap.size w w' := by
  obtain ⟨i0, hi, hz0, hz1, hz2⟩ := info_parts infoPu8
  have HI := Lib.hid hi
  have HZ0 := Lib.hid hz0
  have HZ1 := Lib.hid hz1
  have HZ2 := Lib.hid hz2
  have RM := Lib.hid r
  have OE := Lib.hid (World.ownsRow_lit (base := w.heap.size) (e := 27) (size := 11) w #[] 0 (Nat.le_refl _) (by unfold maxLen; omega) rfl)
  have EN : ∀ (w : World) (a : Option Addr) (n c n' c' : Nat), (binOp .eql 37 (.slice a n c) (.slice none n' c')).run Try.prog w = .ok (.bool a.isNone) w := fun w a n c n' c' => Lib.run_eql_slice_nil w _ _ a n c n' c' Try.underlying37
  clear hi hz0 hz1 hz2 r
  go_enter Try.func29, Try.ntmps29
  go_wp2_with (at_builtin; go_loud (refine wpList_append_own _ rfl _ _ 37 rfl w.heap.size 27 i0 (.agg #[.int .i64 0, .int .i64 0, .int .i64 0, .int .i64 0, .int .i64 0, .int .i64 0, .int .i64 0, .int .i64 0, .int .i64 0, .int .i64 0, .int .i64 0]) 11 88 Try.underlying37 HI.out HZ0.out HZ1.out HZ2.out rfl (by decide) _ 0 [] rfl OE.out ad n cap (pucs f n) rfl (pucs_len f n) RM.out (pucs_one f n) (by unfold maxLen; omega) (by omega) (by simp) ?_); intro v' w1 hown' hgrow _; have OW := Lib.hid hown'; have GR := Lib.hid hgrow; clear hown' hgrow)
  go_ret
  refine ⟨_, rfl, ?_, ?_⟩
  · have z := OW.out
    rw [Nat.zero_add, List.nil_append] at z
    exact z
  · exact ((Below.refl _ w).alloc (Nat.le_refl _) _).grown GR.out (by simp) (fun gg hg => (OE.out.lt gg hg).1)
set_option maxRecDepth 100000 in
theorem clone8_nil (w : World) : Calls Try.prog 29 #[.slice none 0 0] w fun e w' => ∃ v, e = .returned v ∧ w'.ownsRow w.heap.size 27 11 v 0 [] ∧ Below w.heap.size w w' := by
  have EN : ∀ (w : World) (a : Option Addr) (n c n' c' : Nat), (binOp .eql 37 (.slice a n c) (.slice none n' c')).run Try.prog w = .ok (.bool a.isNone) w := fun w a n c n' c' => Lib.run_eql_slice_nil w _ _ a n c n' c' Try.underlying37
  go_enter Try.func29, Try.ntmps29
  go_wp2
  go_ret
  exact ⟨_, rfl, World.ownsRow_nil _ _ _ _, Below.refl _ _⟩
theorem clone8_row (b off n cap : Nat) (f : Nat → Pu) (w : World) (r : RowU w b off n f) (hn : n ≤ 1000) :
    Calls Try.prog 29 #[.slice (some ⟨b, off, none⟩) n cap] w fun e w' => ∃ v, e = .returned v ∧ w'.ownsRow w.heap.size 27 11 v n (pucs f n) ∧ Below w.heap.size w w' :=
  clone8_mem _ n cap f w (rowU_mem (row_allocU r (.cells #[] 27))) hn
theorem clone8_zero (a : Option Addr) (cap : Nat) (w : World) (h : a = none → cap = 0) :
    Calls Try.prog 29 #[.slice a 0 cap] w fun e w' => ∃ v, e = .returned v ∧ w'.ownsRow w.heap.size 27 11 v 0 [] ∧ Below w.heap.size w w' := by
  cases a with
  | none => rw [h rfl]; exact clone8_nil w
  | some ad => exact clone8_mem ad 0 cap (fun _ => (((0, 0, 0), (0, 0, 0), (0, 0, 0)), 0, 0)) w (fun j u hu => by cases hu) (by decide)
end Go.Proofs.Ytemchbdlckcmkaa
namespace Go.Proofs.Ytemchbdlckcmkaa
open Go.ChangeShapes Go.WideShapes Go.RowKit
open Sh
/-- a pulse that is sent out later, and the first k of a list -/
def shf (f : Nat → Pu) (y : Int) (i : Nat) : Pu := ((f i).1, (f i).2.1 + y, (f i).2.2)
def dly (f : Nat → Pu) (y : Int) (k i : Nat) : Pu := if i < k then shf f y i else f i
/-- is one of the first k too late? -/
def dle (f : Nat → Pu) (y : Int) : Nat → Int
  | 0 => 0
  | k + 1 => if dle f y k = 0 then (if 1000 < (f k).2.1 + y then 4 else 0) else 4
theorem dle_hit {f : Nat → Pu} {y : Int} {k : Nat} (h : 1000 < (f k).2.1 + y) : ∀ {n : Nat}, k < n → dle f y n = 4
  | 0, hk => absurd hk (Nat.not_lt_zero k)
  | n + 1, hk => by
    show (if dle f y n = 0 then _ else _) = _
    by_cases e : k = n
    · subst e
      rw [if_pos h]
      split <;> rfl
    · rw [dle_hit h (n := n) (by omega), if_neg (by decide)]
theorem dle_next {f : Nat → Pu} {y : Int} {k : Nat} (e : dle f y k = 0) (h : ¬ 1000 < (f k).2.1 + y) : dle f y (k + 1) = 0 := by
  show (if dle f y k = 0 then _ else _) = _
  rw [if_pos e, if_neg h]
def dcode (n : Nat) (Q : Nat → Pu) (y : Int) : Int := if vpcode n Q = 0 then (if rngB y 0 1000 then dle Q y n else 1) else vpcode n Q
theorem pucs_set (f : Nat → Pu) (y : Int) {n k : Nat} (hk : k < n) : (pucs (dly f y k) n).set (k * 11 + 9) (.int .i64 ((f k).2.1 + y)) = pucs (dly f y (k + 1)) n := by
  apply List.ext_getElem?
  intro m
  rw [List.getElem?_set]
  by_cases hm : m < n * 11
  · have a := pucs_at (dly f y k) (n := n) (k := m / 11) (j := m % 11) (by omega) (by omega)
    have b := pucs_at (dly f y (k + 1)) (n := n) (k := m / 11) (j := m % 11) (by omega) (by omega)
    rw [show m / 11 * 11 + m % 11 = m by omega] at a b
    rw [a, b]
    by_cases q : m / 11 = k
    · have d1 : dly f y k (m / 11) = f k := by unfold dly; rw [if_neg (by omega), q]
      have d2 : dly f y (k + 1) (m / 11) = shf f y k := by unfold dly; rw [if_pos (by omega), q]
      rw [d1, d2]
      have hj : m % 11 < 11 := Nat.mod_lt _ (by decide)
      have : m % 11 = 0 ∨ m % 11 = 1 ∨ m % 11 = 2 ∨ m % 11 = 3 ∨ m % 11 = 4 ∨ m % 11 = 5 ∨ m % 11 = 6 ∨ m % 11 = 7 ∨ m % 11 = 8 ∨ m % 11 = 9 ∨ m % 11 = 10 := by omega
      rcases this with e | e | e | e | e | e | e | e | e | e | e
      all_goals
        rw [e]
        first
          | (rw [if_neg (by omega)]; rfl)
          | (rw [if_pos (by omega), if_pos (by rw [pucs_len]; omega)]; rfl)
    · rw [if_neg (by omega)]
      have d : dly f y k (m / 11) = dly f y (k + 1) (m / 11) := by
        unfold dly
        by_cases c : m / 11 < k
        · rw [if_pos c, if_pos (by omega)]
        · rw [if_neg c, if_neg (by omega)]
      rw [d]
  · rw [if_neg (by omega), List.getElem?_eq_none (by rw [pucs_len]; omega), List.getElem?_eq_none (by rw [pucs_len]; omega)]
theorem dly_zero (f : Nat → Pu) (y : Int) (n : Nat) : pucs (dly f y 0) n = pucs f n := pucs_eq fun k _ => by unfold dly; rw [if_neg (Nat.not_lt_zero k)]
theorem dly_all (f : Nat → Pu) (y : Int) (n : Nat) : pucs (dly f y n) n = pucs (shf f y) n := pucs_eq fun k hk => by unfold dly; rw [if_pos hk]
theorem del_v (a : Option Addr) (n c : Nat) (y : Int) (vc : Int) (w : World) (V : Hid (∀ W, Below w.heap.size w W → Calls Try.prog 27 #[.slice a n c] W fun e w' => e = .returned (.int .i64 vc) ∧ Below W.heap.size W w')) (z : (vc != 0) = true) : Calls Try.prog 11 #[.slice a n c, .int .i64 y] w fun e w' => e = .returned (.tuple #[.slice none 0 0, .int .i64 vc]) ∧ Below w.heap.size w w' := by
  go_enter Try.func11, Try.ntmps11
  go_wp2_with fail
  refine (V.out _ (Below.refl _ w)).mono ?_
  rintro e w1 ⟨rfl, hb1⟩
  go_wp2
  go_ret2
  exact ⟨rfl, by (repeat' (first | exact Below.refl _ _ | refine bstep ?_ hb1 | refine Below.setCell ?_ (by simp <;> omega) _ | refine balloc ?_ _ | refine Below.drew ?_ | refine bdrewN ?_ _))⟩
theorem del_i (a : Option Addr) (n c : Nat) (y : Int) (w : World) (V : Hid (∀ W, Below w.heap.size w W → Calls Try.prog 27 #[.slice a n c] W fun e w' => e = .returned (.int .i64 0) ∧ Below W.heap.size W w')) (I : Hid (∀ W, Calls Try.prog 28 #[.int .i64 y, .int .i64 0, .int .i64 1000] W fun e w' => e = .returned (.bool false) ∧ W = w')) : Calls Try.prog 11 #[.slice a n c, .int .i64 y] w fun e w' => e = .returned (.tuple #[.slice none 0 0, .int .i64 1]) ∧ Below w.heap.size w w' := by
  go_enter Try.func11, Try.ntmps11
  go_wp2_with fail
  refine (V.out _ (Below.refl _ w)).mono ?_
  rintro e w1 ⟨rfl, hb1⟩
  go_wp2_with fail
  refine (I.out _).mono ?_
  rintro e w2 ⟨rfl, rfl⟩
  go_wp2
  go_ret2
  exact ⟨rfl, by (repeat' (first | exact Below.refl _ _ | refine bstep ?_ hb1 | refine Below.setCell ?_ (by simp <;> omega) _ | refine balloc ?_ _ | refine Below.drew ?_ | refine bdrewN ?_ _))⟩
set_option maxRecDepth 100000 in
set_option maxHeartbeats 2000000 in
theorem del_z (a : Option Addr) (c : Nat) (y : Int) (w : World) (V : Hid (∀ W, Below w.heap.size w W → Calls Try.prog 27 #[.slice a 0 c] W fun e w' => e = .returned (.int .i64 0) ∧ Below W.heap.size W w')) (I : Hid (∀ W, Calls Try.prog 28 #[.int .i64 y, .int .i64 0, .int .i64 1000] W fun e w' => e = .returned (.bool true) ∧ W = w')) (C : Hid (∀ W : World, Below w.heap.size w W → Calls Try.prog 29 #[.slice a 0 c] W fun e w' => ∃ v, e = .returned v ∧ w'.ownsRow W.heap.size 27 11 v 0 [] ∧ Below W.heap.size W w')) : Calls Try.prog 11 #[.slice a 0 c, .int .i64 y] w fun e w' => ∃ v, e = .returned (.tuple #[v, .int .i64 0]) ∧ w'.ownsRow w.heap.size 27 11 v 0 [] ∧ Below w.heap.size w w' := by
  go_enter Try.func11, Try.ntmps11
  go_wp2_with fail
  refine (V.out _ (Below.refl _ w)).mono ?_
  rintro e w1 ⟨rfl, hb1⟩
  go_wp2_with fail
  refine (I.out _).mono ?_
  rintro e w2 ⟨rfl, rfl⟩
  go_wp2_with fail
  refine (C.out _ hb1).mono ?_
  rintro e w3 ⟨v, rfl, ho, hb3⟩
  have hv : ∃ A cc, v = .slice A 0 cc := by
    rcases ho.2 with ⟨e, _⟩ | ⟨g, cap, cur, e, _⟩
    · exact ⟨_, _, e⟩
    · exact ⟨_, _, e⟩
  obtain ⟨A, cc, rfl⟩ := hv
  have OW := Lib.hid (own_base9 ho (show w.heap.size ≤ w1.heap.size from hb1.size))
  clear ho
  go_wp2
  refine wp_loop_rounds 1 ?_
  rw [rounds_succ]
  go_wp2
  go_ret2
  exact ⟨_, rfl, OW.out, by (repeat' (first | exact Below.refl _ _ | refine bstep ?_ hb3 | refine bstep ?_ hb1 | refine Below.setCell ?_ (by simp <;> omega) _ | refine balloc ?_ _ | refine Below.drew ?_ | refine bdrewN ?_ _))⟩
set_option maxRecDepth 100000 in
set_option maxHeartbeats 2000000 in
theorem del_r (b off n c : Nat) (y : Int) (Q : Nat → Pu) (w : World) (V : Hid (∀ W, Below w.heap.size w W → Calls Try.prog 27 #[.slice (some ⟨b, off, none⟩) n c] W fun e w' => e = .returned (.int .i64 0) ∧ Below W.heap.size W w')) (I : Hid (∀ W, Calls Try.prog 28 #[.int .i64 y, .int .i64 0, .int .i64 1000] W fun e w' => e = .returned (.bool true) ∧ W = w')) (C : Hid (∀ W : World, Below w.heap.size w W → Calls Try.prog 29 #[.slice (some ⟨b, off, none⟩) n c] W fun e w' => ∃ v, e = .returned v ∧ w'.ownsRow W.heap.size 27 11 v n (pucs Q n) ∧ Below W.heap.size W w')) (h0 : 0 < n) (hn : n ≤ 16) (hq : ∀ k, k < n → 0 ≤ (Q k).2.1 ∧ (Q k).2.1 ≤ 1000) (y1 : 0 ≤ y) (y2 : y ≤ 1000) : Calls Try.prog 11 #[.slice (some ⟨b, off, none⟩) n c, .int .i64 y] w fun e w' => ∃ v, e = .returned (.tuple #[v, .int .i64 (dle Q y n)]) ∧ (if dle Q y n = 0 then w'.ownsRow w.heap.size 27 11 v n (pucs (shf Q y) n) else v = .slice none 0 0) ∧ Below w.heap.size w w' := by
  have HQ := Lib.hid hq
  have hn' : (n : Int) ≤ 16 := by omega
  obtain ⟨res, hres⟩ : ∃ res, dle Q y n = res := ⟨_, rfl⟩
  have RES := Lib.hid hres
  rw [hres]
  clear hq hres
  go_enter Try.func11, Try.ntmps11
  go_wp2_with fail
  refine (V.out _ (Below.refl _ w)).mono ?_
  rintro e w1 ⟨rfl, hb1⟩
  go_wp2_with fail
  refine (I.out _).mono ?_
  rintro e w2 ⟨rfl, rfl⟩
  go_wp2_with fail
  refine (C.out _ hb1).mono ?_
  rintro e w3 ⟨v, rfl, ho, hb3⟩
  obtain ⟨g, cap, rfl⟩ := own_slice8 ho h0
  have OW := Lib.hid (show w3.ownsRow w.heap.size 27 11 (.slice (some ⟨g, 0, none⟩) n cap) n (pucs (dly Q y 0) n) by rw [dly_zero]; exact own_base9 ho hb1.size)
  have BB := Lib.hid (show Below w.heap.size w w3 by (repeat' (first | exact Below.refl _ _ | refine bstep ?_ hb3 | refine bstep ?_ hb1 | refine Below.setCell ?_ (by simp <;> omega) _ | refine balloc ?_ _ | refine Below.drew ?_ | refine bdrewN ?_ _)))
  clear ho hb1 hb3
  go_wp2
  go_loopw [21] (fun kv wr => ∃ k : Nat, k ≤ n ∧ kv = .int .i64 k ∧ dle Q y k = 0 ∧ wr.ownsRow w.heap.size 27 11 (.slice (some ⟨g, 0, none⟩) n cap) n (pucs (dly Q y k) n) ∧ Below w.heap.size w wr) (fun kv _ => n - (intOf kv).toNat)
  case atStart => exact ⟨0, Nat.zero_le _, rfl, rfl, OW.out, BB.out⟩
  case round =>
    clear OW BB
    obtain ⟨k, hk, rfl, good, how, hbb⟩ := hrel
    have GOOD := Lib.hid good
    have OW := Lib.hid how
    have BB := Lib.hid hbb
    clear good how hbb
    by_cases hlt : k < n
    · have hk1 : (k : Int) < (n : Int) := by omega
      have c9 : wr.cell? ⟨g, k * 11 + 9, none⟩ = some (.int .i64 (Q k).2.1) := by
        rw [OW.out.cellAt (k * 11 + 9) (by omega), pucs_at _ hlt (by decide)]
        unfold dly
        rw [if_neg (Nat.lt_irrefl k)]
        rfl
      have f9 := OW.out.frozenAt (k * 11 + 9)
      have gl := (OW.out.lt g rfl).2
      have ST := Lib.hid (OW.out.stored (k * 11 + 9) (.int .i64 ((Q k).2.1 + y))).1
      have BS := Lib.hid (BB.out.setCell (p := ⟨g, k * 11 + 9, none⟩) (OW.out.lt g rfl).1 (.int .i64 ((Q k).2.1 + y)))
      rw [pucs_set Q y hlt] at ST
      obtain ⟨q1, q2⟩ := HQ.out k hlt
      have HIT := Lib.hid (fun h : 1000 < (Q k).2.1 + y => dle_hit h hlt)
      have NEXT := Lib.hid (fun h : ¬ 1000 < (Q k).2.1 + y => dle_next GOOD.out h)
      generalize (Q k).2.1 = at0 at *
      by_cases z : 1000 < at0 + y
      · have hf : res = 4 := by rw [← RES.out]; exact HIT.out z
        subst hf
        clear HIT NEXT OW
        go_wp2
        go_ret2
        exact ⟨_, rfl, by first | rfl | (rw [if_neg (by decide)]), BS.out⟩
      · have NX := Lib.hid (NEXT.out z)
        clear HIT NEXT OW
        go_wp2
        go_roundw
        case rel => exact ⟨k + 1, by omega, by go_num, NX.out, ST.out, BS.out⟩
        case measure => simp [intOf]; omega
    · obtain rfl : k = n := by omega
      have hf : res = 0 := by rw [← RES.out]; exact GOOD.out
      subst hf
      have O2 := OW.out
      rw [dly_all] at O2
      have O3 := Lib.hid O2
      clear O2
      go_wp2
      go_ret2
      exact ⟨_, rfl, by first | exact O3.out | (rw [if_pos rfl]; exact O3.out), BB.out⟩
theorem pu_new8 (w : World) (p : Pu) (ty : TypeId) : ∀ j u, (pucl p)[j]? = some u → (w.alloc (pub p ty)).cell? ((⟨w.heap.size, 0, none⟩ : Addr).add j) = some u := by
  have r := rowU_mem (rowU_one w p ty)
  intro j u hu
  exact r j u (by show ([] ++ pucl p)[j]? = _; rw [List.nil_append]; exact hu)
theorem pu_new8' (w : World) (p : Pu) (ty : TypeId) (b : Nat) (e : b = w.heap.size) : ∀ j u, (pucl p)[j]? = some u → (w.alloc (pub p ty)).cell? ((⟨b, 0, none⟩ : Addr).add j) = some u := by
  subst e; exact pu_new8 w p ty
end Go.Proofs.Ytemchbdlckcmkaa
namespace Go.Proofs.Ytemchbdlckcmkaa
open Go.ChangeShapes Go.WideShapes Go.RowKit
open Sh
/-- a list of pulses of the call's own, or none where there is an error -/
def PuR (W : World) (n : Nat) (e : Int) (f : Nat → Pu) (v : Value) : Prop := if e = 0 then W.ownsRow 0 27 11 v n (pucs f n) else v = .slice none 0 0
theorem puR_below {W W' : World} {n : Nat} {e : Int} {f : Nat → Pu} {v : Value} (h : PuR W n e f v) (hb : Below W.heap.size W W') : PuR W' n e f v := by
  unfold PuR at *
  by_cases z : e = 0
  · rw [if_pos z] at h ⊢
    exact own_below9 h hb
  · rw [if_neg z] at h ⊢
    exact h
theorem del_any (a : Option Addr) (n c : Nat) (Q : Nat → Pu) (y : Int) (w : World) (r : LstU w a n Q) (hnil : a = none → c = 0) (hn : n ≤ 140737488355328) :
    Calls Try.prog 11 #[.slice a n c, .int .i64 y] w fun e w' => ∃ v, e = .returned (.tuple #[v, .int .i64 (dcode n Q y)]) ∧ PuR w' n (dcode n Q y) (shf Q y) v ∧ Below w.heap.size w w' := by
  have V := fun W (B : Below w.heap.size w W) => svp_any a n c Q W (lstU_below r B) hn
  have I := fun W => sir_any y 0 1000 W
  unfold dcode PuR
  by_cases z : vpcode n Q = 0
  · rw [if_pos z]
    rw [z] at V
    have n16 : n ≤ 16 := by
      unfold vpcode at z
      by_cases h : n ≤ 16
      · exact h
      · rw [if_neg h] at z; exact absurd z (by decide)
    have hq : ∀ k, k < n → 0 ≤ (Q k).2.1 ∧ (Q k).2.1 ≤ 1000 := fun k hk => by
      unfold vpcode at z
      rw [if_pos n16] at z
      exact (pucode_ok (pucodes_all z k hk)).2.2.1
    cases h : rngB y 0 1000 with
    | false =>
      rw [h] at I
      exact (del_i a n c y w (Lib.hid V) (Lib.hid I)).mono fun _ _ ⟨h1, h2⟩ => ⟨_, h1, by rw [if_neg (by rw [if_neg Bool.false_ne_true]; decide)], h2⟩
    | true =>
      rw [h] at I
      obtain ⟨y1, y2⟩ := rngB_iff.1 h
      rw [if_pos rfl]
      by_cases m : n = 0
      · subst m
        exact (del_z a c y w (Lib.hid V) (Lib.hid I) (Lib.hid fun W _ => clone8_zero a c W hnil) ).mono fun _ _ ⟨v, h1, h2, h3⟩ => ⟨v, h1, own_base9 h2 (Nat.zero_le _), h3⟩
      · obtain ⟨b, off, rfl, rr⟩ := r (by omega)
        exact (del_r b off n c y Q w (Lib.hid V) (Lib.hid I) (Lib.hid fun W B => clone8_row b off n c Q W (rowU_below rr B) (by omega)) (by omega) n16 hq y1 y2).mono fun _ _ ⟨v, h1, h2, h3⟩ => ⟨v, h1, by
          by_cases e : dle Q y n = 0
          · rw [if_pos e] at h2 ⊢; exact own_base9 h2 (Nat.zero_le _)
          · rw [if_neg e] at h2 ⊢; exact h2, h3⟩
  · rw [if_neg z]
    exact (del_v a n c y _ w (Lib.hid V) (bne_iff_ne.2 z)).mono fun _ _ ⟨h1, h2⟩ => ⟨_, h1, by rw [if_neg z], h2⟩
end Go.Proofs.Ytemchbdlckcmkaa
