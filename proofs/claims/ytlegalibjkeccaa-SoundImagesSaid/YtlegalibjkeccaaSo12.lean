/-
  The contracts of Delay, in the program and in the document's answer.
-/
import Derived.Test.YtlegalibjkeccaaSo11
import Derived.Test.YtlegalibjkeccaaSo8
namespace Go.Proofs.Ytlegalibjkeccaa
open Go.ChangeShapes Go.WideShapes Go.RowKit
open Sh
/-- a pulse that is sent out later, and the first k of a list -/
def shf (f : Nat → Pu) (y : Int) (i : Nat) : Pu := ((f i).1, (f i).2.1 + y, (f i).2.2)
def dly (f : Nat → Pu) (y : Int) (k i : Nat) : Pu := if i < k then shf f y i else f i
/-- is one of the first k too late? -/
def dle (f : Nat → Pu) (y : Int) : Nat → Int
  | 0 => 0
  | k + 1 => if dle f y k = 0 then (if 1000 < (f k).2.1 + y then 4 else 0) else 4
theorem dle_hit {f : Nat → Pu} {y : Int} {k : Nat} (h : 1000 < (f k).2.1 + y) : ∀ {n : Nat}, k < n → dle f y n = 4
  | 0, hk => absurd hk (Nat.not_lt_zero k)
  | n + 1, hk => by
    show (if dle f y n = 0 then _ else _) = _
    by_cases e : k = n
    · subst e
      rw [if_pos h]
      split <;> rfl
    · rw [dle_hit h (n := n) (by omega), if_neg (by decide)]
theorem dle_next {f : Nat → Pu} {y : Int} {k : Nat} (e : dle f y k = 0) (h : ¬ 1000 < (f k).2.1 + y) : dle f y (k + 1) = 0 := by
  show (if dle f y k = 0 then _ else _) = _
  rw [if_pos e, if_neg h]
def dcode (n : Nat) (Q : Nat → Pu) (y : Int) : Int := if vpcode n Q = 0 then (if rngB y 0 1000 then dle Q y n else 1) else vpcode n Q
theorem pucs_set (f : Nat → Pu) (y : Int) {n k : Nat} (hk : k < n) : (pucs (dly f y k) n).set (k * 11 + 9) (.int .i64 ((f k).2.1 + y)) = pucs (dly f y (k + 1)) n := by
  apply List.ext_getElem?
  intro m
  rw [List.getElem?_set]
  by_cases hm : m < n * 11
  · have a := pucs_at (dly f y k) (n := n) (k := m / 11) (j := m % 11) (by omega) (by omega)
    have b := pucs_at (dly f y (k + 1)) (n := n) (k := m / 11) (j := m % 11) (by omega) (by omega)
    rw [show m / 11 * 11 + m % 11 = m by omega] at a b
    rw [a, b]
    by_cases q : m / 11 = k
    · have d1 : dly f y k (m / 11) = f k := by unfold dly; rw [if_neg (by omega), q]
      have d2 : dly f y (k + 1) (m / 11) = shf f y k := by unfold dly; rw [if_pos (by omega), q]
      rw [d1, d2]
      have hj : m % 11 < 11 := Nat.mod_lt _ (by decide)
      have : m % 11 = 0 ∨ m % 11 = 1 ∨ m % 11 = 2 ∨ m % 11 = 3 ∨ m % 11 = 4 ∨ m % 11 = 5 ∨ m % 11 = 6 ∨ m % 11 = 7 ∨ m % 11 = 8 ∨ m % 11 = 9 ∨ m % 11 = 10 := by omega
      rcases this with e | e | e | e | e | e | e | e | e | e | e
      all_goals
        rw [e]
        first
          | (rw [if_neg (by omega)]; rfl)
          | (rw [if_pos (by omega), if_pos (by rw [pucs_len]; omega)]; rfl)
    · rw [if_neg (by omega)]
      have d : dly f y k (m / 11) = dly f y (k + 1) (m / 11) := by
        unfold dly
        by_cases c : m / 11 < k
        · rw [if_pos c, if_pos (by omega)]
        · rw [if_neg c, if_neg (by omega)]
      rw [d]
  · rw [if_neg (by omega), List.getElem?_eq_none (by rw [pucs_len]; omega), List.getElem?_eq_none (by rw [pucs_len]; omega)]
theorem dly_zero (f : Nat → Pu) (y : Int) (n : Nat) : pucs (dly f y 0) n = pucs f n := pucs_eq fun k _ => by unfold dly; rw [if_neg (Nat.not_lt_zero k)]
theorem dly_all (f : Nat → Pu) (y : Int) (n : Nat) : pucs (dly f y n) n = pucs (shf f y) n := pucs_eq fun k hk => by unfold dly; rw [if_pos hk]
theorem del_v (a : Option Addr) (n c : Nat) (y : Int) (vc : Int) (w : World) (V : Hid (∀ W, Below w.heap.size w W → Calls Try.prog 16 #[.slice a n c] W fun e w' => e = .returned (.int .i64 vc) ∧ Below W.heap.size W w')) (z : (vc != 0) = true) : Calls Try.prog 14 #[.slice a n c, .int .i64 y] w fun e w' => e = .returned (.tuple #[.slice none 0 0, .int .i64 vc]) ∧ Below w.heap.size w w' := by
  go_enter Try.func14, Try.ntmps14
  go_wp2_with fail
  refine (V.out _ (Below.refl _ w)).mono ?_
  rintro e w1 ⟨rfl, hb1⟩
  go_wp2
  go_ret2
  exact ⟨rfl, by (repeat' (first | exact Below.refl _ _ | refine bstep ?_ hb1 | refine Below.setCell ?_ (by simp <;> omega) _ | refine balloc ?_ _ | refine Below.drew ?_ | refine bdrewN ?_ _))⟩
theorem del_i (a : Option Addr) (n c : Nat) (y : Int) (w : World) (V : Hid (∀ W, Below w.heap.size w W → Calls Try.prog 16 #[.slice a n c] W fun e w' => e = .returned (.int .i64 0) ∧ Below W.heap.size W w')) (I : Hid (∀ W, Calls Try.prog 37 #[.int .i64 y, .int .i64 0, .int .i64 1000] W fun e w' => e = .returned (.bool false) ∧ W = w')) : Calls Try.prog 14 #[.slice a n c, .int .i64 y] w fun e w' => e = .returned (.tuple #[.slice none 0 0, .int .i64 1]) ∧ Below w.heap.size w w' := by
  go_enter Try.func14, Try.ntmps14
  go_wp2_with fail
  refine (V.out _ (Below.refl _ w)).mono ?_
  rintro e w1 ⟨rfl, hb1⟩
  go_wp2_with fail
  refine (I.out _).mono ?_
  rintro e w2 ⟨rfl, rfl⟩
  go_wp2
  go_ret2
  exact ⟨rfl, by (repeat' (first | exact Below.refl _ _ | refine bstep ?_ hb1 | refine Below.setCell ?_ (by simp <;> omega) _ | refine balloc ?_ _ | refine Below.drew ?_ | refine bdrewN ?_ _))⟩
theorem rdel_v (a : Option Addr) (n c : Nat) (y : Int) (vc : Int) (w : World) (V : Hid (∀ W, Below w.heap.size w W → Calls Try.prog 17 #[.slice a n c] W fun e w' => e = .returned (.int .i64 vc) ∧ Below W.heap.size W w')) (z : (vc != 0) = true) : Calls Try.prog 15 #[.slice a n c, .int .i64 y] w fun e w' => e = .returned (.tuple #[.slice none 0 0, .int .i64 vc]) ∧ Below w.heap.size w w' := by
  go_enter Try.func15, Try.ntmps15
  go_wp2_with fail
  refine (V.out _ (Below.refl _ w)).mono ?_
  rintro e w1 ⟨rfl, hb1⟩
  go_wp2
  go_ret2
  exact ⟨rfl, by (repeat' (first | exact Below.refl _ _ | refine bstep ?_ hb1 | refine Below.setCell ?_ (by simp <;> omega) _ | refine balloc ?_ _ | refine Below.drew ?_ | refine bdrewN ?_ _))⟩
theorem rdel_i (a : Option Addr) (n c : Nat) (y : Int) (w : World) (V : Hid (∀ W, Below w.heap.size w W → Calls Try.prog 17 #[.slice a n c] W fun e w' => e = .returned (.int .i64 0) ∧ Below W.heap.size W w')) (I : Hid (∀ W, Calls Try.prog 39 #[.int .i64 y, .int .i64 0, .int .i64 1000] W fun e w' => e = .returned (.bool false) ∧ W = w')) : Calls Try.prog 15 #[.slice a n c, .int .i64 y] w fun e w' => e = .returned (.tuple #[.slice none 0 0, .int .i64 1]) ∧ Below w.heap.size w w' := by
  go_enter Try.func15, Try.ntmps15
  go_wp2_with fail
  refine (V.out _ (Below.refl _ w)).mono ?_
  rintro e w1 ⟨rfl, hb1⟩
  go_wp2_with fail
  refine (I.out _).mono ?_
  rintro e w2 ⟨rfl, rfl⟩
  go_wp2
  go_ret2
  exact ⟨rfl, by (repeat' (first | exact Below.refl _ _ | refine bstep ?_ hb1 | refine Below.setCell ?_ (by simp <;> omega) _ | refine balloc ?_ _ | refine Below.drew ?_ | refine bdrewN ?_ _))⟩
set_option maxRecDepth 100000 in
set_option maxHeartbeats 2000000 in
theorem del_z (a : Option Addr) (c : Nat) (y : Int) (w : World) (V : Hid (∀ W, Below w.heap.size w W → Calls Try.prog 16 #[.slice a 0 c] W fun e w' => e = .returned (.int .i64 0) ∧ Below W.heap.size W w')) (I : Hid (∀ W, Calls Try.prog 37 #[.int .i64 y, .int .i64 0, .int .i64 1000] W fun e w' => e = .returned (.bool true) ∧ W = w')) (C : Hid (∀ W : World, Below w.heap.size w W → Calls Try.prog 38 #[.slice a 0 c] W fun e w' => ∃ v, e = .returned v ∧ w'.ownsRow W.heap.size 27 11 v 0 [] ∧ Below W.heap.size W w')) : Calls Try.prog 14 #[.slice a 0 c, .int .i64 y] w fun e w' => ∃ v, e = .returned (.tuple #[v, .int .i64 0]) ∧ w'.ownsRow w.heap.size 27 11 v 0 [] ∧ Below w.heap.size w w' := by
  go_enter Try.func14, Try.ntmps14
  go_wp2_with fail
  refine (V.out _ (Below.refl _ w)).mono ?_
  rintro e w1 ⟨rfl, hb1⟩
  go_wp2_with fail
  refine (I.out _).mono ?_
  rintro e w2 ⟨rfl, rfl⟩
  go_wp2_with fail
  refine (C.out _ hb1).mono ?_
  rintro e w3 ⟨v, rfl, ho, hb3⟩
  have hv : ∃ A cc, v = .slice A 0 cc := by
    rcases ho.2 with ⟨e, _⟩ | ⟨g, cap, cur, e, _⟩
    · exact ⟨_, _, e⟩
    · exact ⟨_, _, e⟩
  obtain ⟨A, cc, rfl⟩ := hv
  have OW := Lib.hid (own_base9 ho (show w.heap.size ≤ w1.heap.size from hb1.size))
  clear ho
  go_wp2
  refine wp_loop_rounds 1 ?_
  rw [rounds_succ]
  go_wp2
  go_ret2
  exact ⟨_, rfl, OW.out, by (repeat' (first | exact Below.refl _ _ | refine bstep ?_ hb3 | refine bstep ?_ hb1 | refine Below.setCell ?_ (by simp <;> omega) _ | refine balloc ?_ _ | refine Below.drew ?_ | refine bdrewN ?_ _))⟩
set_option maxRecDepth 100000 in
set_option maxHeartbeats 2000000 in
theorem del_r (b off n c : Nat) (y : Int) (Q : Nat → Pu) (w : World) (V : Hid (∀ W, Below w.heap.size w W → Calls Try.prog 16 #[.slice (some ⟨b, off, none⟩) n c] W fun e w' => e = .returned (.int .i64 0) ∧ Below W.heap.size W w')) (I : Hid (∀ W, Calls Try.prog 37 #[.int .i64 y, .int .i64 0, .int .i64 1000] W fun e w' => e = .returned (.bool true) ∧ W = w')) (C : Hid (∀ W : World, Below w.heap.size w W → Calls Try.prog 38 #[.slice (some ⟨b, off, none⟩) n c] W fun e w' => ∃ v, e = .returned v ∧ w'.ownsRow W.heap.size 27 11 v n (pucs Q n) ∧ Below W.heap.size W w')) (h0 : 0 < n) (hn : n ≤ 16) (hq : ∀ k, k < n → 0 ≤ (Q k).2.1 ∧ (Q k).2.1 ≤ 1000) (y1 : 0 ≤ y) (y2 : y ≤ 1000) : Calls Try.prog 14 #[.slice (some ⟨b, off, none⟩) n c, .int .i64 y] w fun e w' => ∃ v, e = .returned (.tuple #[v, .int .i64 (dle Q y n)]) ∧ (if dle Q y n = 0 then w'.ownsRow w.heap.size 27 11 v n (pucs (shf Q y) n) else v = .slice none 0 0) ∧ Below w.heap.size w w' := by
  have HQ := Lib.hid hq
  have hn' : (n : Int) ≤ 16 := by omega
  obtain ⟨res, hres⟩ : ∃ res, dle Q y n = res := ⟨_, rfl⟩
  have RES := Lib.hid hres
  rw [hres]
  clear hq hres
  go_enter Try.func14, Try.ntmps14
  go_wp2_with fail
  refine (V.out _ (Below.refl _ w)).mono ?_
  rintro e w1 ⟨rfl, hb1⟩
  go_wp2_with fail
  refine (I.out _).mono ?_
  rintro e w2 ⟨rfl, rfl⟩
  go_wp2_with fail
  refine (C.out _ hb1).mono ?_
  rintro e w3 ⟨v, rfl, ho, hb3⟩
  obtain ⟨g, cap, rfl⟩ := own_slice8 ho h0
  have OW := Lib.hid (show w3.ownsRow w.heap.size 27 11 (.slice (some ⟨g, 0, none⟩) n cap) n (pucs (dly Q y 0) n) by rw [dly_zero]; exact own_base9 ho hb1.size)
  have BB := Lib.hid (show Below w.heap.size w w3 by (repeat' (first | exact Below.refl _ _ | refine bstep ?_ hb3 | refine bstep ?_ hb1 | refine Below.setCell ?_ (by simp <;> omega) _ | refine balloc ?_ _ | refine Below.drew ?_ | refine bdrewN ?_ _)))
  clear ho hb1 hb3
  go_wp2
  go_loopw [21] (fun kv wr => ∃ k : Nat, k ≤ n ∧ kv = .int .i64 k ∧ dle Q y k = 0 ∧ wr.ownsRow w.heap.size 27 11 (.slice (some ⟨g, 0, none⟩) n cap) n (pucs (dly Q y k) n) ∧ Below w.heap.size w wr) (fun kv _ => n - (intOf kv).toNat)
  case atStart => exact ⟨0, Nat.zero_le _, rfl, rfl, OW.out, BB.out⟩
  case round =>
    clear OW BB
    obtain ⟨k, hk, rfl, good, how, hbb⟩ := hrel
    have GOOD := Lib.hid good
    have OW := Lib.hid how
    have BB := Lib.hid hbb
    clear good how hbb
    by_cases hlt : k < n
    · have hk1 : (k : Int) < (n : Int) := by omega
      have c9 : wr.cell? ⟨g, k * 11 + 9, none⟩ = some (.int .i64 (Q k).2.1) := by
        rw [OW.out.cellAt (k * 11 + 9) (by omega), pucs_at _ hlt (by decide)]
        unfold dly
        rw [if_neg (Nat.lt_irrefl k)]
        rfl
      have f9 := OW.out.frozenAt (k * 11 + 9)
      have gl := (OW.out.lt g rfl).2
      have ST := Lib.hid (OW.out.stored (k * 11 + 9) (.int .i64 ((Q k).2.1 + y))).1
      have BS := Lib.hid (BB.out.setCell (p := ⟨g, k * 11 + 9, none⟩) (OW.out.lt g rfl).1 (.int .i64 ((Q k).2.1 + y)))
      rw [pucs_set Q y hlt] at ST
      obtain ⟨q1, q2⟩ := HQ.out k hlt
      have HIT := Lib.hid (fun h : 1000 < (Q k).2.1 + y => dle_hit h hlt)
      have NEXT := Lib.hid (fun h : ¬ 1000 < (Q k).2.1 + y => dle_next GOOD.out h)
      generalize (Q k).2.1 = at0 at *
      by_cases z : 1000 < at0 + y
      · have hf : res = 4 := by rw [← RES.out]; exact HIT.out z
        subst hf
        clear HIT NEXT OW
        go_wp2
        go_ret2
        exact ⟨_, rfl, by first | rfl | (rw [if_neg (by decide)]), BS.out⟩
      · have NX := Lib.hid (NEXT.out z)
        clear HIT NEXT OW
        go_wp2
        go_roundw
        case rel => exact ⟨k + 1, by omega, by go_num, NX.out, ST.out, BS.out⟩
        case measure => simp [intOf]; omega
    · obtain rfl : k = n := by omega
      have hf : res = 0 := by rw [← RES.out]; exact GOOD.out
      subst hf
      have O2 := OW.out
      rw [dly_all] at O2
      have O3 := Lib.hid O2
      clear O2
      go_wp2
      go_ret2
      exact ⟨_, rfl, by first | exact O3.out | (rw [if_pos rfl]; exact O3.out), BB.out⟩
theorem pu_new8 (w : World) (p : Pu) (ty : TypeId) : ∀ j u, (pucl p)[j]? = some u → (w.alloc (pub p ty)).cell? ((⟨w.heap.size, 0, none⟩ : Addr).add j) = some u := by
  have r := rowU_mem (rowU_one w p ty)
  intro j u hu
  exact r j u (by show ([] ++ pucl p)[j]? = _; rw [List.nil_append]; exact hu)
theorem pu_new8' (w : World) (p : Pu) (ty : TypeId) (b : Nat) (e : b = w.heap.size) : ∀ j u, (pucl p)[j]? = some u → (w.alloc (pub p ty)).cell? ((⟨b, 0, none⟩ : Addr).add j) = some u := by
  subst e; exact pu_new8 w p ty
set_option maxRecDepth 100000 in
set_option maxHeartbeats 2000000 in
theorem rdel_z (a : Option Addr) (c : Nat) (y : Int) (w : World) (V : Hid (∀ W, Below w.heap.size w W → Calls Try.prog 17 #[.slice a 0 c] W fun e w' => e = .returned (.int .i64 0) ∧ Below W.heap.size W w')) (I : Hid (∀ W, Calls Try.prog 39 #[.int .i64 y, .int .i64 0, .int .i64 1000] W fun e w' => e = .returned (.bool true) ∧ W = w')) : Calls Try.prog 15 #[.slice a 0 c, .int .i64 y] w fun e w' => ∃ v, e = .returned (.tuple #[v, .int .i64 0]) ∧ w'.ownsRow w.heap.size 27 11 v 0 [] ∧ Below w.heap.size w w' := by
  go_enter Try.func15, Try.ntmps15
  go_wp2_with fail
  refine (V.out _ (Below.refl _ w)).mono ?_
  rintro e w1 ⟨rfl, hb1⟩
  go_wp2_with fail
  refine (I.out _).mono ?_
  rintro e w2 ⟨rfl, rfl⟩
  go_wp2
  refine wp_loop_rounds 1 ?_
  rw [rounds_succ]
  go_wp2
  go_ret2
  exact ⟨_, rfl, World.ownsRow_nil _ _ _ _, hb1⟩
set_option maxRecDepth 100000 in
set_option maxHeartbeats 2000000 in
theorem rdel_r (b off n c : Nat) (y : Int) (Q : Nat → Pu) (w : World) (V : Hid (∀ W, Below w.heap.size w W → Calls Try.prog 17 #[.slice (some ⟨b, off, none⟩) n c] W fun e w' => e = .returned (.int .i64 0) ∧ Below W.heap.size W w')) (I : Hid (∀ W, Calls Try.prog 39 #[.int .i64 y, .int .i64 0, .int .i64 1000] W fun e w' => e = .returned (.bool true) ∧ W = w')) (r : RowU w b off n Q) (hn : n ≤ 16) (hq : ∀ k, k < n → 0 ≤ (Q k).2.1 ∧ (Q k).2.1 ≤ 1000) (y1 : 0 ≤ y) (y2 : y ≤ 1000) : Calls Try.prog 15 #[.slice (some ⟨b, off, none⟩) n c, .int .i64 y] w fun e w' => ∃ v, e = .returned (.tuple #[v, .int .i64 (dle Q y n)]) ∧ (if dle Q y n = 0 then w'.ownsRow w.heap.size 27 11 v n (pucs (shf Q y) n) else v = .slice none 0 0) ∧ Below w.heap.size w w' := by
  obtain ⟨i0, hi, hz0, hz1, hz2⟩ := info_parts infoPu8
  have HI := Lib.hid hi
  have HZ0 := Lib.hid hz0
  have HZ1 := Lib.hid hz1
  have HZ2 := Lib.hid hz2
  have HQ := Lib.hid hq
  have R := Lib.hid r
  have hbl := r.1
  have hn' : (n : Int) ≤ 16 := by omega
  obtain ⟨res, hres⟩ : ∃ res, dle Q y n = res := ⟨_, rfl⟩
  have RES := Lib.hid hres
  rw [hres]
  clear hq hres hi hz0 hz1 hz2 r
  go_enter Try.func15, Try.ntmps15
  go_wp2_with fail
  refine (V.out _ (Below.refl _ w)).mono ?_
  rintro e w1 ⟨rfl, hb1⟩
  go_wp2_with fail
  refine (I.out _).mono ?_
  rintro e w2 ⟨rfl, rfl⟩
  have BB := Lib.hid hb1
  clear hb1
  go_wp2
  go_loopw [7, 8] (fun sv kv wr => ∃ k : Nat, k ≤ n ∧ kv = .int .i64 k ∧ dle Q y k = 0 ∧ wr.ownsRow w.heap.size 27 11 sv k (pucs (shf Q y) k) ∧ Below w.heap.size w wr) (fun _ kv _ => n - (intOf kv).toNat)
  case atStart => exact ⟨0, Nat.zero_le _, rfl, rfl, World.ownsRow_nil _ _ _ _, BB.out⟩
  case round =>
    clear BB
    obtain ⟨k, hk, rfl, good, how, hbb⟩ := hrel
    have GOOD := Lib.hid good
    have OW := Lib.hid how
    have BB := Lib.hid hbb
    clear good how hbb
    by_cases hlt : k < n
    · have hk1 : (k : Int) < (n : Int) := by omega
      have r2 := rowU_in R.out BB.out hbl
      obtain ⟨c0, c1, c2, c3, c4, c5, c6, c7, c8, c9, c10⟩ := r2.2 k hlt
      have r5 := r2.1
      clear r2
      obtain ⟨q1, q2⟩ := HQ.out k hlt
      have HIT := Lib.hid (fun h : 1000 < (Q k).2.1 + y => dle_hit h hlt)
      have NEXT := Lib.hid (fun h : ¬ 1000 < (Q k).2.1 + y => dle_next GOOD.out h)
      have GS := Lib.hid (show pucs (shf Q y) (k + 1) = pucs (shf Q y) k ++ pucl ((Q k).1, (Q k).2.1 + y, (Q k).2.2) from rfl)
      have szw := BB.out.size
      generalize Q k = q at *
      by_cases z : 1000 < q.2.1 + y
      · have hf : res = 4 := by rw [← RES.out]; exact HIT.out z
        subst hf
        clear HIT NEXT OW GS
        go_wp2
        go_ret2
        have hB := BB.out
        exact ⟨_, rfl, by first | rfl | (rw [if_neg (by decide)]), by (repeat' (first | exact Below.refl _ _ | refine bstep ?_ hB | refine Below.setCell ?_ (by simp <;> omega) _ | refine balloc ?_ _ | refine Below.drew ?_ | refine bdrewN ?_ _))⟩
      · have NX := Lib.hid (NEXT.out z)
        clear HIT NEXT
        go_wp2_with (at_builtin; go_loud (refine wpList_append_own _ rfl _ _ 35 rfl w.heap.size 27 i0 (.agg #[.int .i64 0, .int .i64 0, .int .i64 0, .int .i64 0, .int .i64 0, .int .i64 0, .int .i64 0, .int .i64 0, .int .i64 0, .int .i64 0, .int .i64 0]) 11 88 Try.underlying35 HI.out HZ0.out HZ1.out HZ2.out rfl (by decide) _ k (pucs (shf Q y) k) rfl (World.ownsRow.alloc (World.ownsRow.alloc OW.out _) _) ⟨_, 0, none⟩ 1 1 (pucl (q.1, q.2.1 + y, q.2.2)) rfl rfl (pu_new8' _ _ _ _ (by simp)) (pucl_one _) (by unfold maxLen; omega) (by omega) (by simp; omega) ?_); intro v' w1 hown' hgrow _; have O2 := Lib.hid hown'; have GR := Lib.hid hgrow; clear hown' hgrow)
        have BG := Lib.hid (BB.out.trans ((((Below.refl w.heap.size wr).alloc szw _).alloc (by simp; omega) _).grown GR.out (by simp; omega) (fun gg hg => (OW.out.lt gg hg).1)))
        go_roundw
        case rel => exact ⟨k + 1, by omega, by go_num, NX.out, by rw [GS.out]; exact O2.out, BG.out⟩
        case measure => simp [intOf]; omega
    · obtain rfl : k = n := by omega
      have hf : res = 0 := by rw [← RES.out]; exact GOOD.out
      subst hf
      go_wp2
      go_ret2
      exact ⟨_, rfl, by first | exact OW.out | (rw [if_pos rfl]; exact OW.out), BB.out⟩

end Go.Proofs.Ytlegalibjkeccaa
