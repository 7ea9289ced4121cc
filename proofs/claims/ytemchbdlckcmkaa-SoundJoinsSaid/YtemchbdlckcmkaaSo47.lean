/-
  The law SoundJoins: its walk.
-/
import Derived.Test.YtemchbdlckcmkaaSo46
import Derived.Test.YtemchbdlckcmkaaArith
namespace Go.Proofs.Ytemchbdlckcmkaa
open Go.ChangeShapes Go.WideShapes Go.RowKit
open Sh
theorem svp_huge (a : Option Addr) (n cap : Nat) (w : World) (h : 16 < n) (hn : n ≤ 9223372036854775807) : Calls Try.prog 27 #[.slice a n cap] w fun e w' => e = .returned (.int .i64 4) ∧ Below w.heap.size w w' := by
  go_enter Try.func27, Try.ntmps27
  go_wp2
  go_ret
  exact ⟨rfl, Below.refl _ _⟩
theorem scn_all (a : Option Addr) (n c : Nat) (Q : Nat → Pu) (x : P3) (s t d : Int) (w : World) (rr : LstU w a n Q) (hn : n ≤ 9223372036854775807) : Calls Try.prog 12 #[.slice a n c, ptv x, .int .i64 s, .int .i64 t, .int .i64 d] w fun e w' => e = .returned (spr (scnR n Q x s t d)) ∧ Below w.heap.size w w' := by
  by_cases h : n ≤ 16
  · exact scn_any a n c Q x s t d w rr (by omega)
  · have e : scnR n Q x s t d = ((0, 0), 4) := by
      have hv : vpcode n Q = 4 := by unfold vpcode; rw [if_neg h]
      have hs : scode n Q x s t d = 4 := by unfold scode; rw [hv, if_neg (by decide)]
      unfold scnR
      rw [hs, if_neg (by decide)]
    rw [e]
    exact scn_no a n c x s t d 4 w (Lib.hid fun W b B hb => mck_v x s d a n c (some ⟨b, 0, none⟩) 1 1 4 _ (Lib.hid fun W' _ => svp_huge a n c W' (by omega) hn) (by decide)) (by decide)
theorem scn_code (n : Nat) (Q : Nat → Pu) (x : P3) (s t d : Int) (e : (scnR n Q x s t d).2 = 0) : ∀ k, k < n → -100 ≤ (Q k).2.2 ∧ (Q k).2.2 ≤ 100 := by
  have c1 : scode n Q x s t d = 0 := by
    unfold scnR at e
    by_cases z : scode n Q x s t d = 0
    · exact z
    · rw [if_neg z] at e; exact e
  exact fun k hk => (pucode_ok ((scode_ok c1).1.2 k hk)).2.2.2
theorem scn_len (n : Nat) (Q : Nat → Pu) (x : P3) (s t d : Int) (e : (scnR n Q x s t d).2 = 0) : n ≤ 16 := by
  unfold scnR at e
  by_cases z : scode n Q x s t d = 0
  · exact (scode_ok z).1.1
  · rw [if_neg z] at e; exact absurd e z
theorem scn_bd (n : Nat) (Q : Nat → Pu) (x : P3) (s t d : Int) (e : (scnR n Q x s t d).2 = 0) : -13421774400 ≤ (scnR n Q x s t d).1.1 ∧ (scnR n Q x s t d).1.1 ≤ 13421774400 ∧ -13421774400 ≤ (scnR n Q x s t d).1.2 ∧ (scnR n Q x s t d).1.2 ≤ 13421774400 := by
  have c1 : scode n Q x s t d = 0 := by
    unfold scnR at e
    by_cases z : scode n Q x s t d = 0
    · exact z
    · rw [if_neg z] at e; exact e
  obtain ⟨⟨n16, hp⟩, hx, hs, ht, hd⟩ := scode_ok c1
  unfold scnR at e ⊢
  rw [if_pos c1] at e ⊢
  unfold sceQ at e ⊢
  rcases sceR_val (fun k hk => hd_ok (hp k hk) hx hs.1 hs.2 hd.1 hd.2 ht.1 ht.2) n16 with ⟨_, b⟩ | ⟨a1, a2, a3, a4, a5⟩
  · rw [b] at e; cases e
  · rw [a2]
    dsimp only
    omega
set_option maxRecDepth 100000 in
set_option maxHeartbeats 4000000 in
theorem joins_big (a : Option Addr) (n c : Nat) (a' : Option Addr) (m c' : Nat) (x : P3) (s t d : Int) (w : World) (nm : Int) (hw : IntKind.i64.wrap ((n : Int) + (m : Int)) = nm) (h1 : 16 < nm) (K : Hid (∀ W, Calls Try.prog 10 #[] W fun e w' => e = .returned (.bool true) ∧ Below W.heap.size W w')) : Calls Try.prog 7 #[.slice a n c, .slice a' m c', earv x s t d] w fun e w' => e = .returned (.bool true) ∧ Below w.heap.size w w' := by
  go_enter Try.func7, Try.ntmps7
  go_wp2_with fail
  refine (K.out _).mono ?_
  rintro e w1 ⟨rfl, hb1⟩
  go_wp2
  go_ret
  exact ⟨rfl, by (repeat' (first | exact Below.refl _ _ | refine bstep ?_ hb1 | refine Below.setCell ?_ (by simp <;> omega) _ | refine balloc ?_ _ | refine Below.drew ?_ | refine bdrewN ?_ _))⟩
set_option maxRecDepth 100000 in
set_option maxHeartbeats 4000000 in
theorem joins_far (a : Option Addr) (n c : Nat) (a' : Option Addr) (m c' : Nat) (x : P3) (s t d : Int) (w : World) (nm : Int) (hw : IntKind.i64.wrap ((n : Int) + (m : Int)) = nm) (h1 : decide (16 < nm) = false) (S0 : Hid (∀ W, Calls Try.prog 18 #[ptv x, .int .i64 256] W fun e w' => e = .returned (.bool false) ∧ Below W.heap.size W w')) (K : Hid (∀ W, Calls Try.prog 10 #[] W fun e w' => e = .returned (.bool true) ∧ Below W.heap.size W w')) : Calls Try.prog 7 #[.slice a n c, .slice a' m c', earv x s t d] w fun e w' => e = .returned (.bool true) ∧ Below w.heap.size w w' := by
  go_enter Try.func7, Try.ntmps7
  go_wp2_with fail
  refine (S0.out _).mono ?_
  rintro e w1 ⟨rfl, hb1⟩
  go_wp2_with fail
  refine (K.out _).mono ?_
  rintro e w2 ⟨rfl, hb2⟩
  go_wp2
  go_ret
  exact ⟨rfl, by (repeat' (first | exact Below.refl _ _ | refine bstep ?_ hb2 | refine bstep ?_ hb1 | refine Below.setCell ?_ (by simp <;> omega) _ | refine balloc ?_ _ | refine Below.drew ?_ | refine bdrewN ?_ _))⟩
set_option maxRecDepth 100000 in
set_option maxHeartbeats 4000000 in
theorem joins_ea (a : Option Addr) (n c : Nat) (a' : Option Addr) (m c' : Nat) (x : P3) (s t d : Int) (a1 a2 b1 b2 ea eb : Int) (w : World) (nm : Int) (hw : IntKind.i64.wrap ((n : Int) + (m : Int)) = nm) (h1 : decide (16 < nm) = false) (z : (ea != 0) = true) (S0 : Hid (∀ W, Calls Try.prog 18 #[ptv x, .int .i64 256] W fun e w' => e = .returned (.bool true) ∧ Below W.heap.size W w')) (S1 : Hid (∀ W, Below w.heap.size w W → Calls Try.prog 12 #[.slice a n c, ptv x, .int .i64 s, .int .i64 t, .int .i64 d] W fun e w' => e = .returned (spr ((a1, a2), ea)) ∧ Below W.heap.size W w')) (S2 : Hid (∀ W, Below w.heap.size w W → Calls Try.prog 12 #[.slice a' m c', ptv x, .int .i64 s, .int .i64 t, .int .i64 d] W fun e w' => e = .returned (spr ((b1, b2), eb)) ∧ Below W.heap.size W w')) (K : Hid (∀ W, Calls Try.prog 10 #[] W fun e w' => e = .returned (.bool true) ∧ Below W.heap.size W w')) : Calls Try.prog 7 #[.slice a n c, .slice a' m c', earv x s t d] w fun e w' => e = .returned (.bool true) ∧ Below w.heap.size w w' := by
  have E0 := Lib.hid (ownE_new w x s t d 29)
  have B0 := Lib.hid (show Below w.heap.size w (w.alloc (earb x s t d 29)) by (repeat' (first | exact Below.refl _ _ | refine Below.setCell ?_ (by simp <;> omega) _ | refine balloc ?_ _ | refine Below.drew ?_ | refine bdrewN ?_ _)))
  go_enter Try.func7, Try.ntmps7
  go_wp2_with fail
  refine (S0.out _).mono ?_
  rintro e w1 ⟨rfl, hb1⟩
  have E1 := Lib.hid (ownE_below E0.out hb1)
  have B1 := Lib.hid (bstep B0.out hb1)
  clear hb1
  obtain ⟨⟨q0, q1, q2, q3, q4, q5⟩, el⟩ := E1.out
  go_wp2_with fail
  refine (S1.out _ B1.out).mono ?_
  rintro e w2 ⟨rfl, hb2⟩
  clear q0 q1 q2 q3 q4 q5 el
  have E2 := Lib.hid (ownE_alloc (ownE_below E1.out hb2) (.cells #[.int .i64 a1, .int .i64 a2] 31))
  have ZA2 := Lib.hid (pair_new w2 a1 a2 31)
  have B2 := Lib.hid (balloc (bstep B1.out hb2) (.cells #[.int .i64 a1, .int .i64 a2] 31))
  clear hb2
  obtain ⟨⟨q0, q1, q2, q3, q4, q5⟩, el⟩ := E2.out
  go_wp2_with fail
  refine (S2.out _ B2.out).mono ?_
  rintro e w3 ⟨rfl, hb3⟩
  clear q0 q1 q2 q3 q4 q5 el
  have E3 := Lib.hid (ownE_alloc (ownE_below E2.out hb3) (.cells #[.int .i64 b1, .int .i64 b2] 31))
  have ZA3 := Lib.hid (pair_alloc (pair_below ZA2.out hb3) (.cells #[.int .i64 b1, .int .i64 b2] 31))
  have ZB3 := Lib.hid (pair_new w3 b1 b2 31)
  have B3 := Lib.hid (balloc (bstep B2.out hb3) (.cells #[.int .i64 b1, .int .i64 b2] 31))
  clear hb3
  go_wp2_with fail
  refine (K.out _).mono ?_
  rintro e w6 ⟨rfl, hb6⟩
  go_wp2
  go_ret
  exact ⟨rfl, bstep B3.out hb6⟩
set_option maxRecDepth 100000 in
set_option maxHeartbeats 4000000 in
theorem joins_eb (a : Option Addr) (n c : Nat) (a' : Option Addr) (m c' : Nat) (x : P3) (s t d : Int) (a1 a2 b1 b2 eb : Int) (w : World) (nm : Int) (hw : IntKind.i64.wrap ((n : Int) + (m : Int)) = nm) (h1 : decide (16 < nm) = false) (z : (eb != 0) = true) (S0 : Hid (∀ W, Calls Try.prog 18 #[ptv x, .int .i64 256] W fun e w' => e = .returned (.bool true) ∧ Below W.heap.size W w')) (S1 : Hid (∀ W, Below w.heap.size w W → Calls Try.prog 12 #[.slice a n c, ptv x, .int .i64 s, .int .i64 t, .int .i64 d] W fun e w' => e = .returned (spr ((a1, a2), 0)) ∧ Below W.heap.size W w')) (S2 : Hid (∀ W, Below w.heap.size w W → Calls Try.prog 12 #[.slice a' m c', ptv x, .int .i64 s, .int .i64 t, .int .i64 d] W fun e w' => e = .returned (spr ((b1, b2), eb)) ∧ Below W.heap.size W w')) (K : Hid (∀ W, Calls Try.prog 10 #[] W fun e w' => e = .returned (.bool true) ∧ Below W.heap.size W w')) : Calls Try.prog 7 #[.slice a n c, .slice a' m c', earv x s t d] w fun e w' => e = .returned (.bool true) ∧ Below w.heap.size w w' := by
  have E0 := Lib.hid (ownE_new w x s t d 29)
  have B0 := Lib.hid (show Below w.heap.size w (w.alloc (earb x s t d 29)) by (repeat' (first | exact Below.refl _ _ | refine Below.setCell ?_ (by simp <;> omega) _ | refine balloc ?_ _ | refine Below.drew ?_ | refine bdrewN ?_ _)))
  go_enter Try.func7, Try.ntmps7
  go_wp2_with fail
  refine (S0.out _).mono ?_
  rintro e w1 ⟨rfl, hb1⟩
  have E1 := Lib.hid (ownE_below E0.out hb1)
  have B1 := Lib.hid (bstep B0.out hb1)
  clear hb1
  obtain ⟨⟨q0, q1, q2, q3, q4, q5⟩, el⟩ := E1.out
  go_wp2_with fail
  refine (S1.out _ B1.out).mono ?_
  rintro e w2 ⟨rfl, hb2⟩
  clear q0 q1 q2 q3 q4 q5 el
  have E2 := Lib.hid (ownE_alloc (ownE_below E1.out hb2) (.cells #[.int .i64 a1, .int .i64 a2] 31))
  have ZA2 := Lib.hid (pair_new w2 a1 a2 31)
  have B2 := Lib.hid (balloc (bstep B1.out hb2) (.cells #[.int .i64 a1, .int .i64 a2] 31))
  clear hb2
  obtain ⟨⟨q0, q1, q2, q3, q4, q5⟩, el⟩ := E2.out
  go_wp2_with fail
  refine (S2.out _ B2.out).mono ?_
  rintro e w3 ⟨rfl, hb3⟩
  clear q0 q1 q2 q3 q4 q5 el
  have E3 := Lib.hid (ownE_alloc (ownE_below E2.out hb3) (.cells #[.int .i64 b1, .int .i64 b2] 31))
  have ZA3 := Lib.hid (pair_alloc (pair_below ZA2.out hb3) (.cells #[.int .i64 b1, .int .i64 b2] 31))
  have ZB3 := Lib.hid (pair_new w3 b1 b2 31)
  have B3 := Lib.hid (balloc (bstep B2.out hb3) (.cells #[.int .i64 b1, .int .i64 b2] 31))
  clear hb3
  go_wp2_with fail
  refine (K.out _).mono ?_
  rintro e w6 ⟨rfl, hb6⟩
  go_wp2
  go_ret
  exact ⟨rfl, bstep B3.out hb6⟩
set_option maxRecDepth 100000 in
set_option maxHeartbeats 4000000 in
theorem joins_ok (a : Option Addr) (n c : Nat) (a' : Option Addr) (m c' : Nat) (x : P3) (s t d : Int) (Q Q' : Nat → Pu) (a1 a2 b1 b2 g1 g2 : Int) (w : World) (nm : Int) (hw : IntKind.i64.wrap ((n : Int) + (m : Int)) = nm) (h1 : decide (16 < nm) = false) (hnm : n + m ≤ 16) (S0 : Hid (∀ W, Calls Try.prog 18 #[ptv x, .int .i64 256] W fun e w' => e = .returned (.bool true) ∧ Below W.heap.size W w')) (S1 : Hid (∀ W, Below w.heap.size w W → Calls Try.prog 12 #[.slice a n c, ptv x, .int .i64 s, .int .i64 t, .int .i64 d] W fun e w' => e = .returned (spr ((a1, a2), 0)) ∧ Below W.heap.size W w')) (S2 : Hid (∀ W, Below w.heap.size w W → Calls Try.prog 12 #[.slice a' m c', ptv x, .int .i64 s, .int .i64 t, .int .i64 d] W fun e w' => e = .returned (spr ((b1, b2), 0)) ∧ Below W.heap.size W w'))
    (r0 : LstU w a n Q) (r1 : LstU w a' m Q') (hq : ∀ k, k < n → -100 ≤ (Q k).2.2 ∧ (Q k).2.2 ≤ 100) (hv : -13421774400 ≤ a1 ∧ a1 ≤ 13421774400 ∧ -13421774400 ≤ a2 ∧ a2 ≤ 13421774400)
    (SJ : Hid (∀ v W (wq : World), W.ownsRow wq.heap.size 27 11 v (0 + n + m) (pucs (JQ (JQ Q 0 Q) (0 + n) Q') (0 + n + m)) → Calls Try.prog 12 #[v, ptv x, .int .i64 s, .int .i64 t, .int .i64 d] W fun e w' => e = .returned (spr ((g1, g2), 0)) ∧ Below W.heap.size W w'))
    (AA : Hid (∀ W, Calls Try.prog 19 #[spv a1 a2, spv b1 b2] W fun e w' => e = .returned (spr ((g1, g2), 0)) ∧ Below W.heap.size W w'))
    (SN : Hid (∀ v W, W.ownsRow 0 27 11 v n (pucs (NQ Q) n) → Calls Try.prog 12 #[v, ptv x, .int .i64 s, .int .i64 t, .int .i64 d] W fun e w' => e = .returned (spr ((-a2, -a1), 0)) ∧ Below W.heap.size W w'))
    (K : Hid (∀ W, Calls Try.prog 10 #[] W fun e w' => e = .returned (.bool true) ∧ Below W.heap.size W w')) : Calls Try.prog 7 #[.slice a n c, .slice a' m c', earv x s t d] w fun e w' => e = .returned (.bool true) ∧ Below w.heap.size w w' := by
  have R0 := Lib.hid r0
  have R1 := Lib.hid r1
  have HQ := Lib.hid hq
  have HV := Lib.hid hv
  clear r0 r1 hq hv
  have E0 := Lib.hid (ownE_new w x s t d 29)
  have B0 := Lib.hid (show Below w.heap.size w (w.alloc (earb x s t d 29)) by (repeat' (first | exact Below.refl _ _ | refine Below.setCell ?_ (by simp <;> omega) _ | refine balloc ?_ _ | refine Below.drew ?_ | refine bdrewN ?_ _)))
  go_enter Try.func7, Try.ntmps7
  go_wp2_with fail
  refine (S0.out _).mono ?_
  rintro e w1 ⟨rfl, hb1⟩
  have E1 := Lib.hid (ownE_below E0.out hb1)
  have B1 := Lib.hid (bstep B0.out hb1)
  clear hb1
  obtain ⟨⟨q0, q1, q2, q3, q4, q5⟩, el⟩ := E1.out
  go_wp2_with fail
  refine (S1.out _ B1.out).mono ?_
  rintro e w2 ⟨rfl, hb2⟩
  clear q0 q1 q2 q3 q4 q5 el
  have E2 := Lib.hid (ownE_alloc (ownE_below E1.out hb2) (.cells #[.int .i64 a1, .int .i64 a2] 31))
  have ZA2 := Lib.hid (pair_new w2 a1 a2 31)
  have B2 := Lib.hid (balloc (bstep B1.out hb2) (.cells #[.int .i64 a1, .int .i64 a2] 31))
  clear hb2
  obtain ⟨⟨q0, q1, q2, q3, q4, q5⟩, el⟩ := E2.out
  go_wp2_with fail
  refine (S2.out _ B2.out).mono ?_
  rintro e w3 ⟨rfl, hb3⟩
  clear q0 q1 q2 q3 q4 q5 el
  have E3 := Lib.hid (ownE_alloc (ownE_below E2.out hb3) (.cells #[.int .i64 b1, .int .i64 b2] 31))
  have ZA3 := Lib.hid (pair_alloc (pair_below ZA2.out hb3) (.cells #[.int .i64 b1, .int .i64 b2] 31))
  have ZB3 := Lib.hid (pair_new w3 b1 b2 31)
  have B3 := Lib.hid (balloc (bstep B2.out hb3) (.cells #[.int .i64 b1, .int .i64 b2] 31))
  clear hb3
  go_upto_region 7 with fail
  generalize w3.alloc (.cells #[.int .i64 b1, .int .i64 b2] 31) = wq at *
  have heb : w.heap.size < wq.heap.size := E3.out.2
  have R0' := Lib.hid (lstU_below R0.out B3.out)
  have R1' := Lib.hid (lstU_below R1.out B3.out)
  clear R0 R1
  have R0 := R0'
  have R1 := R1'
  clear R0' R1' E0 E1 E2 B0 B1 B2 ZA2 S0 S1 S2
  go_cut [11, 12] (fun t11 t12 wx => ∃ b8 : Nat, t11 = .pointer (some ⟨b8, 0, none⟩) ∧ t12 = .int .i64 0 ∧ Pair wx b8 g1 g2 ∧ Below wq.heap.size wq wx)
  case first =>
    have UN := Lib.hid (show JNB wq wq w.heap.size x s t d from ⟨Below.refl _ _, E3.out⟩)
    have M0 := Lib.hid (show (wq.alloc (.cells #[] 27)).ownsRow wq.heap.size 27 11 (.slice (some ⟨wq.heap.size, 0, none⟩) 0 0) 0 (pucs Q 0) from World.ownsRow_lit (base := wq.heap.size) (e := 27) (size := 11) wq #[] 0 (Nat.le_refl _) (by decide) rfl)
    have M1 := Lib.hid (show ((wq.alloc (.cells #[.int .i64 0, .int .i64 0] 31)).alloc (.cells #[] 27)).ownsRow wq.heap.size 27 11 (.slice (some ⟨wq.heap.size + 1, 0, none⟩) 0 0) 0 (pucs Q 0) by
      have z := World.ownsRow_lit (base := wq.heap.size) (e := 27) (size := 11) (wq.alloc (.cells #[.int .i64 0, .int .i64 0] 31)) #[] 0 (by simp) (by decide) rfl
      simp only [World.size_alloc] at z
      exact z)
    have SJ := Lib.hid (fun v W => SJ.out v W wq)
    go_region_held3 (fun w' => (w'.cell? ⟨w.heap.size, 0, none⟩ = some (.int .i64 x.1) ∧ w'.cell? ⟨w.heap.size, 1, none⟩ = some (.int .i64 x.2.1) ∧ w'.cell? ⟨w.heap.size, 2, none⟩ = some (.int .i64 x.2.2) ∧ w'.cell? ⟨w.heap.size, 3, none⟩ = some (.int .i64 s) ∧ w'.cell? ⟨w.heap.size, 4, none⟩ = some (.int .i64 t) ∧ w'.cell? ⟨w.heap.size, 5, none⟩ = some (.int .i64 d)) ∧ JNB wq w' w.heap.size x s t d)
      (first | with_reducible exact j_of (j_drew UN.out) | with_reducible exact j_of (j_drew (j_alloc UN.out _)) | with_reducible exact j_of (j_drew (j_alloc (j_alloc UN.out _) _)) | with_reducible exact j_of HU.out | with_reducible exact j_of (j_alloc HU.out _) | with_reducible exact j_of UN4.out | with_reducible exact j_of (j_alloc UN4.out _) | (with_reducible refine j_of (j_put UN4.out heb ?_); first | exact Nat.le_refl _ | exact Nat.le_succ _ | omega | (simp; done) | (simp <;> omega)))
      (first | ((refine step_jn (wr := wq) (eb := w.heap.size) (x := x) (s := s) (t := t) (d := d) (v := .slice (some ⟨wq.heap.size, 0, none⟩) 0 0) (n := 0) (Q := Q) rfl (.tmp 67) (.tmp 68) rfl (by simp [Act.eval]) a n c (by simp [Act.eval]) (by first | exact World.ownsRow.drew M0.out | exact World.ownsRow.drew (M0.out.alloc _)) (j_un (by assumption)) heb Q R0.out (by omega) ?_); intro va wa hO hU hZ1; have OW := Lib.hid hO; have HU := Lib.hid hU; have HZ1 := Lib.hid hZ1; have hs1 := hU.1.size; clear hO hU hZ1) | ((refine step_jn (wr := wq) (eb := w.heap.size) (x := x) (s := s) (t := t) (d := d) (v := .slice (some ⟨wq.heap.size + 1, 0, none⟩) 0 0) (n := 0) (Q := Q) rfl (.tmp 67) (.tmp 68) rfl (by simp [Act.eval]) a n c (by simp [Act.eval]) (by first | exact World.ownsRow.drew M1.out) (j_un (by assumption)) heb Q R0.out (by omega) ?_); intro va wa hO hU hZ1; have OW := Lib.hid hO; have HU := Lib.hid hU; have HZ1 := Lib.hid hZ1; have hs1 := hU.1.size; clear hO hU hZ1) | ((refine step_jn (wr := wq) (eb := w.heap.size) (x := x) (s := s) (t := t) (d := d) (v := va) (n := 0 + n) (Q := JQ Q 0 Q) rfl (.tmp 69) (.tmp 70) rfl (by simp [Act.eval]) a' m c' (by simp [Act.eval]) (by first | exact OW.out | exact OW.out.alloc _) (j_un (by assumption)) heb Q' R1.out (by omega) ?_); intro vb wb hL hU hZ2; have LL := Lib.hid hL; have HU := Lib.hid hU; have HZ2 := Lib.hid hZ2; have hs2 := hU.1.size; clear hL hU hZ2) | (go_at_call 12; (refine (SJ.out _ _ (by first | exact LL.out | exact LL.out.alloc _)).mono ?_); rintro e w4 ⟨rfl, hb4⟩; have hs4 := hb4.size; have UN4 := Lib.hid (j_below (j_un (by assumption)) hb4); have HB4 := Lib.hid hb4; clear hb4; (first | ((with_reducible refine z8_use (z8_below (HZ2.out _ (HZ1.out _ (z8_drew (z8_alloc (z8_new _) _)))) HB4.out) ?_); rintro ⟨za, zb, zc, zd, ze⟩; (try simp only [World.size_alloc] at za zb zc zd ze)) | ((with_reducible refine z8_use (z8_below (HZ2.out _ (HZ1.out _ (z8_drew (z8_new _)))) HB4.out) ?_); rintro ⟨za, zb, zc, zd, ze⟩; (try simp only [World.size_alloc] at za zb zc zd ze)) | ((with_reducible refine z8_use (z8_below (HZ2.out _ (z8_new _)) HB4.out) ?_); rintro ⟨za, zb, zc, zd, ze⟩; (try simp only [World.size_alloc] at za zb zc zd ze)) | ((with_reducible refine z8_use (z8_below (z8_new _) HB4.out) ?_); rintro ⟨za, zb, zc, zd, ze⟩; (try simp only [World.size_alloc] at za zb zc zd ze)) | skip)) | fail)
    all_goals
      go_wp2
      go_meet
      first | exact ⟨_, rfl, rfl, pair_new _ _ _ _, balloc UN4.out.1 _⟩ | exact ⟨_, rfl, rfl, pair_put8 ⟨za, zb, zc, zd, ze⟩ _ _, pair_set2 UN4.out.1 (hs2)⟩ | exact ⟨_, rfl, rfl, pair_put8 ⟨za, zb, zc, zd, ze⟩ _ _, pair_set2 UN4.out.1 (hs1)⟩ | exact ⟨_, rfl, rfl, pair_put8 ⟨za, zb, zc, zd, ze⟩ _ _, pair_set2 UN4.out.1 (Nat.le_refl _)⟩ | exact ⟨_, rfl, rfl, pair_put8 ⟨za, zb, zc, zd, ze⟩ _ _, pair_set2 UN4.out.1 (Nat.le_succ _)⟩ | exact ⟨_, rfl, rfl, pair_put8 ⟨za, zb, zc, zd, ze⟩ _ _, pair_set2 UN4.out.1 (by omega)⟩
  case rest =>
    obtain ⟨b8, rfl, rfl, hP, hB⟩ := hcut
    have ZAc := Lib.hid (pair_below ZA3.out hB)
    have ZBc := Lib.hid (pair_below ZB3.out hB)
    have Ec := Lib.hid (ownE_below E3.out hB)
    have BC := Lib.hid hB
    have P8 := Lib.hid hP
    clear hB hP ZA3 ZB3 E3 SJ
    obtain ⟨p0, p1, p2, p3, pl⟩ := ZAc.out
    obtain ⟨u0, u1, u2, u3, ul⟩ := ZBc.out
    go_wp2_with fail
    refine (AA.out _).mono ?_
    rintro e w5 ⟨rfl, hb5⟩
    clear p0 p1 p2 p3 pl u0 u1 u2 u3 ul
    obtain ⟨p0, p1, p2, p3, pl⟩ := pair_alloc (pair_below P8.out hb5) (.cells #[.int .i64 g1, .int .i64 g2] 31)
    obtain ⟨u0, u1, u2, u3, ul⟩ := pair_new w5 g1 g2 31
    have Z6 := Lib.hid (pair_alloc (pair_below ZAc.out hb5) (.cells #[.int .i64 g1, .int .i64 g2] 31))
    have E6 := Lib.hid (ownE_alloc (ownE_below Ec.out hb5) (.cells #[.int .i64 g1, .int .i64 g2] 31))
    have B6 := Lib.hid (balloc (bstep BC.out hb5) (.cells #[.int .i64 g1, .int .i64 g2] 31))
    clear hb5 ZAc ZBc Ec BC P8 AA
    go_wp2
    clear p0 p1 p2 p3 pl u0 u1 u2 u3 ul
    generalize (w5.alloc (.cells #[.int .i64 g1, .int .i64 g2] 31)) = w6 at *
    obtain ⟨i0, hi, hz0, hz1, hz2⟩ := info_parts infoPu8
    have HI := Lib.hid hi
    have HZ0 := Lib.hid hz0
    have HZ1 := Lib.hid hz1
    have HZ2 := Lib.hid hz2
    clear hi hz0 hz1 hz2
    have hn16 : (n : Int) ≤ 16 := by omega
    have sz6 := B6.out.size
    go_loopw [15, 16] (fun sv kv wz => ∃ k : Nat, k ≤ n ∧ kv = .int .i64 k ∧ wz.ownsRow w6.heap.size 27 11 sv k (pucs (NQ Q) k) ∧ Below w6.heap.size w6 wz) (fun _ kv _ => n - (intOf kv).toNat)
    case atStart => exact ⟨0, Nat.zero_le _, rfl, World.ownsRow_nil _ _ _ _, Below.refl _ _⟩
    case round =>
      obtain ⟨k, hk, rfl, how, hbb⟩ := hrel
      have ROWd := Lib.hid how
      have BB := Lib.hid hbb
      clear how hbb
      have szw := BB.out.size
      by_cases hlt : k < n
      · have hk1 : (k : Int) < (n : Int) := by omega
        obtain ⟨b, off, rfl, rw0⟩ := R0.out (show 0 < n by omega)
        have hbl : b < wq.heap.size := rw0.1
        have RB := Lib.hid (rowU_in (rowU_in rw0 B6.out hbl) BB.out (by omega))
        have HQk := HQ.out k hlt
        have GS := Lib.hid (show pucs (NQ Q) (k + 1) = pucs (NQ Q) k ++ pucl ((Q k).1, (Q k).2.1, -(Q k).2.2) from rfl)
        have hbr : b < wr.heap.size := RB.out.1
        obtain ⟨c0, c1, c2, c3, c4, c5, c6, c7, c8, c9, c10⟩ := RB.out.2 k hlt
        generalize Q k = q at *
        obtain ⟨hq1, hq2⟩ := HQk
        clear rw0 RB
        go_wp2_with (at_builtin; (refine wpList_append_own _ rfl _ _ 37 rfl w6.heap.size 27 i0 (.agg #[.int .i64 0, .int .i64 0, .int .i64 0, .int .i64 0, .int .i64 0, .int .i64 0, .int .i64 0, .int .i64 0, .int .i64 0, .int .i64 0, .int .i64 0]) 11 88 Try.underlying37 HI.out HZ0.out HZ1.out HZ2.out rfl (by decide) _ k (pucs (NQ Q) k) rfl (World.ownsRow.alloc (ROWd.out.alloc _) _) ⟨_, 0, none⟩ 1 1 (pucl (q.1, q.2.1, -q.2.2)) rfl rfl (pu_new8' _ _ _ _ (by simp)) (pucl_one _) (by unfold maxLen; omega) (by omega) (by simp; omega) ?_); intro v' w7 hown' hgrow _; have OW := Lib.hid hown'; have GR := Lib.hid hgrow; clear hown' hgrow)
        have BG := Lib.hid (BB.out.trans ((((Below.refl w6.heap.size _).alloc (by omega) _).alloc (by simp; omega) _).grown GR.out (by simp; omega) (fun gg hg => (ROWd.out.lt gg hg).1)))
        go_roundw
        case rel => exact ⟨k + 1, by omega, by go_num, by rw [GS.out]; exact OW.out, BG.out⟩
        case measure => simp [intOf]; omega
      · obtain rfl : k = n := by omega
        have EZ := Lib.hid (ownE_in E6.out BB.out E6.out.2)
        have ZZ := Lib.hid (pair_in Z6.out BB.out Z6.out.2.2.2.2)
        have BW := Lib.hid (B3.out.trans ((B6.out.trans (BB.out.mono sz6)).mono B3.out.size))
        have OZ := Lib.hid (own_base9 ROWd.out (Nat.zero_le _))
        obtain ⟨⟨q0, q1, q2, q3, q4, q5⟩, el⟩ := EZ.out
        clear HI HZ0 HZ1 HZ2 ROWd E6 Z6 B6
        go_wp2_with fail
        refine (SN.out _ _ OZ.out).mono ?_
        rintro e w8 ⟨rfl, hb8⟩
        clear q0 q1 q2 q3 q4 q5 el
        obtain ⟨p0, p1, p2, p3, pl⟩ := pair_alloc (pair_below ZZ.out hb8) (.cells #[.int .i64 (-a2), .int .i64 (-a1)] 31)
        obtain ⟨u0, u1, u2, u3, ul⟩ := pair_new w8 (-a2) (-a1) 31
        have B9 := Lib.hid (balloc (bstep BW.out hb8) (.cells #[.int .i64 (-a2), .int .i64 (-a1)] 31))
        obtain ⟨v1, v2, v3, v4⟩ := HV.out
        go_wp2_with fail
        refine (K.out _).mono ?_
        rintro e w10 ⟨rfl, hb10⟩
        go_wp2
        go_ret
        exact ⟨rfl, bstep B9.out hb10⟩
theorem joins_walk (a : Option Addr) (n c : Nat) (Q : Nat → Pu) (a' : Option Addr) (m c' : Nat) (Q' : Nat → Pu) (x : P3) (s t d : Int) (w : World) (hm : n ≤ maxLen) (_ : a = none → c = 0) (r : LstU w a n Q) (hm' : m ≤ maxLen) (_ : a' = none → c' = 0) (r' : LstU w a' m Q') : Calls Try.prog 7 #[.slice a n c, .slice a' m c', earv x s t d] w fun e w' => e = .returned (.bool true) ∧ Below w.heap.size w w' := by
  have hm : n ≤ 9223372036854775807 := hm
  have hm' : m ≤ 9223372036854775807 := hm'
  have K := Lib.hid fun W => sane_any W
  obtain ⟨nm, hw⟩ : ∃ nm, IntKind.i64.wrap ((n : Int) + (m : Int)) = nm := ⟨_, rfl⟩
  by_cases h1 : 16 < nm
  · exact joins_big a n c a' m c' x s t d w nm hw h1 K
  have S0 := fun W => small_any x 256 W (by decide) (by decide)
  cases hx : inP 256 x with
  | false => rw [hx] at S0; exact joins_far a n c a' m c' x s t d w nm hw (decide_eq_false h1) (Lib.hid S0) K
  | true =>
    rw [hx] at S0
    have S1 := Lib.hid fun W (B : Below w.heap.size w W) => scn_all a n c Q x s t d W (lstU_below r B) hm
    have S2 := Lib.hid fun W (B : Below w.heap.size w W) => scn_all a' m c' Q' x s t d W (lstU_below r' B) hm'
    have LN := scn_len n Q x s t d
    have LM := scn_len m Q' x s t d
    have JF := fun hnm e e' => joins_fact (n := n) (m := m) (Q := Q) (Q' := Q') (x := x) (s := s) (t := t) (d := d) hnm e e'
    have JB := scn_bd n Q x s t d
    have JC := scn_code n Q x s t d
    have SJ := fun v W (wq : World) (hnm : n + m ≤ 16) (ho : W.ownsRow wq.heap.size 27 11 v (0 + n + m) (pucs (JQ (JQ Q 0 Q) (0 + n) Q') (0 + n + m))) => (by
      have e1 : JQ (JQ Q 0 Q) (0 + n) Q' = JQ Q n Q' := by
        funext k
        unfold JQ
        rw [Nat.zero_add]
        by_cases h : k < n
        · rw [if_pos h, if_pos h, if_neg (Nat.not_lt_zero k), Nat.sub_zero]
        · rw [if_neg h, if_neg h]
      rw [e1, Nat.zero_add] at ho
      obtain ⟨a8, c8, rfl, l8⟩ := lst_of_pu (own_base9 ho (Nat.zero_le _))
      exact scn_any a8 (n + m) c8 (JQ Q n Q') x s t d W l8 (by omega) : Calls Try.prog 12 #[v, ptv x, .int .i64 s, .int .i64 t, .int .i64 d] W fun e w' => e = .returned (spr (scnR (n + m) (JQ Q n Q') x s t d)) ∧ Below W.heap.size W w')
    have SN := fun v W (l1 : n ≤ 16) (ho : World.ownsRow W 0 27 11 v n (pucs (NQ Q) n)) => (by
      obtain ⟨a8, c8, rfl, l8⟩ := lst_of_pu ho
      exact scn_any a8 n c8 (NQ Q) x s t d W l8 (by omega) : Calls Try.prog 12 #[v, ptv x, .int .i64 s, .int .i64 t, .int .i64 d] W fun e w' => e = .returned (spr (scnR n (NQ Q) x s t d)) ∧ Below W.heap.size W w')
    generalize scnR n Q x s t d = A at *
    generalize scnR m Q' x s t d = B at *
    obtain ⟨⟨a1, a2⟩, ea⟩ := A
    obtain ⟨⟨b1, b2⟩, eb⟩ := B
    by_cases z1 : ea = 0
    · subst z1
      by_cases z2 : eb = 0
      · subst z2
        have l1 := LN rfl
        have l2 := LM rfl
        have e0 : IntKind.i64.wrap ((n : Int) + (m : Int)) = (n : Int) + (m : Int) := IntWalk.i64_in _ (by omega)
        have hnm : n + m ≤ 16 := by omega
        have SJ := fun v W wq ho => SJ v W wq hnm ho
        have SN := fun v W ho => SN v W l1 ho
        obtain ⟨j1, j2, j3⟩ := JF hnm rfl rfl
        have AA := fun W => add_any a1 a2 b1 b2 W
        rw [j3] at SN
        have j1 : scnR (n + m) (JQ Q n Q') x s t d = Sp.addR a1 a2 b1 b2 := j1
        rw [← j1] at AA
        generalize scnR (n + m) (JQ Q n Q') x s t d = G at *
        obtain ⟨⟨g1, g2⟩, ge⟩ := G
        have j2 : ge = 0 := j2
        subst j2
        exact joins_ok a n c a' m c' x s t d Q Q' a1 a2 b1 b2 g1 g2 w nm hw (decide_eq_false h1) hnm (Lib.hid S0) S1 S2 r r' (JC rfl) (JB rfl) (Lib.hid SJ) (Lib.hid AA) (Lib.hid SN) K
      · exact joins_eb a n c a' m c' x s t d a1 a2 b1 b2 eb w nm hw (decide_eq_false h1) (bne_iff_ne.2 z2) (Lib.hid S0) S1 S2 K
    · exact joins_ea a n c a' m c' x s t d a1 a2 b1 b2 ea eb w nm hw (decide_eq_false h1) (bne_iff_ne.2 z1) (Lib.hid S0) S1 S2 K

end Go.Proofs.Ytemchbdlckcmkaa
