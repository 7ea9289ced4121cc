/-
  The contracts of what a microphone checks, of First, Last and Travel, in the program and in the document's answer.
-/
import Derived.Test.YtlegalibjkeccaaSo3
namespace Go.Proofs.Ytlegalibjkeccaa
open Go.ChangeShapes Go.WideShapes Go.RowKit
open Sh
/-- ticks in memory -/
def LstT (w : World) (a : Option Addr) (n : Nat) (T : Nat → Int) : Prop := 0 < n → ∃ b off, a = some ⟨b, off, none⟩ ∧ b < w.heap.size ∧ ∀ k, k < n → w.cell? ⟨b, off + k, none⟩ = some (.int .i64 (T k))
def tcode (T : Nat → Int) : Nat → Int
  | 0 => 0
  | k + 1 => if tcode T k = 0 then (if rngB (T k) 0 2000 then 0 else 1) else 1
theorem tcode_no {T : Nat → Int} {k : Nat} (h : rngB (T k) 0 2000 = false) : ∀ {n : Nat}, k < n → tcode T n = 1
  | 0, hk => absurd hk (Nat.not_lt_zero k)
  | n + 1, hk => by
    show (if tcode T n = 0 then _ else _) = _
    by_cases e : k = n
    · subst e
      rw [h]
      by_cases z : tcode T k = 0
      · rw [if_pos z]; rfl
      · rw [if_neg z]
    · rw [tcode_no h (n := n) (by omega), if_neg (by decide)]
theorem tcode_yes {T : Nat → Int} : ∀ {n : Nat}, (∀ k, k < n → rngB (T k) 0 2000 = true) → tcode T n = 0
  | 0, _ => rfl
  | n + 1, h => by
    show (if tcode T n = 0 then _ else _) = _
    rw [tcode_yes fun k hk => h k (by omega), if_pos rfl, h n (by omega)]
    rfl
/-- the error of a microphone: of the pulses, of itself, of the ticks -/
def mcode8 (vc : Int) (x : P3) (s d : Int) (tc : Int) : Int := if vc = 0 then (if inP 256 x && (rngB s 1 16 && rngB d 0 3) then tc else 1) else vc
theorem mck_v (x : P3) (s d : Int) (a : Option Addr) (n cap : Nat) (ta : Option Addr) (tn tc : Nat) (c : Int) (w : World) (V : Hid (∀ W, Below w.heap.size w W → Calls Try.prog 16 #[.slice a n cap] W fun e w' => e = .returned (.int .i64 c) ∧ Below W.heap.size W w')) (z : (c != 0) = true) : Calls Try.prog 21 #[micv x s d, .slice a n cap, .slice ta tn tc] w fun e w' => e = .returned (.int .i64 c) ∧ Below w.heap.size w w' := by
  go_enter Try.func21, Try.ntmps21
  go_wp2_with fail
  refine (V.out _ (balloc (Below.refl _ w) _)).mono ?_
  rintro e w1 ⟨rfl, hb1⟩
  have M1 := ownMic_below (ownMic_new w x s d 44) hb1
  obtain ⟨⟨m0, m1, m2, m3, m4⟩, ml⟩ := M1
  go_wp2
  go_ret
  exact ⟨rfl, by (repeat' (first | exact Below.refl _ _ | refine bstep ?_ hb1 | refine Below.setCell ?_ (by simp <;> omega) _ | refine balloc ?_ _ | refine Below.drew ?_ | refine bdrewN ?_ _))⟩
theorem mck_l (x : P3) (s d : Int) (a : Option Addr) (n cap : Nat) (ta : Option Addr) (tn tc : Nat) (w : World) (V : Hid (∀ W, Below w.heap.size w W → Calls Try.prog 16 #[.slice a n cap] W fun e w' => e = .returned (.int .i64 0) ∧ Below W.heap.size W w')) (L : Hid (∀ W, Calls Try.prog 30 #[ptv x] W fun e w' => e = .returned (.bool false) ∧ Below W.heap.size W w')) : Calls Try.prog 21 #[micv x s d, .slice a n cap, .slice ta tn tc] w fun e w' => e = .returned (.int .i64 1) ∧ Below w.heap.size w w' := by
  go_enter Try.func21, Try.ntmps21
  go_wp2_with fail
  refine (V.out _ (balloc (Below.refl _ w) _)).mono ?_
  rintro e w1 ⟨rfl, hb1⟩
  have M1 := ownMic_below (ownMic_new w x s d 44) hb1
  obtain ⟨⟨m0, m1, m2, m3, m4⟩, ml⟩ := M1
  go_wp2_with fail
  refine (L.out _).mono ?_
  rintro e w2 ⟨rfl, hb2⟩
  obtain ⟨⟨n0, n1, n2, n3, n4⟩, nl⟩ := ownMic_below ⟨⟨m0, m1, m2, m3, m4⟩, ml⟩ hb2
  clear m0 m1 m2 m3 m4 ml
  go_wp2
  go_ret
  exact ⟨rfl, by (repeat' (first | exact Below.refl _ _ | refine bstep ?_ hb2 | refine bstep ?_ hb1 | refine Below.setCell ?_ (by simp <;> omega) _ | refine balloc ?_ _ | refine Below.drew ?_ | refine bdrewN ?_ _))⟩
theorem mck_s (x : P3) (s d : Int) (a : Option Addr) (n cap : Nat) (ta : Option Addr) (tn tc : Nat) (w : World) (V : Hid (∀ W, Below w.heap.size w W → Calls Try.prog 16 #[.slice a n cap] W fun e w' => e = .returned (.int .i64 0) ∧ Below W.heap.size W w')) (L : Hid (∀ W, Calls Try.prog 30 #[ptv x] W fun e w' => e = .returned (.bool true) ∧ Below W.heap.size W w')) (S : Hid (∀ W, Calls Try.prog 31 #[.int .i64 s] W fun e w' => e = .returned (.bool false) ∧ W = w')) : Calls Try.prog 21 #[micv x s d, .slice a n cap, .slice ta tn tc] w fun e w' => e = .returned (.int .i64 1) ∧ Below w.heap.size w w' := by
  go_enter Try.func21, Try.ntmps21
  go_wp2_with fail
  refine (V.out _ (balloc (Below.refl _ w) _)).mono ?_
  rintro e w1 ⟨rfl, hb1⟩
  have M1 := ownMic_below (ownMic_new w x s d 44) hb1
  obtain ⟨⟨m0, m1, m2, m3, m4⟩, ml⟩ := M1
  go_wp2_with fail
  refine (L.out _).mono ?_
  rintro e w2 ⟨rfl, hb2⟩
  obtain ⟨⟨n0, n1, n2, n3, n4⟩, nl⟩ := ownMic_below ⟨⟨m0, m1, m2, m3, m4⟩, ml⟩ hb2
  clear m0 m1 m2 m3 m4 ml
  go_wp2_with fail
  refine (S.out _).mono ?_
  rintro e w3 ⟨rfl, rfl⟩
  go_wp2
  go_ret
  exact ⟨rfl, by (repeat' (first | exact Below.refl _ _ | refine bstep ?_ hb2 | refine bstep ?_ hb1 | refine Below.setCell ?_ (by simp <;> omega) _ | refine balloc ?_ _ | refine Below.drew ?_ | refine bdrewN ?_ _))⟩
theorem mck_d (x : P3) (s d : Int) (a : Option Addr) (n cap : Nat) (ta : Option Addr) (tn tc : Nat) (w : World) (V : Hid (∀ W, Below w.heap.size w W → Calls Try.prog 16 #[.slice a n cap] W fun e w' => e = .returned (.int .i64 0) ∧ Below W.heap.size W w')) (L : Hid (∀ W, Calls Try.prog 30 #[ptv x] W fun e w' => e = .returned (.bool true) ∧ Below W.heap.size W w')) (S : Hid (∀ W, Calls Try.prog 31 #[.int .i64 s] W fun e w' => e = .returned (.bool true) ∧ W = w')) (D : Hid (∀ W, Calls Try.prog 37 #[.int .i64 d, .int .i64 0, .int .i64 3] W fun e w' => e = .returned (.bool false) ∧ W = w')) : Calls Try.prog 21 #[micv x s d, .slice a n cap, .slice ta tn tc] w fun e w' => e = .returned (.int .i64 1) ∧ Below w.heap.size w w' := by
  go_enter Try.func21, Try.ntmps21
  go_wp2_with fail
  refine (V.out _ (balloc (Below.refl _ w) _)).mono ?_
  rintro e w1 ⟨rfl, hb1⟩
  have M1 := ownMic_below (ownMic_new w x s d 44) hb1
  obtain ⟨⟨m0, m1, m2, m3, m4⟩, ml⟩ := M1
  go_wp2_with fail
  refine (L.out _).mono ?_
  rintro e w2 ⟨rfl, hb2⟩
  obtain ⟨⟨n0, n1, n2, n3, n4⟩, nl⟩ := ownMic_below ⟨⟨m0, m1, m2, m3, m4⟩, ml⟩ hb2
  clear m0 m1 m2 m3 m4 ml
  go_wp2_with fail
  refine (S.out _).mono ?_
  rintro e w3 ⟨rfl, rfl⟩
  go_wp2_with fail
  refine (D.out _).mono ?_
  rintro e w4 ⟨rfl, rfl⟩
  go_wp2
  go_ret
  exact ⟨rfl, by (repeat' (first | exact Below.refl _ _ | refine bstep ?_ hb2 | refine bstep ?_ hb1 | refine Below.setCell ?_ (by simp <;> omega) _ | refine balloc ?_ _ | refine Below.drew ?_ | refine bdrewN ?_ _))⟩
theorem mck_z (x : P3) (s d : Int) (a : Option Addr) (n cap : Nat) (ta : Option Addr) (tc : Nat) (w : World) (V : Hid (∀ W, Below w.heap.size w W → Calls Try.prog 16 #[.slice a n cap] W fun e w' => e = .returned (.int .i64 0) ∧ Below W.heap.size W w')) (L : Hid (∀ W, Calls Try.prog 30 #[ptv x] W fun e w' => e = .returned (.bool true) ∧ Below W.heap.size W w')) (S : Hid (∀ W, Calls Try.prog 31 #[.int .i64 s] W fun e w' => e = .returned (.bool true) ∧ W = w')) (D : Hid (∀ W, Calls Try.prog 37 #[.int .i64 d, .int .i64 0, .int .i64 3] W fun e w' => e = .returned (.bool true) ∧ W = w')) : Calls Try.prog 21 #[micv x s d, .slice a n cap, .slice ta 0 tc] w fun e w' => e = .returned (.int .i64 0) ∧ Below w.heap.size w w' := by
  go_enter Try.func21, Try.ntmps21
  go_wp2_with fail
  refine (V.out _ (balloc (Below.refl _ w) _)).mono ?_
  rintro e w1 ⟨rfl, hb1⟩
  have M1 := ownMic_below (ownMic_new w x s d 44) hb1
  obtain ⟨⟨m0, m1, m2, m3, m4⟩, ml⟩ := M1
  go_wp2_with fail
  refine (L.out _).mono ?_
  rintro e w2 ⟨rfl, hb2⟩
  obtain ⟨⟨n0, n1, n2, n3, n4⟩, nl⟩ := ownMic_below ⟨⟨m0, m1, m2, m3, m4⟩, ml⟩ hb2
  clear m0 m1 m2 m3 m4 ml
  go_wp2_with fail
  refine (S.out _).mono ?_
  rintro e w3 ⟨rfl, rfl⟩
  go_wp2_with fail
  refine (D.out _).mono ?_
  rintro e w4 ⟨rfl, rfl⟩
  go_wp2
  refine wp_loop_rounds 1 ?_
  rw [rounds_succ]
  go_wp2
  go_ret
  exact ⟨rfl, by (repeat' (first | exact Below.refl _ _ | refine bstep ?_ hb2 | refine bstep ?_ hb1 | refine Below.setCell ?_ (by simp <;> omega) _ | refine balloc ?_ _ | refine Below.drew ?_ | refine bdrewN ?_ _))⟩
set_option maxHeartbeats 1000000 in
theorem mck_r (x : P3) (s d : Int) (a : Option Addr) (n cap : Nat) (b off : Nat) (tn tc : Nat) (T : Nat → Int) (w : World) (V : Hid (∀ W, Below w.heap.size w W → Calls Try.prog 16 #[.slice a n cap] W fun e w' => e = .returned (.int .i64 0) ∧ Below W.heap.size W w')) (L : Hid (∀ W, Calls Try.prog 30 #[ptv x] W fun e w' => e = .returned (.bool true) ∧ Below W.heap.size W w')) (S : Hid (∀ W, Calls Try.prog 31 #[.int .i64 s] W fun e w' => e = .returned (.bool true) ∧ W = w')) (D : Hid (∀ W, Calls Try.prog 37 #[.int .i64 d, .int .i64 0, .int .i64 3] W fun e w' => e = .returned (.bool true) ∧ W = w')) (hb : b < w.heap.size) (ht : ∀ k, k < tn → w.cell? ⟨b, off + k, none⟩ = some (.int .i64 (T k))) (h0 : 0 < tn) (hn : tn ≤ 100) : Calls Try.prog 21 #[micv x s d, .slice a n cap, .slice (some ⟨b, off, none⟩) tn tc] w fun e w' => e = .returned (.int .i64 (tcode T tn)) ∧ Below w.heap.size w w' := by
  have HT := Lib.hid ht
  have hn' : (tn : Int) ≤ 100 := by omega
  have NO := Lib.hid (fun k (hk : k < tn) (h : rngB (T k) 0 2000 = false) => tcode_no h hk)
  have YES := Lib.hid (fun (h : ∀ k, k < tn → rngB (T k) 0 2000 = true) => tcode_yes h)
  generalize tcode T tn = res at *
  clear ht
  go_enter Try.func21, Try.ntmps21
  go_wp2_with fail
  refine (V.out _ (balloc (Below.refl _ w) _)).mono ?_
  rintro e w1 ⟨rfl, hb1⟩
  have M1 := ownMic_below (ownMic_new w x s d 44) hb1
  obtain ⟨⟨m0, m1, m2, m3, m4⟩, ml⟩ := M1
  go_wp2_with fail
  refine (L.out _).mono ?_
  rintro e w2 ⟨rfl, hb2⟩
  obtain ⟨⟨n0, n1, n2, n3, n4⟩, nl⟩ := ownMic_below ⟨⟨m0, m1, m2, m3, m4⟩, ml⟩ hb2
  clear m0 m1 m2 m3 m4 ml
  go_wp2_with fail
  refine (S.out _).mono ?_
  rintro e w3 ⟨rfl, rfl⟩
  go_wp2_with fail
  refine (D.out _).mono ?_
  rintro e w4 ⟨rfl, rfl⟩
  have BB := Lib.hid (show Below w.heap.size w w2 by (repeat' (first | exact Below.refl _ _ | refine bstep ?_ hb2 | refine bstep ?_ hb1 | refine Below.setCell ?_ (by simp <;> omega) _ | refine balloc ?_ _ | refine Below.drew ?_ | refine bdrewN ?_ _)))
  clear hb1 hb2 n0 n1 n2 n3 n4 nl V L S D
  go_wp2
  go_loopw [33] (fun kv wr => ∃ k : Nat, k ≤ tn ∧ kv = .int .i64 k ∧ wr = w2 ∧ ∀ j, j < k → rngB (T j) 0 2000 = true) (fun kv _ => tn - (intOf kv).toNat)
  case atStart => exact ⟨0, Nat.zero_le _, rfl, rfl, fun j hj => absurd hj (Nat.not_lt_zero j)⟩
  case round =>
    obtain ⟨k, hk, rfl, rfl, good⟩ := hrel
    have GOOD := Lib.hid good
    clear good
    by_cases hlt : k < tn
    · have hk1 : (k : Int) < (tn : Int) := by omega
      have c0 := (BB.out.cell (p := ⟨b, off + k, none⟩) hb).trans (HT.out k hlt)
      have I := Lib.hid (fun W => sir_any (T k) 0 2000 W)
      have NOk := Lib.hid (NO.out k hlt)
      have GG := Lib.hid (fun (h : rngB (T k) 0 2000 = true) (j : Nat) (hj : j < k + 1) => (if e : j = k then (by rw [e]; exact h) else GOOD.out j (by omega) : rngB (T j) 0 2000 = true))
      have hb3 : b < wr.heap.size := Nat.lt_of_lt_of_le hb BB.out.size
      generalize T k = t at *
      cases hr : rngB t 0 2000 with
      | true =>
        rw [hr] at I
        have GR := Lib.hid (GG.out hr)
        clear hr GG NOk
        go_wp2_with fail
        refine (I.out _).mono ?_
        rintro e w5 ⟨rfl, rfl⟩
        go_wp2
        go_roundw
        case rel => exact ⟨k + 1, by omega, by go_num, by first | rfl | trivial, GR.out⟩
        case measure => simp [intOf]; omega
      | false =>
        rw [hr] at I
        obtain rfl := NOk.out hr
        clear hr GG NOk
        go_wp2_with fail
        refine (I.out _).mono ?_
        rintro e w5 ⟨rfl, rfl⟩
        go_wp2
        go_ret
        exact ⟨rfl, BB.out⟩
    · obtain rfl : k = tn := by omega
      obtain rfl := YES.out GOOD.out
      go_wp2
      go_ret
      exact ⟨rfl, BB.out⟩
theorem mck_any (x : P3) (s d : Int) (a : Option Addr) (n cap : Nat) (ta : Option Addr) (tn tc : Nat) (Q : Nat → Pu) (T : Nat → Int) (w : World) (r : LstU w a n Q) (hn : n ≤ 140737488355328) (t : LstT w ta tn T) (ht : tn ≤ 100) : Calls Try.prog 21 #[micv x s d, .slice a n cap, .slice ta tn tc] w fun e w' => e = .returned (.int .i64 (mcode8 (vpcode n Q) x s d (tcode T tn))) ∧ Below w.heap.size w w' := by
  have V := fun W (B : Below w.heap.size w W) => svp_any a n cap Q W (lstU_below r B) hn
  have L := fun W => lis_any x W
  have S := fun W => spd_any s W
  have D := fun W => sir_any d 0 3 W
  unfold mcode8
  by_cases z : vpcode n Q = 0
  · rw [if_pos z]
    rw [z] at V
    cases h1 : inP 256 x with
    | false => rw [h1] at L; exact mck_l x s d a n cap ta tn tc w (Lib.hid V) (Lib.hid L)
    | true =>
      rw [h1] at L
      cases h2 : rngB s 1 16 with
      | false => rw [h2] at S; exact mck_s x s d a n cap ta tn tc w (Lib.hid V) (Lib.hid L) (Lib.hid S)
      | true =>
        rw [h2] at S
        cases h3 : rngB d 0 3 with
        | false => rw [h3] at D; exact mck_d x s d a n cap ta tn tc w (Lib.hid V) (Lib.hid L) (Lib.hid S) (Lib.hid D)
        | true =>
          rw [h3] at D
          by_cases z0 : tn = 0
          · subst z0
            exact mck_z x s d a n cap ta tc w (Lib.hid V) (Lib.hid L) (Lib.hid S) (Lib.hid D)
          · obtain ⟨b, off, rfl, hb, hc⟩ := t (by omega)
            exact mck_r x s d a n cap b off tn tc T w (Lib.hid V) (Lib.hid L) (Lib.hid S) (Lib.hid D) hb hc (by omega) ht
  · rw [if_neg z]
    exact mck_v x s d a n cap ta tn tc _ w (Lib.hid V) (bne_iff_ne.2 z)
theorem mcode8_ok {vc : Int} {x : P3} {s d tc : Int} (h : mcode8 vc x s d tc = 0) : vc = 0 ∧ BdP 256 x ∧ (1 ≤ s ∧ s ≤ 16) ∧ (0 ≤ d ∧ d ≤ 3) ∧ tc = 0 := by
  unfold mcode8 at h
  by_cases z : vc = 0
  · rw [if_pos z] at h
    cases e : (inP 256 x && (rngB s 1 16 && rngB d 0 3)) with
    | true =>
      rw [e, if_pos rfl] at h
      rw [Bool.and_eq_true, Bool.and_eq_true] at e
      exact ⟨z, inP_iff.1 e.1, rngB_iff.1 e.2.1, rngB_iff.1 e.2.2, h⟩
    | false => rw [e, if_neg Bool.false_ne_true] at h; exact absurd h (by decide)
  · rw [if_neg z] at h
    exact absurd h z
theorem dist_bd {t : P9} {x : P3} (h : BdT 64 t) (k : BdP 256 x) : (0 ≤ nearN t x ∧ nearN t x ≤ 307200) ∧ (0 ≤ farN t x ∧ farN t x ≤ 307200) := by
  have q : ∀ {a b : P3}, BdP 320 (sub a b) → 0 ≤ sq (sub a b) ∧ sq (sub a b) ≤ 307200 := fun {a b} h => by
    obtain ⟨h1, h2, h3, h4, h5, h6⟩ := h
    have x := mul_bd h1 h2 h1 h2
    have y := mul_bd h3 h4 h3 h4
    have z := mul_bd h5 h6 h5 h6
    have x0 := sq_pos' (sub a b).1
    have y0 := sq_pos' (sub a b).2.1
    have z0 := sq_pos' (sub a b).2.2
    unfold sq dot
    omega
  have n := q (sub_bd k (inbox_bd (x := x) h))
  have f1 := q (sub_bd h.1 k)
  have f2 := q (sub_bd h.2.1 k)
  have f3 := q (sub_bd h.2.2 k)
  refine ⟨n, ?_⟩
  unfold farN hi3' Sp.mx
  (repeat' split) <;> omega
theorem fs_keep {W : World} {bm bp : Nat} {x : P3} {s d : Int} {p : Pu} (h : OwnMic W bm x s d) (k : OwnPu W bp p) : W.cell? ⟨bm, 0, none⟩ = some (.int .i64 x.1) ∧ W.cell? ⟨bm, 1, none⟩ = some (.int .i64 x.2.1) ∧ W.cell? ⟨bm, 2, none⟩ = some (.int .i64 x.2.2) ∧ W.cell? ⟨bm, 3, none⟩ = some (.int .i64 s) ∧ W.cell? ⟨bp, 0, none⟩ = some (.int .i64 p.1.1.1) ∧ W.cell? ⟨bp, 1, none⟩ = some (.int .i64 p.1.1.2.1) ∧ W.cell? ⟨bp, 2, none⟩ = some (.int .i64 p.1.1.2.2) ∧ W.cell? ⟨bp, 3, none⟩ = some (.int .i64 p.1.2.1.1) ∧ W.cell? ⟨bp, 4, none⟩ = some (.int .i64 p.1.2.1.2.1) ∧ W.cell? ⟨bp, 5, none⟩ = some (.int .i64 p.1.2.1.2.2) ∧ W.cell? ⟨bp, 6, none⟩ = some (.int .i64 p.1.2.2.1) ∧ W.cell? ⟨bp, 7, none⟩ = some (.int .i64 p.1.2.2.2.1) ∧ W.cell? ⟨bp, 8, none⟩ = some (.int .i64 p.1.2.2.2.2) ∧ W.cell? ⟨bp, 9, none⟩ = some (.int .i64 p.2.1) := by
  obtain ⟨⟨h0, h1, h2, h3, h4⟩, _⟩ := h
  obtain ⟨⟨k0, k1, k2, k3, k4, k5, k6, k7, k8, k9, k10⟩, _⟩ := k
  exact ⟨h0, h1, h2, h3, k0, k1, k2, k3, k4, k5, k6, k7, k8, k9⟩
set_option maxRecDepth 100000 in
set_option maxHeartbeats 1000000 in
theorem mfi_any (x : P3) (s d : Int) (p : Pu) (w : World) (h : BdT 64 p.1) (k : BdP 256 x) (s1 : 1 ≤ s) (s2 : s ≤ 16) (t1 : 0 ≤ p.2.1) (t2 : p.2.1 ≤ 1000) :
    Calls Try.prog 22 #[micv x s d, puv p] w fun e w' => e = .returned (.int .i64 (p.2.1 + (tkf (nearN p.1 x) s : Nat))) ∧ Below w.heap.size w w' := by
  have N := Lib.hid (fun W => snear_any p.1 x W (h.mono (by decide)) (k.mono (by decide)))
  have b := dist_bd h k
  have TT := Lib.hid (fun W => tks_any (nearN p.1 x) s W (by omega) s1 s2)
  have tb := tkf_le (nearN p.1 x) s
  have tb' : tkf (nearN p.1 x) s ≤ 307200 := by omega
  generalize tkf (nearN p.1 x) s = L at *
  generalize nearN p.1 x = dd at *
  clear tb b h k
  have V0 : IntKind.i64.wrap (p.2.1 + (L : Nat)) = p.2.1 + (L : Nat) := IntWalk.i64_in _ (by omega)
  go_enter Try.func22, Try.ntmps22
  go_wp2_with fail
  have i0 := ownMic_drew (ownMic_alloc (ownMic_new w x s d 44) (pub p 27))
  have i1 := ownPu_drew (ownPu_new (w.alloc (micb x s d 44)) p 27)
  simp only [World.size_alloc] at i1
  go_region_held3 (fun w' => w'.cell? ⟨w.heap.size, 0, none⟩ = some (.int .i64 x.1) ∧ w'.cell? ⟨w.heap.size, 1, none⟩ = some (.int .i64 x.2.1) ∧ w'.cell? ⟨w.heap.size, 2, none⟩ = some (.int .i64 x.2.2) ∧ w'.cell? ⟨w.heap.size, 3, none⟩ = some (.int .i64 s) ∧ w'.cell? ⟨w.heap.size + 1, 0, none⟩ = some (.int .i64 p.1.1.1) ∧ w'.cell? ⟨w.heap.size + 1, 1, none⟩ = some (.int .i64 p.1.1.2.1) ∧ w'.cell? ⟨w.heap.size + 1, 2, none⟩ = some (.int .i64 p.1.1.2.2) ∧ w'.cell? ⟨w.heap.size + 1, 3, none⟩ = some (.int .i64 p.1.2.1.1) ∧ w'.cell? ⟨w.heap.size + 1, 4, none⟩ = some (.int .i64 p.1.2.1.2.1) ∧ w'.cell? ⟨w.heap.size + 1, 5, none⟩ = some (.int .i64 p.1.2.1.2.2) ∧ w'.cell? ⟨w.heap.size + 1, 6, none⟩ = some (.int .i64 p.1.2.2.1) ∧ w'.cell? ⟨w.heap.size + 1, 7, none⟩ = some (.int .i64 p.1.2.2.2.1) ∧ w'.cell? ⟨w.heap.size + 1, 8, none⟩ = some (.int .i64 p.1.2.2.2.2) ∧ w'.cell? ⟨w.heap.size + 1, 9, none⟩ = some (.int .i64 p.2.1))
    (first | (refine fs_keep i0 i1) | (refine fs_keep q0 q1) | (refine fs_keep ?_ ?_ <;> assumption))
    (first | (go_at_call 45; (with_reducible refine (N.out _).mono ?_); rintro e v0 ⟨rfl, hv0⟩; have q0 := ownMic_below i0 hv0; have q1 := ownPu_below i1 hv0) | (go_at_call 32; (with_reducible refine (TT.out _).mono ?_); rintro e v1 ⟨rfl, rfl⟩))
  all_goals
    go_wp2
    go_ret
    exact ⟨rfl, by (repeat' (first | exact Below.refl _ _ | refine bstep ?_ hv0 | refine Below.setCell ?_ (by simp <;> omega) _ | refine balloc ?_ _ | refine Below.drew ?_ | refine bdrewN ?_ _))⟩
set_option maxRecDepth 100000 in
set_option maxHeartbeats 1000000 in
theorem mla_any (x : P3) (s d : Int) (p : Pu) (w : World) (h : BdT 64 p.1) (k : BdP 256 x) (s1 : 1 ≤ s) (s2 : s ≤ 16) (t1 : 0 ≤ p.2.1) (t2 : p.2.1 ≤ 1000) :
    Calls Try.prog 27 #[micv x s d, puv p] w fun e w' => e = .returned (.int .i64 (p.2.1 + (tkf (farN p.1 x) s : Nat))) ∧ Below w.heap.size w w' := by
  have N := Lib.hid (fun W => sfar_any p.1 x W (h.mono (by decide)) (k.mono (by decide)))
  have b := dist_bd h k
  have TT := Lib.hid (fun W => tks_any (farN p.1 x) s W (by omega) s1 s2)
  have tb := tkf_le (farN p.1 x) s
  have tb' : tkf (farN p.1 x) s ≤ 307200 := by omega
  generalize tkf (farN p.1 x) s = L at *
  generalize farN p.1 x = dd at *
  clear tb b h k
  have V0 : IntKind.i64.wrap (p.2.1 + (L : Nat)) = p.2.1 + (L : Nat) := IntWalk.i64_in _ (by omega)
  go_enter Try.func27, Try.ntmps27
  go_wp2_with fail
  have i0 := ownMic_drew (ownMic_alloc (ownMic_new w x s d 44) (pub p 27))
  have i1 := ownPu_drew (ownPu_new (w.alloc (micb x s d 44)) p 27)
  simp only [World.size_alloc] at i1
  go_region_held3 (fun w' => w'.cell? ⟨w.heap.size, 0, none⟩ = some (.int .i64 x.1) ∧ w'.cell? ⟨w.heap.size, 1, none⟩ = some (.int .i64 x.2.1) ∧ w'.cell? ⟨w.heap.size, 2, none⟩ = some (.int .i64 x.2.2) ∧ w'.cell? ⟨w.heap.size, 3, none⟩ = some (.int .i64 s) ∧ w'.cell? ⟨w.heap.size + 1, 0, none⟩ = some (.int .i64 p.1.1.1) ∧ w'.cell? ⟨w.heap.size + 1, 1, none⟩ = some (.int .i64 p.1.1.2.1) ∧ w'.cell? ⟨w.heap.size + 1, 2, none⟩ = some (.int .i64 p.1.1.2.2) ∧ w'.cell? ⟨w.heap.size + 1, 3, none⟩ = some (.int .i64 p.1.2.1.1) ∧ w'.cell? ⟨w.heap.size + 1, 4, none⟩ = some (.int .i64 p.1.2.1.2.1) ∧ w'.cell? ⟨w.heap.size + 1, 5, none⟩ = some (.int .i64 p.1.2.1.2.2) ∧ w'.cell? ⟨w.heap.size + 1, 6, none⟩ = some (.int .i64 p.1.2.2.1) ∧ w'.cell? ⟨w.heap.size + 1, 7, none⟩ = some (.int .i64 p.1.2.2.2.1) ∧ w'.cell? ⟨w.heap.size + 1, 8, none⟩ = some (.int .i64 p.1.2.2.2.2) ∧ w'.cell? ⟨w.heap.size + 1, 9, none⟩ = some (.int .i64 p.2.1))
    (first | (refine fs_keep i0 i1) | (refine fs_keep q0 q1) | (refine fs_keep ?_ ?_ <;> assumption))
    (first | (go_at_call 48; (with_reducible refine (N.out _).mono ?_); rintro e v0 ⟨rfl, hv0⟩; have q0 := ownMic_below i0 hv0; have q1 := ownPu_below i1 hv0) | (go_at_call 32; (with_reducible refine (TT.out _).mono ?_); rintro e v1 ⟨rfl, rfl⟩))
  all_goals
    go_wp2
    go_ret
    exact ⟨rfl, by (repeat' (first | exact Below.refl _ _ | refine bstep ?_ hv0 | refine Below.setCell ?_ (by simp <;> omega) _ | refine balloc ?_ _ | refine Below.drew ?_ | refine bdrewN ?_ _))⟩

end Go.Proofs.Ytlegalibjkeccaa
