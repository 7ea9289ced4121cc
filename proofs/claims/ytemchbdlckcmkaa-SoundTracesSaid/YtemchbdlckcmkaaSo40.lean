/-
  The law SoundTraces: its walk.
-/
import Derived.Test.YtemchbdlckcmkaaSoMc
namespace Go.Proofs.Ytemchbdlckcmkaa
open Go.ChangeShapes Go.WideShapes Go.RowKit
open Sh
def trG (x : P3) (s d : Int) (Q : Nat → Pu) (n : Nat) (f : Int) (k : Nat) : Sp.R := sceQ x s d Q n (f + (k : Int))
def trE (n : Nat) (Q : Nat → Pu) (x : P3) (s f t d : Int) : Int := if trcC n Q x s f t d = 0 then geN (trG x s d Q n f) (t - f + 1).toNat else trcC n Q x s f t d
theorem lstT_two (W : World) (b : Nat) (f t : Int) (h : b = W.heap.size) : LstT (W.alloc (.cells #[.int .i64 f, .int .i64 t] 3)) (some ⟨b, 0, none⟩) 2 (T2 f t) := fun _ => ⟨_, _, rfl, by simp [h], fun k hk => by
    have : k = 0 ∨ k = 1 := by omega
    subst h
    rw [Nat.zero_add]
    rcases this with rfl | rfl
    · show _ = some (Value.int .i64 f); go_simp
    · show _ = some (Value.int .i64 t); go_simp⟩
theorem trc_any (a : Option Addr) (n c : Nat) (Q : Nat → Pu) (x : P3) (s f t d : Int) (w : World) (rr : LstU w a n Q) (hn : n ≤ 140737488355328) : Calls Try.prog 15 #[.slice a n c, ptv x, .int .i64 s, .int .i64 f, .int .i64 t, .int .i64 d] w fun e w' => ∃ v, e = .returned (.tuple #[v, .int .i64 (trE n Q x s f t d)]) ∧ SpR w' (t - f + 1).toNat (trE n Q x s f t d) (gsN (trG x s d Q n f) (t - f + 1).toNat) v ∧ Below w.heap.size w w' := by
  have C := fun (W : World) (b : Nat) (B : Below w.heap.size w W) (e : b = W.heap.size) => mck_any x s d a n c (some ⟨b, 0, none⟩) 2 2 Q (T2 f t) (W.alloc (.cells #[.int .i64 f, .int .i64 t] 3)) (lstU_below (lstU_below rr B) ((Below.refl _ _).alloc (Nat.le_refl _) _)) hn (lstT_two W b f t e) (by decide)
  unfold trE trcC
  by_cases z : trc0 n Q x s f t d = 0
  · rw [if_pos z]
    have C := fun (W : World) (b : Nat) (B : Below w.heap.size w W) (e : b = W.heap.size) => (show mcode8 (vpcode n Q) x s d (tcode (T2 f t) 2) = 0 from z) ▸ C W b B e
    obtain ⟨⟨h0, h1⟩, h2, h3, h4, h5, h6⟩ := trc0_ok z
    have I := fun W => sir_any (t - f) 0 200 W
    cases r : rngB (t - f) 0 200 with
    | false =>
      rw [r] at I
      refine (trc_r a n c x s f t d w (Lib.hid C) h5.1 h5.2 h6.1 h6.2 (Lib.hid I)).mono fun e w' ⟨k1, k2⟩ => ⟨_, k1, ?_, k2⟩
      unfold SpR
      rw [if_neg (by simp)]
    | true =>
      rw [r] at I
      obtain ⟨r1, r2⟩ := rngB_iff.1 r
      rw [if_pos rfl, if_pos rfl]
      exact trc_ok a n c x s f t d (t - f + 1).toNat (trG x s d Q n f) (by omega) (by omega) w (Lib.hid C) h5.1 h5.2 h6.1 h6.2 (Lib.hid I) (Lib.hid fun k hk W B => sce_any x s d (f + (k : Int)) a n c Q W (lstU_below rr B) (by omega) h1 h2 h3.1 h3.2 h4.1 h4.2 (by omega) (by omega))
  · rw [if_neg z, if_neg z]
    refine (trc_c a n c x s f t d _ w (Lib.hid C) (bne_iff_ne.2 z)).mono fun e w' ⟨k1, k2⟩ => ⟨_, k1, ?_, k2⟩
    unfold SpR
    rw [if_neg z]
theorem rtrc_any (a : Option Addr) (n c : Nat) (Q : Nat → Pu) (x : P3) (s f t d : Int) (w : World) (rr : LstU w a n Q) (hn : n ≤ 140737488355328) : Calls Try.prog 16 #[.slice a n c, ptv x, .int .i64 s, .int .i64 f, .int .i64 t, .int .i64 d] w fun e w' => ∃ v, e = .returned (.tuple #[v, .int .i64 (trE n Q x s f t d)]) ∧ SpR w' (t - f + 1).toNat (trE n Q x s f t d) (gsN (trG x s d Q n f) (t - f + 1).toNat) v ∧ Below w.heap.size w w' := by
  have V := fun W (B : Below w.heap.size w W) => rsvp_any a n c Q W (lstU_below rr B) hn
  have A := fun W => ask_any x s f d W
  unfold trE
  rw [trcC_r]
  by_cases z : vpcode n Q = 0
  · rw [if_pos z]
    rw [z] at V
    by_cases y : acode8 x s f d = 0
    · rw [if_pos y]
      rw [y] at A
      obtain ⟨h0, h1⟩ := vpk_ok z
      obtain ⟨h2, h3, h4, h5⟩ := acode8_ok y
      have I := fun W => rwi8_any t f (Sp.mn (f + 200) 2000) W
      cases r : rngB t f (Sp.mn (f + 200) 2000) with
      | false =>
        rw [r] at I
        refine (rtrc_r a n c x s f t d w (Lib.hid V) (Lib.hid A) h4.1 h4.2 (Lib.hid I)).mono fun e w' ⟨k1, k2⟩ => ⟨_, k1, ?_, k2⟩
        unfold SpR
        rw [if_neg (by simp)]
      | true =>
        rw [r] at I
        have rb := rngB_iff.1 r
        rw [Sp.mn_eq] at rb
        rw [if_pos rfl, if_pos rfl]
        exact rtrc_ok a n c x s f t d (t - f + 1).toNat (trG x s d Q n f) (by omega) (by omega) w (Lib.hid V) (Lib.hid A) h4.1 h4.2 (by omega) (by omega) (Lib.hid I) (Lib.hid fun k hk W B => rsce_any x s d (f + (k : Int)) a n c Q W (lstU_below rr B) (by omega) h1 h2 h3.1 h3.2 h5.1 h5.2 (by omega) (by omega))
    · rw [if_neg y, if_neg y]
      refine (rtrc_a a n c x s f t d _ w (Lib.hid V) (Lib.hid A) (bne_iff_ne.2 y)).mono fun e w' ⟨k1, k2⟩ => ⟨_, k1, ?_, k2⟩
      unfold SpR
      rw [if_neg y]
  · rw [if_neg z, if_neg z]
    refine (rtrc_v a n c x s f t d _ w (Lib.hid V) (bne_iff_ne.2 z)).mono fun e w' ⟨k1, k2⟩ => ⟨_, k1, ?_, k2⟩
    unfold SpR
    rw [if_neg z]
/-- a time in a block -/
def OwnT (w : World) (b : Nat) (x : P3) (s f t d : Int) : Prop := (w.cell? ⟨b, 0, none⟩ = some (.int .i64 x.1) ∧ w.cell? ⟨b, 1, none⟩ = some (.int .i64 x.2.1) ∧ w.cell? ⟨b, 2, none⟩ = some (.int .i64 x.2.2) ∧ w.cell? ⟨b, 3, none⟩ = some (.int .i64 s) ∧ w.cell? ⟨b, 4, none⟩ = some (.int .i64 f) ∧ w.cell? ⟨b, 5, none⟩ = some (.int .i64 t) ∧ w.cell? ⟨b, 6, none⟩ = some (.int .i64 d)) ∧ b < w.heap.size
theorem ownT_new (w : World) (x : P3) (s f t d : Int) (ty : TypeId) : OwnT (w.alloc (.cells #[.int .i64 x.1, .int .i64 x.2.1, .int .i64 x.2.2, .int .i64 s, .int .i64 f, .int .i64 t, .int .i64 d] ty)) w.heap.size x s f t d := ⟨⟨by go_simp, by go_simp, by go_simp, by go_simp, by go_simp, by go_simp, by go_simp⟩, by simp⟩
theorem ownT_below {w w1 : World} {b : Nat} {x : P3} {s f t d : Int} (h : OwnT w b x s f t d) (hb : Below w.heap.size w w1) : OwnT w1 b x s f t d := by
  obtain ⟨⟨h0, h1, h2, h3, h4, h5, h6⟩, l⟩ := h
  exact ⟨⟨(hb.cell (p := ⟨b, 0, none⟩) l).trans h0, (hb.cell (p := ⟨b, 1, none⟩) l).trans h1, (hb.cell (p := ⟨b, 2, none⟩) l).trans h2, (hb.cell (p := ⟨b, 3, none⟩) l).trans h3, (hb.cell (p := ⟨b, 4, none⟩) l).trans h4, (hb.cell (p := ⟨b, 5, none⟩) l).trans h5, (hb.cell (p := ⟨b, 6, none⟩) l).trans h6⟩, Nat.lt_of_lt_of_le l hb.size⟩
set_option maxRecDepth 100000 in
set_option maxHeartbeats 4000000 in
theorem traces_lo (a : Option Addr) (n c : Nat) (x : P3) (s f t d : Int) (w : World) (h1 : (6 : Int) < (n : Int)) (h2 : (n : Int) ≤ 16) (K : Hid (∀ W, Calls Try.prog 10 #[] W fun e w' => e = .returned (.bool true) ∧ Below W.heap.size W w')) : Calls Try.prog 6 #[.slice a n c, .agg #[.int .i64 x.1, .int .i64 x.2.1, .int .i64 x.2.2, .int .i64 s, .int .i64 f, .int .i64 t, .int .i64 d]] w fun e w' => e = .returned (.bool true) ∧ Below w.heap.size w w' := by
  go_enter Try.func6, Try.ntmps6
  go_wp2_with fail
  refine (K.out _).mono ?_
  rintro e w1 ⟨rfl, hb1⟩
  go_wp2
  go_ret
  exact ⟨rfl, by (repeat' (first | exact Below.refl _ _ | refine bstep ?_ hb1 | refine Below.setCell ?_ (by simp <;> omega) _ | refine balloc ?_ _ | refine Below.drew ?_ | refine bdrewN ?_ _))⟩
set_option maxRecDepth 100000 in
set_option maxHeartbeats 4000000 in
theorem traces_hi (a : Option Addr) (n c : Nat) (x : P3) (s f t d : Int) (w : World) (h1 : (6 : Int) < (n : Int)) (h2 : decide ((n : Int) ≤ 16) = false) (h3 : (60 : Int) < (n : Int)) (K : Hid (∀ W, Calls Try.prog 10 #[] W fun e w' => e = .returned (.bool true) ∧ Below W.heap.size W w')) : Calls Try.prog 6 #[.slice a n c, .agg #[.int .i64 x.1, .int .i64 x.2.1, .int .i64 x.2.2, .int .i64 s, .int .i64 f, .int .i64 t, .int .i64 d]] w fun e w' => e = .returned (.bool true) ∧ Below w.heap.size w w' := by
  go_enter Try.func6, Try.ntmps6
  go_wp2_with fail
  refine (K.out _).mono ?_
  rintro e w1 ⟨rfl, hb1⟩
  go_wp2
  go_ret
  exact ⟨rfl, by (repeat' (first | exact Below.refl _ _ | refine bstep ?_ hb1 | refine Below.setCell ?_ (by simp <;> omega) _ | refine balloc ?_ _ | refine Below.drew ?_ | refine bdrewN ?_ _))⟩
set_option maxRecDepth 100000 in
set_option maxHeartbeats 4000000 in
theorem traces_few (a : Option Addr) (n c : Nat) (x : P3) (s f t d er : Int) (w : World) (hn : n ≤ 60) (h1 : decide ((6 : Int) < (n : Int)) = false) (PR : Value → World → Prop) (PB : Hid (∀ v W W', PR v W → Below W.heap.size W W' → PR v W')) (C1 : Hid (∀ W, Below w.heap.size w W → Calls Try.prog 15 #[.slice a n c, ptv x, .int .i64 s, .int .i64 f, .int .i64 t, .int .i64 d] W fun e w' => ∃ v, e = .returned (.tuple #[v, .int .i64 er]) ∧ PR v w' ∧ Below W.heap.size W w')) (C2 : Hid (∀ W, Below w.heap.size w W → Calls Try.prog 16 #[.slice a n c, ptv x, .int .i64 s, .int .i64 f, .int .i64 t, .int .i64 d] W fun e w' => ∃ v, e = .returned (.tuple #[v, .int .i64 er]) ∧ PR v w' ∧ Below W.heap.size W w')) (SM : Hid (∀ v u W, PR v W → PR u W → Calls Try.prog 17 #[v, u] W fun e w' => e = .returned (.bool true) ∧ Below W.heap.size W w')) (K : Hid (∀ W, Calls Try.prog 10 #[] W fun e w' => e = .returned (.bool true) ∧ Below W.heap.size W w')) : Calls Try.prog 6 #[.slice a n c, .agg #[.int .i64 x.1, .int .i64 x.2.1, .int .i64 x.2.2, .int .i64 s, .int .i64 f, .int .i64 t, .int .i64 d]] w fun e w' => e = .returned (.bool true) ∧ Below w.heap.size w w' := by
  have hn' : (n : Int) ≤ 60 := by omega
  have T0 := Lib.hid (ownT_new w x s f t d 46)
  have B0 := Lib.hid (show Below w.heap.size w (w.alloc (.cells #[.int .i64 x.1, .int .i64 x.2.1, .int .i64 x.2.2, .int .i64 s, .int .i64 f, .int .i64 t, .int .i64 d] 46)) by (repeat' (first | exact Below.refl _ _ | refine Below.setCell ?_ (by simp <;> omega) _ | refine balloc ?_ _ | refine Below.drew ?_ | refine bdrewN ?_ _)))
  go_enter Try.func6, Try.ntmps6
  go_wp2_with fail
  refine (C1.out _ B0.out).mono ?_
  rintro e w1 ⟨v, rfl, p1, hb1⟩
  have P1 := Lib.hid p1
  have B1 := Lib.hid (bstep B0.out hb1)
  obtain ⟨⟨h0, h1', h2', h3', h4, h5, h6⟩, tl⟩ := ownT_below T0.out hb1
  clear p1
  go_wp2_with fail
  refine (C2.out _ B1.out).mono ?_
  rintro e w2 ⟨u, rfl, p2, hb2⟩
  have P2 := Lib.hid p2
  have Q2 := Lib.hid (PB.out _ _ _ P1.out hb2)
  have B2 := Lib.hid (bstep B1.out hb2)
  clear p2 h0 h1' h2' h3' h4 h5 h6 tl
  go_wp2_with fail
  refine (SM.out _ _ _ Q2.out P2.out).mono ?_
  rintro e w5 ⟨rfl, hb5⟩
  go_wp2_with fail
  refine (K.out _).mono ?_
  rintro e w6 ⟨rfl, hb6⟩
  have B5 := Lib.hid (bstep B2.out hb5)
  go_wp2
  go_ret
  exact ⟨rfl, bstep B5.out hb6⟩
set_option maxRecDepth 100000 in
set_option maxHeartbeats 4000000 in
theorem traces_more (a : Option Addr) (n c : Nat) (x : P3) (s f t d er : Int) (w : World) (hn : n ≤ 60) (h1 : (6 : Int) < (n : Int)) (h2 : decide ((n : Int) ≤ 16) = false) (PR : Value → World → Prop) (PB : Hid (∀ v W W', PR v W → Below W.heap.size W W' → PR v W')) (C1 : Hid (∀ W, Below w.heap.size w W → Calls Try.prog 15 #[.slice a n c, ptv x, .int .i64 s, .int .i64 f, .int .i64 t, .int .i64 d] W fun e w' => ∃ v, e = .returned (.tuple #[v, .int .i64 er]) ∧ PR v w' ∧ Below W.heap.size W w')) (C2 : Hid (∀ W, Below w.heap.size w W → Calls Try.prog 16 #[.slice a n c, ptv x, .int .i64 s, .int .i64 f, .int .i64 t, .int .i64 d] W fun e w' => ∃ v, e = .returned (.tuple #[v, .int .i64 er]) ∧ PR v w' ∧ Below W.heap.size W w')) (SM : Hid (∀ v u W, PR v W → PR u W → Calls Try.prog 17 #[v, u] W fun e w' => e = .returned (.bool true) ∧ Below W.heap.size W w')) (K : Hid (∀ W, Calls Try.prog 10 #[] W fun e w' => e = .returned (.bool true) ∧ Below W.heap.size W w')) : Calls Try.prog 6 #[.slice a n c, .agg #[.int .i64 x.1, .int .i64 x.2.1, .int .i64 x.2.2, .int .i64 s, .int .i64 f, .int .i64 t, .int .i64 d]] w fun e w' => e = .returned (.bool true) ∧ Below w.heap.size w w' := by
  have hn' : (n : Int) ≤ 60 := by omega
  have T0 := Lib.hid (ownT_new w x s f t d 46)
  have B0 := Lib.hid (show Below w.heap.size w (w.alloc (.cells #[.int .i64 x.1, .int .i64 x.2.1, .int .i64 x.2.2, .int .i64 s, .int .i64 f, .int .i64 t, .int .i64 d] 46)) by (repeat' (first | exact Below.refl _ _ | refine Below.setCell ?_ (by simp <;> omega) _ | refine balloc ?_ _ | refine Below.drew ?_ | refine bdrewN ?_ _)))
  go_enter Try.func6, Try.ntmps6
  go_wp2_with fail
  refine (C1.out _ B0.out).mono ?_
  rintro e w1 ⟨v, rfl, p1, hb1⟩
  have P1 := Lib.hid p1
  have B1 := Lib.hid (bstep B0.out hb1)
  obtain ⟨⟨h0, h1', h2', h3', h4, h5, h6⟩, tl⟩ := ownT_below T0.out hb1
  clear p1
  go_wp2_with fail
  refine (C2.out _ B1.out).mono ?_
  rintro e w2 ⟨u, rfl, p2, hb2⟩
  have P2 := Lib.hid p2
  have Q2 := Lib.hid (PB.out _ _ _ P1.out hb2)
  have B2 := Lib.hid (bstep B1.out hb2)
  clear p2 h0 h1' h2' h3' h4 h5 h6 tl
  go_wp2_with fail
  refine (SM.out _ _ _ Q2.out P2.out).mono ?_
  rintro e w5 ⟨rfl, hb5⟩
  go_wp2_with fail
  refine (K.out _).mono ?_
  rintro e w6 ⟨rfl, hb6⟩
  have B5 := Lib.hid (bstep B2.out hb5)
  go_wp2
  go_ret
  exact ⟨rfl, bstep B5.out hb6⟩
theorem tr_same (n : Nat) (Q : Nat → Pu) (x : P3) (s f t d : Int) (v u : Value) (W : World) (p : SpR W (t - f + 1).toNat (trE n Q x s f t d) (gsN (trG x s d Q n f) (t - f + 1).toNat) v) (q : SpR W (t - f + 1).toNat (trE n Q x s f t d) (gsN (trG x s d Q n f) (t - f + 1).toNat) u) : Calls Try.prog 17 #[v, u] W fun e w' => e = .returned (.bool true) ∧ Below W.heap.size W w' := by
  by_cases h : trE n Q x s f t d = 0
  · refine spR_same _ _ _ (gsN_len _ _) ?_ v u W p q
    have h0 : trcC n Q x s f t d = 0 := by
      unfold trE at h
      by_cases z : trcC n Q x s f t d = 0
      · exact z
      · rw [if_neg z] at h; exact absurd h z
    unfold trcC at h0
    by_cases z : trc0 n Q x s f t d = 0
    · rw [if_pos z] at h0
      cases r : rngB (t - f) 0 200 with
      | false => rw [r] at h0; simp at h0
      | true => obtain ⟨r1, r2⟩ := rngB_iff.1 r; omega
    · rw [if_neg z] at h0; exact absurd h0 z
  · unfold SpR at p q
    rw [if_neg h] at p q
    rw [p, q]
    exact ssp_zero none none 0 0 W
theorem traces_walk (a : Option Addr) (n c : Nat) (Q : Nat → Pu) (x : P3) (s f t d : Int) (w : World) (hm : n ≤ maxLen) (_ : a = none → c = 0) (r : LstU w a n Q) : Calls Try.prog 6 #[.slice a n c, .agg #[.int .i64 x.1, .int .i64 x.2.1, .int .i64 x.2.2, .int .i64 s, .int .i64 f, .int .i64 t, .int .i64 d]] w fun e w' => e = .returned (.bool true) ∧ Below w.heap.size w w' := by
  unfold maxLen at hm
  by_cases h60 : 60 < n
  · exact traces_hi a n c x s f t d w (by omega) (decide_eq_false (by omega)) (by omega) (Lib.hid fun W => sane_any W)
  by_cases h16 : 16 < n
  · refine traces_more a n c x s f t d (trE n Q x s f t d) w (by omega) (by omega) (decide_eq_false (by omega)) (fun v W => SpR W (t - f + 1).toNat (trE n Q x s f t d) (gsN (trG x s d Q n f) (t - f + 1).toNat) v) (Lib.hid fun v W W' p b => spR_below p b) (Lib.hid fun W B => trc_any a n c Q x s f t d W (lstU_below r B) (by omega)) (Lib.hid fun W B => rtrc_any a n c Q x s f t d W (lstU_below r B) (by omega)) (Lib.hid fun v u W p q => ?_) (Lib.hid fun W => sane_any W)
    exact tr_same n Q x s f t d v u W p q
  by_cases h6 : 6 < n
  · exact traces_lo a n c x s f t d w (by omega) (by omega) (Lib.hid fun W => sane_any W)
  · refine traces_few a n c x s f t d (trE n Q x s f t d) w (by omega) (decide_eq_false (by omega)) (fun v W => SpR W (t - f + 1).toNat (trE n Q x s f t d) (gsN (trG x s d Q n f) (t - f + 1).toNat) v) (Lib.hid fun v W W' p b => spR_below p b) (Lib.hid fun W B => trc_any a n c Q x s f t d W (lstU_below r B) (by omega)) (Lib.hid fun W B => rtrc_any a n c Q x s f t d W (lstU_below r B) (by omega)) (Lib.hid fun v u W p q => ?_) (Lib.hid fun W => sane_any W)
    exact tr_same n Q x s f t d v u W p q

end Go.Proofs.Ytemchbdlckcmkaa
