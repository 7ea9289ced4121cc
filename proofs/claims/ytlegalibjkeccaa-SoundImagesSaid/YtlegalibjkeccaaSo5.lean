/-
  The contracts of First, Last and Travel, in the program and in the document's answer.
-/
import Derived.Test.YtlegalibjkeccaaSo4
namespace Go.Proofs.Ytlegalibjkeccaa
open Go.ChangeShapes Go.WideShapes Go.RowKit
open Sh
/-- the error of a point, a speed, a tick and a depth -/
def acode8 (x : P3) (s t d : Int) : Int := if inP 256 x && (rngB s 1 16 && (rngB t 0 2000 && rngB d 0 3)) then 0 else 1
theorem ask_f (x : P3) (s t d : Int) (w : World) (C0 : Hid (∀ W, Calls Try.prog 34 #[ptv x, .int .i64 256] W fun e w' => e = .returned (.bool false) ∧ Below W.heap.size W w')) : Calls Try.prog 24 #[ptv x, .int .i64 s, .int .i64 t, .int .i64 d] w fun e w' => e = .returned (.int .i64 1) ∧ Below w.heap.size w w' := by
  go_enter Try.func24, Try.ntmps24
  go_wp2_with fail
  refine (C0.out _).mono ?_
  rintro e w1 ⟨rfl, hb⟩
  go_wp2
  go_ret
  exact ⟨rfl, by (repeat' (first | exact Below.refl _ _ | refine bstep ?_ hb | refine Below.setCell ?_ (by simp <;> omega) _ | refine balloc ?_ _ | refine Below.drew ?_ | refine bdrewN ?_ _))⟩
theorem ask_tf (x : P3) (s t d : Int) (w : World) (C0 : Hid (∀ W, Calls Try.prog 34 #[ptv x, .int .i64 256] W fun e w' => e = .returned (.bool true) ∧ Below W.heap.size W w')) (C1 : Hid (∀ W, Calls Try.prog 39 #[.int .i64 s, .int .i64 1, .int .i64 16] W fun e w' => e = .returned (.bool false) ∧ W = w')) : Calls Try.prog 24 #[ptv x, .int .i64 s, .int .i64 t, .int .i64 d] w fun e w' => e = .returned (.int .i64 1) ∧ Below w.heap.size w w' := by
  go_enter Try.func24, Try.ntmps24
  go_wp2_with fail
  refine (C0.out _).mono ?_
  rintro e w1 ⟨rfl, hb⟩
  go_wp2_with fail
  refine (C1.out _).mono ?_
  rintro e w1 ⟨rfl, rfl⟩
  go_wp2
  go_ret
  exact ⟨rfl, by (repeat' (first | exact Below.refl _ _ | refine bstep ?_ hb | refine Below.setCell ?_ (by simp <;> omega) _ | refine balloc ?_ _ | refine Below.drew ?_ | refine bdrewN ?_ _))⟩
theorem ask_ttf (x : P3) (s t d : Int) (w : World) (C0 : Hid (∀ W, Calls Try.prog 34 #[ptv x, .int .i64 256] W fun e w' => e = .returned (.bool true) ∧ Below W.heap.size W w')) (C1 : Hid (∀ W, Calls Try.prog 39 #[.int .i64 s, .int .i64 1, .int .i64 16] W fun e w' => e = .returned (.bool true) ∧ W = w')) (C2 : Hid (∀ W, Calls Try.prog 39 #[.int .i64 t, .int .i64 0, .int .i64 2000] W fun e w' => e = .returned (.bool false) ∧ W = w')) : Calls Try.prog 24 #[ptv x, .int .i64 s, .int .i64 t, .int .i64 d] w fun e w' => e = .returned (.int .i64 1) ∧ Below w.heap.size w w' := by
  go_enter Try.func24, Try.ntmps24
  go_wp2_with fail
  refine (C0.out _).mono ?_
  rintro e w1 ⟨rfl, hb⟩
  go_wp2_with fail
  refine (C1.out _).mono ?_
  rintro e w1 ⟨rfl, rfl⟩
  go_wp2_with fail
  refine (C2.out _).mono ?_
  rintro e w1 ⟨rfl, rfl⟩
  go_wp2
  go_ret
  exact ⟨rfl, by (repeat' (first | exact Below.refl _ _ | refine bstep ?_ hb | refine Below.setCell ?_ (by simp <;> omega) _ | refine balloc ?_ _ | refine Below.drew ?_ | refine bdrewN ?_ _))⟩
theorem ask_tttf (x : P3) (s t d : Int) (w : World) (C0 : Hid (∀ W, Calls Try.prog 34 #[ptv x, .int .i64 256] W fun e w' => e = .returned (.bool true) ∧ Below W.heap.size W w')) (C1 : Hid (∀ W, Calls Try.prog 39 #[.int .i64 s, .int .i64 1, .int .i64 16] W fun e w' => e = .returned (.bool true) ∧ W = w')) (C2 : Hid (∀ W, Calls Try.prog 39 #[.int .i64 t, .int .i64 0, .int .i64 2000] W fun e w' => e = .returned (.bool true) ∧ W = w')) (C3 : Hid (∀ W, Calls Try.prog 39 #[.int .i64 d, .int .i64 0, .int .i64 3] W fun e w' => e = .returned (.bool false) ∧ W = w')) : Calls Try.prog 24 #[ptv x, .int .i64 s, .int .i64 t, .int .i64 d] w fun e w' => e = .returned (.int .i64 1) ∧ Below w.heap.size w w' := by
  go_enter Try.func24, Try.ntmps24
  go_wp2_with fail
  refine (C0.out _).mono ?_
  rintro e w1 ⟨rfl, hb⟩
  go_wp2_with fail
  refine (C1.out _).mono ?_
  rintro e w1 ⟨rfl, rfl⟩
  go_wp2_with fail
  refine (C2.out _).mono ?_
  rintro e w1 ⟨rfl, rfl⟩
  go_wp2_with fail
  refine (C3.out _).mono ?_
  rintro e w1 ⟨rfl, rfl⟩
  go_wp2
  go_ret
  exact ⟨rfl, by (repeat' (first | exact Below.refl _ _ | refine bstep ?_ hb | refine Below.setCell ?_ (by simp <;> omega) _ | refine balloc ?_ _ | refine Below.drew ?_ | refine bdrewN ?_ _))⟩
theorem ask_tttt (x : P3) (s t d : Int) (w : World) (C0 : Hid (∀ W, Calls Try.prog 34 #[ptv x, .int .i64 256] W fun e w' => e = .returned (.bool true) ∧ Below W.heap.size W w')) (C1 : Hid (∀ W, Calls Try.prog 39 #[.int .i64 s, .int .i64 1, .int .i64 16] W fun e w' => e = .returned (.bool true) ∧ W = w')) (C2 : Hid (∀ W, Calls Try.prog 39 #[.int .i64 t, .int .i64 0, .int .i64 2000] W fun e w' => e = .returned (.bool true) ∧ W = w')) (C3 : Hid (∀ W, Calls Try.prog 39 #[.int .i64 d, .int .i64 0, .int .i64 3] W fun e w' => e = .returned (.bool true) ∧ W = w')) : Calls Try.prog 24 #[ptv x, .int .i64 s, .int .i64 t, .int .i64 d] w fun e w' => e = .returned (.int .i64 0) ∧ Below w.heap.size w w' := by
  go_enter Try.func24, Try.ntmps24
  go_wp2_with fail
  refine (C0.out _).mono ?_
  rintro e w1 ⟨rfl, hb⟩
  go_wp2_with fail
  refine (C1.out _).mono ?_
  rintro e w1 ⟨rfl, rfl⟩
  go_wp2_with fail
  refine (C2.out _).mono ?_
  rintro e w1 ⟨rfl, rfl⟩
  go_wp2_with fail
  refine (C3.out _).mono ?_
  rintro e w1 ⟨rfl, rfl⟩
  go_wp2
  go_ret
  exact ⟨rfl, by (repeat' (first | exact Below.refl _ _ | refine bstep ?_ hb | refine Below.setCell ?_ (by simp <;> omega) _ | refine balloc ?_ _ | refine Below.drew ?_ | refine bdrewN ?_ _))⟩
theorem ask_any (x : P3) (s t d : Int) (w : World) : Calls Try.prog 24 #[ptv x, .int .i64 s, .int .i64 t, .int .i64 d] w fun e w' => e = .returned (.int .i64 (acode8 x s t d)) ∧ Below w.heap.size w w' := by
  have C0 := fun W => small_any x 256 W (by decide) (by decide)
  have C1 := fun W => rwi8_any s 1 16 W
  have C2 := fun W => rwi8_any t 0 2000 W
  have C3 := fun W => rwi8_any d 0 3 W
  unfold acode8
  cases h0 : inP 256 x with
  | false => rw [h0] at C0; exact ask_f x s t d w (Lib.hid C0)
  | true =>
    rw [h0] at C0
    cases h1 : rngB s 1 16 with
    | false => rw [h1] at C1; exact ask_tf x s t d w (Lib.hid C0) (Lib.hid C1)
    | true =>
      rw [h1] at C1
      cases h2 : rngB t 0 2000 with
      | false => rw [h2] at C2; exact ask_ttf x s t d w (Lib.hid C0) (Lib.hid C1) (Lib.hid C2)
      | true =>
        rw [h2] at C2
        cases h3 : rngB d 0 3 with
        | false => rw [h3] at C3; exact ask_tttf x s t d w (Lib.hid C0) (Lib.hid C1) (Lib.hid C2) (Lib.hid C3)
        | true => rw [h3] at C3; exact ask_tttt x s t d w (Lib.hid C0) (Lib.hid C1) (Lib.hid C2) (Lib.hid C3)
theorem acode8_ok {x : P3} {s t d : Int} (h : acode8 x s t d = 0) : BdP 256 x ∧ (1 ≤ s ∧ s ≤ 16) ∧ (0 ≤ t ∧ t ≤ 2000) ∧ (0 ≤ d ∧ d ≤ 3) := by
  unfold acode8 at h
  cases e : (inP 256 x && (rngB s 1 16 && (rngB t 0 2000 && rngB d 0 3))) with
  | true =>
    rw [Bool.and_eq_true, Bool.and_eq_true, Bool.and_eq_true] at e
    exact ⟨inP_iff.1 e.1, rngB_iff.1 e.2.1, rngB_iff.1 e.2.2.1, rngB_iff.1 e.2.2.2⟩
  | false => rw [e, if_neg Bool.false_ne_true] at h; exact absurd h (by decide)
/-- the error of a pulse and a microphone without a tick -/
def fcode (p : Pu) (x : P3) (s : Int) : Int := if pucode p = 0 then acode8 x s 0 0 else pucode p
theorem fcode_m (p : Pu) (x : P3) (s : Int) : mcode8 (vpcode 1 (fun _ => p)) x s 0 (tcode (fun _ => 0) 0) = fcode p x s := by
  have e : vpcode 1 (fun _ => p) = pucode p := by
    show (if (1 : Nat) ≤ 16 then (if (0 : Int) = 0 then pucode p else 0) else 4) = _
    rw [if_pos (by decide), if_pos rfl]
  rw [e]
  unfold mcode8 fcode acode8
  have a : rngB 0 0 3 = true := by decide
  have b : rngB 0 0 2000 = true := by decide
  rw [a, b]
  rfl
theorem fcode_ok {p : Pu} {x : P3} {s : Int} (h : fcode p x s = 0) : pucode p = 0 ∧ BdP 256 x ∧ 1 ≤ s ∧ s ≤ 16 := by
  unfold fcode at h
  by_cases z : pucode p = 0
  · rw [if_pos z] at h
    obtain ⟨h1, h2, _⟩ := acode8_ok h
    exact ⟨z, h1, h2.1, h2.2⟩
  · rw [if_neg z] at h
    exact absurd h z
set_option maxRecDepth 100000 in
theorem fst_no (p : Pu) (x : P3) (s c : Int) (w : World) (C : Hid (∀ (W : World) (b : Nat), b = W.heap.size → Calls Try.prog 21 #[micv x s 0, .slice (some ⟨b, 0, none⟩) 1 1, .slice none 0 0] (W.alloc (pub p 27)) fun e w' => e = .returned (.int .i64 c) ∧ Below (W.alloc (pub p 27)).heap.size (W.alloc (pub p 27)) w')) (z : (c != 0) = true) : Calls Try.prog 7 #[puv p, ptv x, .int .i64 s] w fun e w' => e = .returned (.tuple #[.int .i64 0, .int .i64 c]) ∧ Below w.heap.size w w' := by
  have M := Lib.hid (ownMic_new ((w.alloc (pub p 27)).alloc (ptc x 23)) x s 0 44)
  have P := Lib.hid (ownPu_alloc (ownPu_alloc (ownPu_new w p 27) (ptc x 23)) (micb x s 0 44))
  simp only [World.size_alloc] at M
  go_enter Try.func7, Try.ntmps7
  go_wp2_with fail
  refine (C.out _ _ (by simp)).mono ?_
  rintro e w1 ⟨rfl, hb1⟩
  go_wp2
  go_ret2
  exact ⟨rfl, by (repeat' (first | exact Below.refl _ _ | refine bstep ?_ hb1 | refine Below.setCell ?_ (by simp <;> omega) _ | refine balloc ?_ _ | refine Below.drew ?_ | refine bdrewN ?_ _))⟩
set_option maxRecDepth 100000 in
set_option maxHeartbeats 1000000 in
theorem fst_ok (p : Pu) (x : P3) (s r : Int) (w : World) (C : Hid (∀ (W : World) (b : Nat), b = W.heap.size → Calls Try.prog 21 #[micv x s 0, .slice (some ⟨b, 0, none⟩) 1 1, .slice none 0 0] (W.alloc (pub p 27)) fun e w' => e = .returned (.int .i64 0) ∧ Below (W.alloc (pub p 27)).heap.size (W.alloc (pub p 27)) w')) (R : Hid (∀ W, Calls Try.prog 22 #[micv x s 0, puv p] W fun e w' => e = .returned (.int .i64 r) ∧ Below W.heap.size W w')) : Calls Try.prog 7 #[puv p, ptv x, .int .i64 s] w fun e w' => e = .returned (.tuple #[.int .i64 r, .int .i64 0]) ∧ Below w.heap.size w w' := by
  have M := Lib.hid (ownMic_new ((w.alloc (pub p 27)).alloc (ptc x 23)) x s 0 44)
  have P := Lib.hid (ownPu_alloc (ownPu_alloc (ownPu_new w p 27) (ptc x 23)) (micb x s 0 44))
  simp only [World.size_alloc] at M
  go_enter Try.func7, Try.ntmps7
  go_wp2_with fail
  refine (C.out _ _ (by simp)).mono ?_
  rintro e w1 ⟨rfl, hb1⟩
  obtain ⟨⟨m0, m1, m2, m3, m4⟩, ml⟩ := ownMic_below (ownMic_alloc M.out (pub p 27)) hb1
  obtain ⟨⟨d0, d1, d2, d3, d4, d5, d6, d7, d8, d9, d10⟩, dl⟩ := ownPu_below (ownPu_alloc P.out (pub p 27)) hb1
  go_wp2_with fail
  refine (R.out _).mono ?_
  rintro e w2 ⟨rfl, hb2⟩
  go_wp2
  go_ret2
  exact ⟨rfl, by (repeat' (first | exact Below.refl _ _ | refine bstep ?_ hb2 | refine bstep ?_ hb1 | refine Below.setCell ?_ (by simp <;> omega) _ | refine balloc ?_ _ | refine Below.drew ?_ | refine bdrewN ?_ _))⟩
def fstR (p : Pu) (x : P3) (s : Int) : Int := if fcode p x s = 0 then p.2.1 + (tkf (nearN p.1 x) s : Nat) else 0
theorem fst_any (p : Pu) (x : P3) (s : Int) (w : World) : Calls Try.prog 7 #[puv p, ptv x, .int .i64 s] w fun e w' => e = .returned (.tuple #[.int .i64 (fstR p x s), .int .i64 (fcode p x s)]) ∧ Below w.heap.size w w' := by
  have C := fun (W : World) (b : Nat) (e : b = W.heap.size) => mck_any x s 0 (some ⟨b, 0, none⟩) 1 1 none 0 0 (fun _ => p) (fun _ => 0) (W.alloc (pub p 27)) (fun _ => ⟨_, _, rfl, e ▸ rowU_one W p 27⟩) (by decide) (fun h => absurd h (by decide)) (by decide)
  rw [fcode_m] at C
  unfold fstR
  by_cases z : fcode p x s = 0
  · rw [if_pos z, z]
    rw [z] at C
    obtain ⟨h1, h2, h3, h4⟩ := fcode_ok z
    obtain ⟨k1, _, k2, _⟩ := pucode_ok h1
    exact fst_ok p x s _ w (Lib.hid C) (Lib.hid fun W => mfi_any x s 0 p W k1 h2 h3 h4 k2.1 k2.2)
  · rw [if_neg z]
    exact fst_no p x s _ w (Lib.hid C) (bne_iff_ne.2 z)
set_option maxRecDepth 100000 in
theorem lst8_no (p : Pu) (x : P3) (s c : Int) (w : World) (C : Hid (∀ (W : World) (b : Nat), b = W.heap.size → Calls Try.prog 21 #[micv x s 0, .slice (some ⟨b, 0, none⟩) 1 1, .slice none 0 0] (W.alloc (pub p 27)) fun e w' => e = .returned (.int .i64 c) ∧ Below (W.alloc (pub p 27)).heap.size (W.alloc (pub p 27)) w')) (z : (c != 0) = true) : Calls Try.prog 9 #[puv p, ptv x, .int .i64 s] w fun e w' => e = .returned (.tuple #[.int .i64 0, .int .i64 c]) ∧ Below w.heap.size w w' := by
  have M := Lib.hid (ownMic_new ((w.alloc (pub p 27)).alloc (ptc x 23)) x s 0 44)
  have P := Lib.hid (ownPu_alloc (ownPu_alloc (ownPu_new w p 27) (ptc x 23)) (micb x s 0 44))
  simp only [World.size_alloc] at M
  go_enter Try.func9, Try.ntmps9
  go_wp2_with fail
  refine (C.out _ _ (by simp)).mono ?_
  rintro e w1 ⟨rfl, hb1⟩
  go_wp2
  go_ret2
  exact ⟨rfl, by (repeat' (first | exact Below.refl _ _ | refine bstep ?_ hb1 | refine Below.setCell ?_ (by simp <;> omega) _ | refine balloc ?_ _ | refine Below.drew ?_ | refine bdrewN ?_ _))⟩
set_option maxRecDepth 100000 in
set_option maxHeartbeats 1000000 in
theorem lst8_ok (p : Pu) (x : P3) (s r : Int) (w : World) (C : Hid (∀ (W : World) (b : Nat), b = W.heap.size → Calls Try.prog 21 #[micv x s 0, .slice (some ⟨b, 0, none⟩) 1 1, .slice none 0 0] (W.alloc (pub p 27)) fun e w' => e = .returned (.int .i64 0) ∧ Below (W.alloc (pub p 27)).heap.size (W.alloc (pub p 27)) w')) (R : Hid (∀ W, Calls Try.prog 27 #[micv x s 0, puv p] W fun e w' => e = .returned (.int .i64 r) ∧ Below W.heap.size W w')) : Calls Try.prog 9 #[puv p, ptv x, .int .i64 s] w fun e w' => e = .returned (.tuple #[.int .i64 r, .int .i64 0]) ∧ Below w.heap.size w w' := by
  have M := Lib.hid (ownMic_new ((w.alloc (pub p 27)).alloc (ptc x 23)) x s 0 44)
  have P := Lib.hid (ownPu_alloc (ownPu_alloc (ownPu_new w p 27) (ptc x 23)) (micb x s 0 44))
  simp only [World.size_alloc] at M
  go_enter Try.func9, Try.ntmps9
  go_wp2_with fail
  refine (C.out _ _ (by simp)).mono ?_
  rintro e w1 ⟨rfl, hb1⟩
  obtain ⟨⟨m0, m1, m2, m3, m4⟩, ml⟩ := ownMic_below (ownMic_alloc M.out (pub p 27)) hb1
  obtain ⟨⟨d0, d1, d2, d3, d4, d5, d6, d7, d8, d9, d10⟩, dl⟩ := ownPu_below (ownPu_alloc P.out (pub p 27)) hb1
  go_wp2_with fail
  refine (R.out _).mono ?_
  rintro e w2 ⟨rfl, hb2⟩
  go_wp2
  go_ret2
  exact ⟨rfl, by (repeat' (first | exact Below.refl _ _ | refine bstep ?_ hb2 | refine bstep ?_ hb1 | refine Below.setCell ?_ (by simp <;> omega) _ | refine balloc ?_ _ | refine Below.drew ?_ | refine bdrewN ?_ _))⟩
def lst8R (p : Pu) (x : P3) (s : Int) : Int := if fcode p x s = 0 then p.2.1 + (tkf (farN p.1 x) s : Nat) else 0
theorem lst8_any (p : Pu) (x : P3) (s : Int) (w : World) : Calls Try.prog 9 #[puv p, ptv x, .int .i64 s] w fun e w' => e = .returned (.tuple #[.int .i64 (lst8R p x s), .int .i64 (fcode p x s)]) ∧ Below w.heap.size w w' := by
  have C := fun (W : World) (b : Nat) (e : b = W.heap.size) => mck_any x s 0 (some ⟨b, 0, none⟩) 1 1 none 0 0 (fun _ => p) (fun _ => 0) (W.alloc (pub p 27)) (fun _ => ⟨_, _, rfl, e ▸ rowU_one W p 27⟩) (by decide) (fun h => absurd h (by decide)) (by decide)
  rw [fcode_m] at C
  unfold lst8R
  by_cases z : fcode p x s = 0
  · rw [if_pos z, z]
    rw [z] at C
    obtain ⟨h1, h2, h3, h4⟩ := fcode_ok z
    obtain ⟨k1, _, k2, _⟩ := pucode_ok h1
    exact lst8_ok p x s _ w (Lib.hid C) (Lib.hid fun W => mla_any x s 0 p W k1 h2 h3 h4 k2.1 k2.2)
  · rw [if_neg z]
    exact lst8_no p x s _ w (Lib.hid C) (bne_iff_ne.2 z)
theorem fr_keep {W : World} {bx bp : Nat} {x : P3} {p : Pu} (k : OwnPu W bp p) (h : Own W bx x) : W.cell? ⟨bp, 0, none⟩ = some (.int .i64 p.1.1.1) ∧ W.cell? ⟨bp, 1, none⟩ = some (.int .i64 p.1.1.2.1) ∧ W.cell? ⟨bp, 2, none⟩ = some (.int .i64 p.1.1.2.2) ∧ W.cell? ⟨bp, 3, none⟩ = some (.int .i64 p.1.2.1.1) ∧ W.cell? ⟨bp, 4, none⟩ = some (.int .i64 p.1.2.1.2.1) ∧ W.cell? ⟨bp, 5, none⟩ = some (.int .i64 p.1.2.1.2.2) ∧ W.cell? ⟨bp, 6, none⟩ = some (.int .i64 p.1.2.2.1) ∧ W.cell? ⟨bp, 7, none⟩ = some (.int .i64 p.1.2.2.2.1) ∧ W.cell? ⟨bp, 8, none⟩ = some (.int .i64 p.1.2.2.2.2) ∧ W.cell? ⟨bp, 9, none⟩ = some (.int .i64 p.2.1) ∧ W.cell? ⟨bx, 0, none⟩ = some (.int .i64 x.1) ∧ W.cell? ⟨bx, 1, none⟩ = some (.int .i64 x.2.1) ∧ W.cell? ⟨bx, 2, none⟩ = some (.int .i64 x.2.2) := by
  obtain ⟨⟨k0, k1, k2, k3, k4, k5, k6, k7, k8, k9, k10⟩, _⟩ := k
  exact ⟨k0, k1, k2, k3, k4, k5, k6, k7, k8, k9, h.1, h.2.1, h.2.2.1⟩
theorem rfst_o (p : Pu) (x : P3) (s c : Int) (w : World) (O : Hid (∀ W, Calls Try.prog 23 #[puv p] W fun e w' => e = .returned (.int .i64 c) ∧ Below W.heap.size W w')) (z : (c != 0) = true) : Calls Try.prog 8 #[puv p, ptv x, .int .i64 s] w fun e w' => e = .returned (.tuple #[.int .i64 0, .int .i64 c]) ∧ Below w.heap.size w w' := by
  have P := Lib.hid (ownPu_alloc (ownPu_new w p 27) (ptc x 23))
  have X := Lib.hid (own_new (w.alloc (pub p 27)) x 23)
  simp only [World.size_alloc] at X
  go_enter Try.func8, Try.ntmps8
  go_wp2_with fail
  refine (O.out _).mono ?_
  rintro e w1 ⟨rfl, hb1⟩
  go_wp2
  go_ret2
  exact ⟨rfl, by (repeat' (first | exact Below.refl _ _ | refine bstep ?_ hb1 | refine Below.setCell ?_ (by simp <;> omega) _ | refine balloc ?_ _ | refine Below.drew ?_ | refine bdrewN ?_ _))⟩
theorem rfst_a (p : Pu) (x : P3) (s c : Int) (w : World) (O : Hid (∀ W, Calls Try.prog 23 #[puv p] W fun e w' => e = .returned (.int .i64 0) ∧ Below W.heap.size W w')) (A : Hid (∀ W, Calls Try.prog 24 #[ptv x, .int .i64 s, .int .i64 0, .int .i64 0] W fun e w' => e = .returned (.int .i64 c) ∧ Below W.heap.size W w')) (z : (c != 0) = true) : Calls Try.prog 8 #[puv p, ptv x, .int .i64 s] w fun e w' => e = .returned (.tuple #[.int .i64 0, .int .i64 c]) ∧ Below w.heap.size w w' := by
  have P := Lib.hid (ownPu_alloc (ownPu_new w p 27) (ptc x 23))
  have X := Lib.hid (own_new (w.alloc (pub p 27)) x 23)
  simp only [World.size_alloc] at X
  go_enter Try.func8, Try.ntmps8
  go_wp2_with fail
  refine (O.out _).mono ?_
  rintro e w1 ⟨rfl, hb1⟩
  obtain ⟨x0, x1, x2⟩ := own_cells (own_below X.out hb1)
  go_wp2_with fail
  refine (A.out _).mono ?_
  rintro e w2 ⟨rfl, hb2⟩
  go_wp2
  go_ret2
  exact ⟨rfl, by (repeat' (first | exact Below.refl _ _ | refine bstep ?_ hb2 | refine bstep ?_ hb1 | refine Below.setCell ?_ (by simp <;> omega) _ | refine balloc ?_ _ | refine Below.drew ?_ | refine bdrewN ?_ _))⟩
set_option maxRecDepth 100000 in
set_option maxHeartbeats 1000000 in
theorem rfst_ok (p : Pu) (x : P3) (s dd : Int) (L : Nat) (w : World) (O : Hid (∀ W, Calls Try.prog 23 #[puv p] W fun e w' => e = .returned (.int .i64 0) ∧ Below W.heap.size W w')) (A : Hid (∀ W, Calls Try.prog 24 #[ptv x, .int .i64 s, .int .i64 0, .int .i64 0] W fun e w' => e = .returned (.int .i64 0) ∧ Below W.heap.size W w')) (N : Hid (∀ W, Calls Try.prog 26 #[p9w p.1, ptv x] W fun e w' => e = .returned (.int .i64 dd) ∧ Below W.heap.size W w')) (TT : Hid (∀ W, Calls Try.prog 25 #[.int .i64 dd, .int .i64 s] W fun e w' => e = .returned (.int .i64 (L : Int)) ∧ W = w')) (t1 : 0 ≤ p.2.1) (t2 : p.2.1 ≤ 1000) (lb : L ≤ 307200) : Calls Try.prog 8 #[puv p, ptv x, .int .i64 s] w fun e w' => e = .returned (.tuple #[.int .i64 (p.2.1 + (L : Int)), .int .i64 0]) ∧ Below w.heap.size w w' := by
  have V0 : IntKind.i64.wrap (p.2.1 + (L : Nat)) = p.2.1 + (L : Nat) := IntWalk.i64_in _ (by omega)
  have P := Lib.hid (ownPu_alloc (ownPu_new w p 27) (ptc x 23))
  have X := Lib.hid (own_new (w.alloc (pub p 27)) x 23)
  simp only [World.size_alloc] at X
  go_enter Try.func8, Try.ntmps8
  go_wp2_with fail
  refine (O.out _).mono ?_
  rintro e w1 ⟨rfl, hb1⟩
  obtain ⟨x0, x1, x2⟩ := own_cells (own_below X.out hb1)
  go_wp2_with fail
  refine (A.out _).mono ?_
  rintro e w2 ⟨rfl, hb2⟩
  have i0 := ownPu_drew (ownPu_below (ownPu_below P.out hb1) hb2)
  have i1 := own_drew (own_below (own_below X.out hb1) hb2)
  clear x0 x1 x2
  go_wp2_with fail
  go_region_held3 (fun w' => w'.cell? ⟨w.heap.size, 0, none⟩ = some (.int .i64 p.1.1.1) ∧ w'.cell? ⟨w.heap.size, 1, none⟩ = some (.int .i64 p.1.1.2.1) ∧ w'.cell? ⟨w.heap.size, 2, none⟩ = some (.int .i64 p.1.1.2.2) ∧ w'.cell? ⟨w.heap.size, 3, none⟩ = some (.int .i64 p.1.2.1.1) ∧ w'.cell? ⟨w.heap.size, 4, none⟩ = some (.int .i64 p.1.2.1.2.1) ∧ w'.cell? ⟨w.heap.size, 5, none⟩ = some (.int .i64 p.1.2.1.2.2) ∧ w'.cell? ⟨w.heap.size, 6, none⟩ = some (.int .i64 p.1.2.2.1) ∧ w'.cell? ⟨w.heap.size, 7, none⟩ = some (.int .i64 p.1.2.2.2.1) ∧ w'.cell? ⟨w.heap.size, 8, none⟩ = some (.int .i64 p.1.2.2.2.2) ∧ w'.cell? ⟨w.heap.size, 9, none⟩ = some (.int .i64 p.2.1) ∧ w'.cell? ⟨w.heap.size + 1, 0, none⟩ = some (.int .i64 x.1) ∧ w'.cell? ⟨w.heap.size + 1, 1, none⟩ = some (.int .i64 x.2.1) ∧ w'.cell? ⟨w.heap.size + 1, 2, none⟩ = some (.int .i64 x.2.2))
    (first | (refine fr_keep i0 i1) | (refine fr_keep q0 q1) | (refine fr_keep ?_ ?_ <;> assumption))
    (first | (go_at_call 26; (with_reducible refine (N.out _).mono ?_); rintro e v0 ⟨rfl, hv0⟩; have q0 := ownPu_below i0 hv0; have q1 := own_below i1 hv0) | (go_at_call 25; (with_reducible refine (TT.out _).mono ?_); rintro e v1 ⟨rfl, rfl⟩))
  all_goals
    go_wp2
    go_ret2
    exact ⟨rfl, by (repeat' (first | exact Below.refl _ _ | refine bstep ?_ hv0 | refine bstep ?_ hb2 | refine bstep ?_ hb1 | refine Below.setCell ?_ (by simp <;> omega) _ | refine balloc ?_ _ | refine Below.drew ?_ | refine bdrewN ?_ _))⟩
theorem rfst_any (p : Pu) (x : P3) (s : Int) (w : World) : Calls Try.prog 8 #[puv p, ptv x, .int .i64 s] w fun e w' => e = .returned (.tuple #[.int .i64 (fstR p x s), .int .i64 (fcode p x s)]) ∧ Below w.heap.size w w' := by
  have O := fun W => one8_any p W
  have A := fun W => ask_any x s 0 0 W
  unfold fstR
  by_cases z : pucode p = 0
  · rw [z] at O
    have e : fcode p x s = acode8 x s 0 0 := by unfold fcode; rw [if_pos z]
    by_cases y : acode8 x s 0 0 = 0
    · rw [e, if_pos y, y]
      rw [y] at A
      obtain ⟨h2, ⟨h3, h4⟩, _⟩ := acode8_ok y
      obtain ⟨k1, _, k2, _⟩ := pucode_ok z
      have b := dist_bd k1 h2
      have tb := tkf_le (nearN p.1 x) s
      exact rfst_ok p x s _ _ w (Lib.hid O) (Lib.hid A) (Lib.hid fun W => rnear8_any p.1 x W (k1.mono (by decide)) (h2.mono (by decide))) (Lib.hid fun W => rtk_any (nearN p.1 x) s W (by omega) h3 h4) k2.1 k2.2 (by omega)
    · rw [e, if_neg y]
      exact rfst_a p x s _ w (Lib.hid O) (Lib.hid A) (bne_iff_ne.2 y)
  · have e : fcode p x s = pucode p := by unfold fcode; rw [if_neg z]
    rw [e, if_neg z]
    exact rfst_o p x s _ w (Lib.hid O) (bne_iff_ne.2 z)
theorem rlst8_o (p : Pu) (x : P3) (s c : Int) (w : World) (O : Hid (∀ W, Calls Try.prog 23 #[puv p] W fun e w' => e = .returned (.int .i64 c) ∧ Below W.heap.size W w')) (z : (c != 0) = true) : Calls Try.prog 10 #[puv p, ptv x, .int .i64 s] w fun e w' => e = .returned (.tuple #[.int .i64 0, .int .i64 c]) ∧ Below w.heap.size w w' := by
  have P := Lib.hid (ownPu_alloc (ownPu_new w p 27) (ptc x 23))
  have X := Lib.hid (own_new (w.alloc (pub p 27)) x 23)
  simp only [World.size_alloc] at X
  go_enter Try.func10, Try.ntmps10
  go_wp2_with fail
  refine (O.out _).mono ?_
  rintro e w1 ⟨rfl, hb1⟩
  go_wp2
  go_ret2
  exact ⟨rfl, by (repeat' (first | exact Below.refl _ _ | refine bstep ?_ hb1 | refine Below.setCell ?_ (by simp <;> omega) _ | refine balloc ?_ _ | refine Below.drew ?_ | refine bdrewN ?_ _))⟩
theorem rlst8_a (p : Pu) (x : P3) (s c : Int) (w : World) (O : Hid (∀ W, Calls Try.prog 23 #[puv p] W fun e w' => e = .returned (.int .i64 0) ∧ Below W.heap.size W w')) (A : Hid (∀ W, Calls Try.prog 24 #[ptv x, .int .i64 s, .int .i64 0, .int .i64 0] W fun e w' => e = .returned (.int .i64 c) ∧ Below W.heap.size W w')) (z : (c != 0) = true) : Calls Try.prog 10 #[puv p, ptv x, .int .i64 s] w fun e w' => e = .returned (.tuple #[.int .i64 0, .int .i64 c]) ∧ Below w.heap.size w w' := by
  have P := Lib.hid (ownPu_alloc (ownPu_new w p 27) (ptc x 23))
  have X := Lib.hid (own_new (w.alloc (pub p 27)) x 23)
  simp only [World.size_alloc] at X
  go_enter Try.func10, Try.ntmps10
  go_wp2_with fail
  refine (O.out _).mono ?_
  rintro e w1 ⟨rfl, hb1⟩
  obtain ⟨x0, x1, x2⟩ := own_cells (own_below X.out hb1)
  go_wp2_with fail
  refine (A.out _).mono ?_
  rintro e w2 ⟨rfl, hb2⟩
  go_wp2
  go_ret2
  exact ⟨rfl, by (repeat' (first | exact Below.refl _ _ | refine bstep ?_ hb2 | refine bstep ?_ hb1 | refine Below.setCell ?_ (by simp <;> omega) _ | refine balloc ?_ _ | refine Below.drew ?_ | refine bdrewN ?_ _))⟩
set_option maxRecDepth 100000 in
set_option maxHeartbeats 1000000 in
theorem rlst8_ok (p : Pu) (x : P3) (s dd : Int) (L : Nat) (w : World) (O : Hid (∀ W, Calls Try.prog 23 #[puv p] W fun e w' => e = .returned (.int .i64 0) ∧ Below W.heap.size W w')) (A : Hid (∀ W, Calls Try.prog 24 #[ptv x, .int .i64 s, .int .i64 0, .int .i64 0] W fun e w' => e = .returned (.int .i64 0) ∧ Below W.heap.size W w')) (N : Hid (∀ W, Calls Try.prog 28 #[p9w p.1, ptv x] W fun e w' => e = .returned (.int .i64 dd) ∧ Below W.heap.size W w')) (TT : Hid (∀ W, Calls Try.prog 25 #[.int .i64 dd, .int .i64 s] W fun e w' => e = .returned (.int .i64 (L : Int)) ∧ W = w')) (t1 : 0 ≤ p.2.1) (t2 : p.2.1 ≤ 1000) (lb : L ≤ 307200) : Calls Try.prog 10 #[puv p, ptv x, .int .i64 s] w fun e w' => e = .returned (.tuple #[.int .i64 (p.2.1 + (L : Int)), .int .i64 0]) ∧ Below w.heap.size w w' := by
  have V0 : IntKind.i64.wrap (p.2.1 + (L : Nat)) = p.2.1 + (L : Nat) := IntWalk.i64_in _ (by omega)
  have P := Lib.hid (ownPu_alloc (ownPu_new w p 27) (ptc x 23))
  have X := Lib.hid (own_new (w.alloc (pub p 27)) x 23)
  simp only [World.size_alloc] at X
  go_enter Try.func10, Try.ntmps10
  go_wp2_with fail
  refine (O.out _).mono ?_
  rintro e w1 ⟨rfl, hb1⟩
  obtain ⟨x0, x1, x2⟩ := own_cells (own_below X.out hb1)
  go_wp2_with fail
  refine (A.out _).mono ?_
  rintro e w2 ⟨rfl, hb2⟩
  have i0 := ownPu_drew (ownPu_below (ownPu_below P.out hb1) hb2)
  have i1 := own_drew (own_below (own_below X.out hb1) hb2)
  clear x0 x1 x2
  go_wp2_with fail
  go_region_held3 (fun w' => w'.cell? ⟨w.heap.size, 0, none⟩ = some (.int .i64 p.1.1.1) ∧ w'.cell? ⟨w.heap.size, 1, none⟩ = some (.int .i64 p.1.1.2.1) ∧ w'.cell? ⟨w.heap.size, 2, none⟩ = some (.int .i64 p.1.1.2.2) ∧ w'.cell? ⟨w.heap.size, 3, none⟩ = some (.int .i64 p.1.2.1.1) ∧ w'.cell? ⟨w.heap.size, 4, none⟩ = some (.int .i64 p.1.2.1.2.1) ∧ w'.cell? ⟨w.heap.size, 5, none⟩ = some (.int .i64 p.1.2.1.2.2) ∧ w'.cell? ⟨w.heap.size, 6, none⟩ = some (.int .i64 p.1.2.2.1) ∧ w'.cell? ⟨w.heap.size, 7, none⟩ = some (.int .i64 p.1.2.2.2.1) ∧ w'.cell? ⟨w.heap.size, 8, none⟩ = some (.int .i64 p.1.2.2.2.2) ∧ w'.cell? ⟨w.heap.size, 9, none⟩ = some (.int .i64 p.2.1) ∧ w'.cell? ⟨w.heap.size + 1, 0, none⟩ = some (.int .i64 x.1) ∧ w'.cell? ⟨w.heap.size + 1, 1, none⟩ = some (.int .i64 x.2.1) ∧ w'.cell? ⟨w.heap.size + 1, 2, none⟩ = some (.int .i64 x.2.2))
    (first | (refine fr_keep i0 i1) | (refine fr_keep q0 q1) | (refine fr_keep ?_ ?_ <;> assumption))
    (first | (go_at_call 28; (with_reducible refine (N.out _).mono ?_); rintro e v0 ⟨rfl, hv0⟩; have q0 := ownPu_below i0 hv0; have q1 := own_below i1 hv0) | (go_at_call 25; (with_reducible refine (TT.out _).mono ?_); rintro e v1 ⟨rfl, rfl⟩))
  all_goals
    go_wp2
    go_ret2
    exact ⟨rfl, by (repeat' (first | exact Below.refl _ _ | refine bstep ?_ hv0 | refine bstep ?_ hb2 | refine bstep ?_ hb1 | refine Below.setCell ?_ (by simp <;> omega) _ | refine balloc ?_ _ | refine Below.drew ?_ | refine bdrewN ?_ _))⟩
theorem rlst8_any (p : Pu) (x : P3) (s : Int) (w : World) : Calls Try.prog 10 #[puv p, ptv x, .int .i64 s] w fun e w' => e = .returned (.tuple #[.int .i64 (lst8R p x s), .int .i64 (fcode p x s)]) ∧ Below w.heap.size w w' := by
  have O := fun W => one8_any p W
  have A := fun W => ask_any x s 0 0 W
  unfold lst8R
  by_cases z : pucode p = 0
  · rw [z] at O
    have e : fcode p x s = acode8 x s 0 0 := by unfold fcode; rw [if_pos z]
    by_cases y : acode8 x s 0 0 = 0
    · rw [e, if_pos y, y]
      rw [y] at A
      obtain ⟨h2, ⟨h3, h4⟩, _⟩ := acode8_ok y
      obtain ⟨k1, _, k2, _⟩ := pucode_ok z
      have b := dist_bd k1 h2
      have tb := tkf_le (farN p.1 x) s
      exact rlst8_ok p x s _ _ w (Lib.hid O) (Lib.hid A) (Lib.hid fun W => rfar8_any p.1 x W (k1.mono (by decide)) (h2.mono (by decide))) (Lib.hid fun W => rtk_any (farN p.1 x) s W (by omega) h3 h4) k2.1 k2.2 (by omega)
    · rw [e, if_neg y]
      exact rlst8_a p x s _ w (Lib.hid O) (Lib.hid A) (bne_iff_ne.2 y)
  · have e : fcode p x s = pucode p := by unfold fcode; rw [if_neg z]
    rw [e, if_neg z]
    exact rlst8_o p x s _ w (Lib.hid O) (bne_iff_ne.2 z)
theorem trv_1 (a b : P3) (s : Int) (w : World) (L1 : Hid (∀ W, Calls Try.prog 30 #[ptv a] W fun e w' => e = .returned (.bool false) ∧ Below W.heap.size W w')) : Calls Try.prog 12 #[ptv a, ptv b, .int .i64 s] w fun e w' => e = .returned (.tuple #[.int .i64 0, .int .i64 1]) ∧ Below w.heap.size w w' := by
  have X := Lib.hid (own_alloc (own_new w a 23) (ptc b 23))
  have Y := Lib.hid (own_new (w.alloc (ptc a 23)) b 23)
  simp only [World.size_alloc] at Y
  go_enter Try.func12, Try.ntmps12
  go_wp2_with fail
  refine (L1.out _).mono ?_
  rintro e w1 ⟨rfl, hb1⟩
  obtain ⟨y0, y1, y2⟩ := own_cells (own_below Y.out hb1)
  go_wp2
  go_ret2
  exact ⟨rfl, by (repeat' (first | exact Below.refl _ _ | refine bstep ?_ hb1 | refine Below.setCell ?_ (by simp <;> omega) _ | refine balloc ?_ _ | refine Below.drew ?_ | refine bdrewN ?_ _))⟩
theorem trv_2 (a b : P3) (s : Int) (w : World) (L1 : Hid (∀ W, Calls Try.prog 30 #[ptv a] W fun e w' => e = .returned (.bool true) ∧ Below W.heap.size W w')) (L2 : Hid (∀ W, Calls Try.prog 30 #[ptv b] W fun e w' => e = .returned (.bool false) ∧ Below W.heap.size W w')) : Calls Try.prog 12 #[ptv a, ptv b, .int .i64 s] w fun e w' => e = .returned (.tuple #[.int .i64 0, .int .i64 1]) ∧ Below w.heap.size w w' := by
  have X := Lib.hid (own_alloc (own_new w a 23) (ptc b 23))
  have Y := Lib.hid (own_new (w.alloc (ptc a 23)) b 23)
  simp only [World.size_alloc] at Y
  go_enter Try.func12, Try.ntmps12
  go_wp2_with fail
  refine (L1.out _).mono ?_
  rintro e w1 ⟨rfl, hb1⟩
  obtain ⟨y0, y1, y2⟩ := own_cells (own_below Y.out hb1)
  go_wp2_with fail
  refine (L2.out _).mono ?_
  rintro e w2 ⟨rfl, hb2⟩
  go_wp2
  go_ret2
  exact ⟨rfl, by (repeat' (first | exact Below.refl _ _ | refine bstep ?_ hb2 | refine bstep ?_ hb1 | refine Below.setCell ?_ (by simp <;> omega) _ | refine balloc ?_ _ | refine Below.drew ?_ | refine bdrewN ?_ _))⟩
theorem trv_3 (a b : P3) (s : Int) (w : World) (L1 : Hid (∀ W, Calls Try.prog 30 #[ptv a] W fun e w' => e = .returned (.bool true) ∧ Below W.heap.size W w')) (L2 : Hid (∀ W, Calls Try.prog 30 #[ptv b] W fun e w' => e = .returned (.bool true) ∧ Below W.heap.size W w')) (L3 : Hid (∀ W, Calls Try.prog 31 #[.int .i64 s] W fun e w' => e = .returned (.bool false) ∧ W = w')) : Calls Try.prog 12 #[ptv a, ptv b, .int .i64 s] w fun e w' => e = .returned (.tuple #[.int .i64 0, .int .i64 1]) ∧ Below w.heap.size w w' := by
  have X := Lib.hid (own_alloc (own_new w a 23) (ptc b 23))
  have Y := Lib.hid (own_new (w.alloc (ptc a 23)) b 23)
  simp only [World.size_alloc] at Y
  go_enter Try.func12, Try.ntmps12
  go_wp2_with fail
  refine (L1.out _).mono ?_
  rintro e w1 ⟨rfl, hb1⟩
  obtain ⟨y0, y1, y2⟩ := own_cells (own_below Y.out hb1)
  go_wp2_with fail
  refine (L2.out _).mono ?_
  rintro e w2 ⟨rfl, hb2⟩
  go_wp2_with fail
  refine (L3.out _).mono ?_
  rintro e w3 ⟨rfl, rfl⟩
  go_wp2
  go_ret2
  exact ⟨rfl, by (repeat' (first | exact Below.refl _ _ | refine bstep ?_ hb2 | refine bstep ?_ hb1 | refine Below.setCell ?_ (by simp <;> omega) _ | refine balloc ?_ _ | refine Below.drew ?_ | refine bdrewN ?_ _))⟩
theorem trv_4 (a b : P3) (s dd : Int) (L : Nat) (w : World) (L1 : Hid (∀ W, Calls Try.prog 30 #[ptv a] W fun e w' => e = .returned (.bool true) ∧ Below W.heap.size W w')) (L2 : Hid (∀ W, Calls Try.prog 30 #[ptv b] W fun e w' => e = .returned (.bool true) ∧ Below W.heap.size W w')) (L3 : Hid (∀ W, Calls Try.prog 31 #[.int .i64 s] W fun e w' => e = .returned (.bool true) ∧ W = w')) (N : Hid (∀ W, Calls Try.prog 33 #[ptv a, ptv b] W fun e w' => e = .returned (.int .i64 dd) ∧ Below W.heap.size W w')) (TT : Hid (∀ W, Calls Try.prog 32 #[.int .i64 dd, .int .i64 s] W fun e w' => e = .returned (.int .i64 (L : Int)) ∧ W = w')) : Calls Try.prog 12 #[ptv a, ptv b, .int .i64 s] w fun e w' => e = .returned (.tuple #[.int .i64 (L : Int), .int .i64 0]) ∧ Below w.heap.size w w' := by
  have X := Lib.hid (own_alloc (own_new w a 23) (ptc b 23))
  have Y := Lib.hid (own_new (w.alloc (ptc a 23)) b 23)
  simp only [World.size_alloc] at Y
  go_enter Try.func12, Try.ntmps12
  go_wp2_with fail
  refine (L1.out _).mono ?_
  rintro e w1 ⟨rfl, hb1⟩
  obtain ⟨y0, y1, y2⟩ := own_cells (own_below Y.out hb1)
  go_wp2_with fail
  refine (L2.out _).mono ?_
  rintro e w2 ⟨rfl, hb2⟩
  go_wp2_with fail
  refine (L3.out _).mono ?_
  rintro e w3 ⟨rfl, rfl⟩
  obtain ⟨x0, x1, x2⟩ := own_cells (own_below (own_below X.out hb1) hb2)
  obtain ⟨z0, z1, z2⟩ := own_cells (own_below (own_below Y.out hb1) hb2)
  clear y0 y1 y2
  go_wp2_with fail
  refine (N.out _).mono ?_
  rintro e w4 ⟨rfl, hb4⟩
  go_wp2_with fail
  refine (TT.out _).mono ?_
  rintro e w5 ⟨rfl, rfl⟩
  go_wp2
  go_ret2
  exact ⟨rfl, by (repeat' (first | exact Below.refl _ _ | refine bstep ?_ hb4 | refine bstep ?_ hb2 | refine bstep ?_ hb1 | refine Below.setCell ?_ (by simp <;> omega) _ | refine balloc ?_ _ | refine Below.drew ?_ | refine bdrewN ?_ _))⟩
def trcode (a b : P3) (s : Int) : Int := if inP 256 a && (inP 256 b && rngB s 1 16) then 0 else 1
def trvR (a b : P3) (s : Int) : Int := if trcode a b s = 0 then (tkf (sq (sub a b)) s : Nat) else 0
theorem sq_sub (a b : P3) : sq (sub a b) = sq (sub b a) := by
  have h : ∀ x y : Int, (x - y) * (x - y) = (y - x) * (y - x) := fun x y => by rw [← Int.neg_sub y x, Int.neg_mul_neg]
  show (a.1 - b.1) * (a.1 - b.1) + (a.2.1 - b.2.1) * (a.2.1 - b.2.1) + (a.2.2 - b.2.2) * (a.2.2 - b.2.2) = (b.1 - a.1) * (b.1 - a.1) + (b.2.1 - a.2.1) * (b.2.1 - a.2.1) + (b.2.2 - a.2.2) * (b.2.2 - a.2.2)
  rw [h a.1, h a.2.1, h a.2.2]
theorem trcode_sym (a b : P3) (s : Int) : trcode a b s = trcode b a s := by
  unfold trcode
  cases inP 256 a <;> cases inP 256 b <;> rfl
theorem trvR_sym (a b : P3) (s : Int) : trvR a b s = trvR b a s := by
  unfold trvR
  rw [trcode_sym, sq_sub]
theorem trv_bd {a b : P3} (h : BdP 256 a) (k : BdP 256 b) : BdP 512 (sub a b) ∧ 0 ≤ sq (sub a b) ∧ sq (sub a b) ≤ 786432 := by
  have z := sub_bd h k
  refine ⟨z.mono (by decide), ?_⟩
  obtain ⟨h1, h2, h3, h4, h5, h6⟩ := z
  have x := mul_bd h1 h2 h1 h2
  have y := mul_bd h3 h4 h3 h4
  have z := mul_bd h5 h6 h5 h6
  have x0 := sq_pos' (sub a b).1
  have y0 := sq_pos' (sub a b).2.1
  have z0 := sq_pos' (sub a b).2.2
  unfold sq dot
  omega
theorem trv_any (a b : P3) (s : Int) (w : World) : Calls Try.prog 12 #[ptv a, ptv b, .int .i64 s] w fun e w' => e = .returned (.tuple #[.int .i64 (trvR a b s), .int .i64 (trcode a b s)]) ∧ Below w.heap.size w w' := by
  have A1 := fun W => lis_any a W
  have A2 := fun W => lis_any b W
  have A3 := fun W => spd_any s W
  unfold trvR trcode
  cases h1 : inP 256 a with
  | false => rw [h1] at A1; exact trv_1 a b s w (Lib.hid A1)
  | true =>
    rw [h1] at A1
    cases h2 : inP 256 b with
    | false => rw [h2] at A2; exact trv_2 a b s w (Lib.hid A1) (Lib.hid A2)
    | true =>
      rw [h2] at A2
      cases h3 : rngB s 1 16 with
      | false => rw [h3] at A3; exact trv_3 a b s w (Lib.hid A1) (Lib.hid A2) (Lib.hid A3)
      | true =>
        rw [h3] at A3
        have b1 := trv_bd (inP_iff.1 h1) (inP_iff.1 h2)
        exact trv_4 a b s _ _ w (Lib.hid A1) (Lib.hid A2) (Lib.hid A3) (Lib.hid fun W => sdist_any a b W (b1.1.mono (by decide))) (Lib.hid fun W => tks_any _ s W (by omega) (rngB_iff.1 h3).1 (rngB_iff.1 h3).2)
theorem rtrv_1 (a b : P3) (s : Int) (w : World) (S1 : Hid (∀ W, Calls Try.prog 34 #[ptv b, .int .i64 256] W fun e w' => e = .returned (.bool false) ∧ Below W.heap.size W w')) : Calls Try.prog 13 #[ptv a, ptv b, .int .i64 s] w fun e w' => e = .returned (.tuple #[.int .i64 0, .int .i64 1]) ∧ Below w.heap.size w w' := by
  have X := Lib.hid (own_alloc (own_new w a 23) (ptc b 23))
  have Y := Lib.hid (own_new (w.alloc (ptc a 23)) b 23)
  simp only [World.size_alloc] at Y
  go_enter Try.func13, Try.ntmps13
  go_wp2_with fail
  refine (S1.out _).mono ?_
  rintro e w1 ⟨rfl, hb1⟩
  go_wp2
  go_ret2
  exact ⟨rfl, by (repeat' (first | exact Below.refl _ _ | refine bstep ?_ hb1 | refine Below.setCell ?_ (by simp <;> omega) _ | refine balloc ?_ _ | refine Below.drew ?_ | refine bdrewN ?_ _))⟩
theorem rtrv_2 (a b : P3) (s c : Int) (w : World) (S1 : Hid (∀ W, Calls Try.prog 34 #[ptv b, .int .i64 256] W fun e w' => e = .returned (.bool true) ∧ Below W.heap.size W w')) (A : Hid (∀ W, Calls Try.prog 24 #[ptv a, .int .i64 s, .int .i64 0, .int .i64 0] W fun e w' => e = .returned (.int .i64 c) ∧ Below W.heap.size W w')) (z : (c != 0) = true) : Calls Try.prog 13 #[ptv a, ptv b, .int .i64 s] w fun e w' => e = .returned (.tuple #[.int .i64 0, .int .i64 c]) ∧ Below w.heap.size w w' := by
  have X := Lib.hid (own_alloc (own_new w a 23) (ptc b 23))
  have Y := Lib.hid (own_new (w.alloc (ptc a 23)) b 23)
  simp only [World.size_alloc] at Y
  go_enter Try.func13, Try.ntmps13
  go_wp2_with fail
  refine (S1.out _).mono ?_
  rintro e w1 ⟨rfl, hb1⟩
  obtain ⟨x0, x1, x2⟩ := own_cells (own_below X.out hb1)
  go_wp2_with fail
  refine (A.out _).mono ?_
  rintro e w2 ⟨rfl, hb2⟩
  clear x0 x1 x2
  go_wp2
  go_ret2
  exact ⟨rfl, by (repeat' (first | exact Below.refl _ _ | refine bstep ?_ hb2 | refine bstep ?_ hb1 | refine Below.setCell ?_ (by simp <;> omega) _ | refine balloc ?_ _ | refine Below.drew ?_ | refine bdrewN ?_ _))⟩
theorem rtrv_3 (a b : P3) (s dd : Int) (L : Nat) (w : World) (S1 : Hid (∀ W, Calls Try.prog 34 #[ptv b, .int .i64 256] W fun e w' => e = .returned (.bool true) ∧ Below W.heap.size W w')) (A : Hid (∀ W, Calls Try.prog 24 #[ptv a, .int .i64 s, .int .i64 0, .int .i64 0] W fun e w' => e = .returned (.int .i64 0) ∧ Below W.heap.size W w')) (M : Hid (∀ W, Calls Try.prog 36 #[ptv a, ptv b] W fun e w' => e = .returned (ptv (sub a b)) ∧ Below W.heap.size W w')) (N : Hid (∀ W, Calls Try.prog 35 #[ptv (sub a b)] W fun e w' => e = .returned (.int .i64 dd) ∧ Below W.heap.size W w')) (TT : Hid (∀ W, Calls Try.prog 25 #[.int .i64 dd, .int .i64 s] W fun e w' => e = .returned (.int .i64 (L : Int)) ∧ W = w')) : Calls Try.prog 13 #[ptv a, ptv b, .int .i64 s] w fun e w' => e = .returned (.tuple #[.int .i64 (L : Int), .int .i64 0]) ∧ Below w.heap.size w w' := by
  have X := Lib.hid (own_alloc (own_new w a 23) (ptc b 23))
  have Y := Lib.hid (own_new (w.alloc (ptc a 23)) b 23)
  simp only [World.size_alloc] at Y
  go_enter Try.func13, Try.ntmps13
  go_wp2_with fail
  refine (S1.out _).mono ?_
  rintro e w1 ⟨rfl, hb1⟩
  obtain ⟨x0, x1, x2⟩ := own_cells (own_below X.out hb1)
  go_wp2_with fail
  refine (A.out _).mono ?_
  rintro e w2 ⟨rfl, hb2⟩
  clear x0 x1 x2
  obtain ⟨x0, x1, x2⟩ := own_cells (own_below (own_below X.out hb1) hb2)
  obtain ⟨z0, z1, z2⟩ := own_cells (own_below (own_below Y.out hb1) hb2)
  go_wp2_with fail
  refine (M.out _).mono ?_
  rintro e w3 ⟨rfl, hb3⟩
  go_wp2_with fail
  refine (N.out _).mono ?_
  rintro e w4 ⟨rfl, hb4⟩
  go_wp2_with fail
  refine (TT.out _).mono ?_
  rintro e w5 ⟨rfl, rfl⟩
  go_wp2
  go_ret2
  exact ⟨rfl, by (repeat' (first | exact Below.refl _ _ | refine bstep ?_ hb4 | refine bstep ?_ hb3 | refine bstep ?_ hb2 | refine bstep ?_ hb1 | refine Below.setCell ?_ (by simp <;> omega) _ | refine balloc ?_ _ | refine Below.drew ?_ | refine bdrewN ?_ _))⟩
theorem rtrv_any (a b : P3) (s : Int) (w : World) : Calls Try.prog 13 #[ptv a, ptv b, .int .i64 s] w fun e w' => e = .returned (.tuple #[.int .i64 (trvR a b s), .int .i64 (trcode a b s)]) ∧ Below w.heap.size w w' := by
  have A1 := fun W => small_any b 256 W (by decide) (by decide)
  have A2 := fun W => ask_any a s 0 0 W
  have e : acode8 a s 0 0 = if inP 256 a && rngB s 1 16 then 0 else 1 := by
    unfold acode8
    rw [show rngB 0 0 3 = true by decide, show rngB 0 0 2000 = true by decide]
    cases inP 256 a <;> cases rngB s 1 16 <;> rfl
  rw [e] at A2
  unfold trvR trcode
  cases h2 : inP 256 b with
  | false =>
    rw [h2] at A1
    rw [show (inP 256 a && (false && rngB s 1 16)) = false by cases inP 256 a <;> rfl]
    exact rtrv_1 a b s w (Lib.hid A1)
  | true =>
    rw [h2] at A1
    rw [show (inP 256 a && (true && rngB s 1 16)) = (inP 256 a && rngB s 1 16) by cases inP 256 a <;> rfl]
    cases h1 : (inP 256 a && rngB s 1 16) with
    | false =>
      rw [h1] at A2
      exact rtrv_2 a b s 1 w (Lib.hid A1) (Lib.hid A2) (by decide)
    | true =>
      rw [h1] at A2
      rw [Bool.and_eq_true] at h1
      have b1 := trv_bd (inP_iff.1 h1.1) (inP_iff.1 h2)
      exact rtrv_3 a b s _ _ w (Lib.hid A1) (Lib.hid A2) (Lib.hid fun W => minus4_any a b W (b1.1.mono (by decide))) (Lib.hid fun W => square4_any (sub a b) W (pw_of b1.1 (by decide))) (Lib.hid fun W => rtk_any _ s W (by omega) (rngB_iff.1 h1.2).1 (rngB_iff.1 h1.2).2)

end Go.Proofs.Ytlegalibjkeccaa
