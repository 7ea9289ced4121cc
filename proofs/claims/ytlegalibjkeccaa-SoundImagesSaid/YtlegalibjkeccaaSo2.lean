/-
  The contracts of the ticks that sound takes, and of the document's distances; that they are the program's.
-/
import Derived.Test.YtlegalibjkeccaaSo1
import Derived.StillTailTactics
namespace Go.Proofs.Ytlegalibjkeccaa
open Go.ChangeShapes Go.WideShapes Go.RowKit
open Sh
attribute [local go_sem 1000000] run_min_mn run_max_mx
attribute [local go_sem high] run_max3' run_min3'
/-- the smallest t, from some number on, at which the square is no longer below n -/
def tkG (n s : Int) : Nat → Nat → Nat
  | 0, t => t
  | f + 1, t => if s * t * (s * t) < n then tkG n s f (t + 1) else t
def tkf (n s : Int) : Nat := tkG n s n.toNat 0
theorem tkG_low (n s : Int) : ∀ (f t u : Nat), t ≤ u → u < tkG n s f t → s * u * (s * u) < n
  | 0, t, u, h, k => absurd k (by show ¬ u < t; omega)
  | f + 1, t, u, h, k => by
    have k : u < (if s * t * (s * t) < n then tkG n s f (t + 1) else t) := k
    by_cases c : s * t * (s * t) < n
    · rw [if_pos c] at k
      by_cases e : u = t
      · subst e; exact c
      · exact tkG_low n s f (t + 1) u (by omega) k
    · rw [if_neg c] at k
      omega
theorem tkG_le (n s : Int) : ∀ (f t : Nat), tkG n s f t ≤ t + f
  | 0, t => Nat.le_refl _
  | f + 1, t => by
    show (if _ then _ else _) ≤ _
    split
    · have := tkG_le n s f (t + 1); omega
    · omega
theorem tkG_end (n s : Int) : ∀ (f t : Nat), tkG n s f t < t + f → ¬ s * (tkG n s f t : Nat) * (s * (tkG n s f t : Nat)) < n
  | 0, t, h => absurd h (by show ¬ t < t + 0; omega)
  | f + 1, t, h => by
    have e : tkG n s (f + 1) t = if s * t * (s * t) < n then tkG n s f (t + 1) else t := rfl
    rw [e] at h ⊢
    by_cases c : s * t * (s * t) < n
    · rw [if_pos c] at h ⊢
      exact tkG_end n s f (t + 1) (by omega)
    · rw [if_neg c]
      exact c
theorem tk_grow {n s : Int} (hs : 1 ≤ s) {t : Nat} (h : n ≤ t) : ¬ s * t * (s * t) < n := by
  have a : (t : Int) ≤ s * t := by
    have := Int.mul_le_mul_of_nonneg_right hs (Int.natCast_nonneg t)
    omega
  by_cases z : t = 0
  · subst z; simp; omega
  · have b : s * t * 1 ≤ s * t * (s * t) := Int.mul_le_mul_of_nonneg_left (by omega) (by omega)
    omega
theorem tkf_low {n s : Int} {u : Nat} (h : u < tkf n s) : s * u * (s * u) < n := tkG_low n s _ 0 u (Nat.zero_le _) h
theorem tkf_end {n s : Int} (hs : 1 ≤ s) : ¬ s * (tkf n s : Nat) * (s * (tkf n s : Nat)) < n := by
  by_cases c : tkf n s < n.toNat
  · exact tkG_end n s n.toNat 0 (by show tkG _ _ _ _ < _; unfold tkf at c; omega)
  · exact tk_grow hs (by omega)
theorem tkf_le (n s : Int) : tkf n s ≤ n.toNat := by
  have := tkG_le n s n.toNat 0
  unfold tkf; omega
theorem tk_sq (s t : Int) : s * s * t * t = s * t * (s * t) := by
  ac_rfl
theorem tk_bd {s : Int} {t : Nat} (h1 : 1 ≤ s) (h2 : s ≤ 16) (h3 : t ≤ 100000000) : (0 ≤ s * t ∧ s * t ≤ 1600000000) ∧ (0 ≤ s * t * (s * t) ∧ s * t * (s * t) ≤ 2560000000000000000) ∧ (0 ≤ s * s ∧ s * s ≤ 256) ∧ (0 ≤ s * s * t ∧ s * s * t ≤ 25600000000) ∧ s * s * t * t = s * t * (s * t) := by
  have a := Sh.mul_bd (x := s) (y := (t : Int)) (A := 16) (B := 100000000) (by omega) h2 (by omega) (by omega)
  have a0 : 0 ≤ s * t := Int.mul_nonneg (by omega) (by omega)
  have b := Sh.mul_bd (x := s * t) (y := s * t) (A := 1600000000) (B := 1600000000) (by omega) (by omega) (by omega) (by omega)
  have c := Sh.mul_bd (x := s) (y := s) (A := 16) (B := 16) (by omega) h2 (by omega) h2
  have c0 : 0 ≤ s * s := Int.mul_nonneg (by omega) (by omega)
  have d := Sh.mul_bd (x := s * s) (y := (t : Int)) (A := 256) (B := 100000000) (by omega) (by omega) (by omega) (by omega)
  have d0 : 0 ≤ s * s * t := Int.mul_nonneg (by omega) (by omega)
  exact ⟨⟨a0, by omega⟩, ⟨sq_pos' _, by omega⟩, ⟨c0, by omega⟩, ⟨d0, by omega⟩, tk_sq s t⟩
set_option maxRecDepth 100000 in
set_option maxHeartbeats 1000000 in
theorem tks_any (n s : Int) (w : World) (h1 : n ≤ 100000000) (h2 : 1 ≤ s) (h3 : s ≤ 16) :
    Calls Try.prog 32 #[.int .i64 n, .int .i64 s] w fun e w' => e = .returned (.int .i64 (tkf n s : Nat)) ∧ w = w' := by
  have LO := Lib.hid (fun (u : Nat) (h : u < tkf n s) => tkf_low h)
  have EN := Lib.hid (tkf_end (n := n) h2)
  have LE : tkf n s ≤ 100000000 := by have := tkf_le n s; omega
  generalize tkf n s = L at *
  go_enter Try.func32, Try.ntmps32
  go_wp2_with fail
  go_loopw [5] (fun tv wr => ∃ k : Nat, k ≤ L ∧ tv = .int .i64 k ∧ wr = w) (fun tv _ => L - (intOf tv).toNat)
  case atStart => exact ⟨0, Nat.zero_le _, rfl, rfl⟩
  case round =>
    obtain ⟨k, hk, rfl, rfl⟩ := hrel
    obtain ⟨⟨b1, b2⟩, ⟨b3, b4⟩, ⟨b5, b6⟩, ⟨b7, b8⟩, b9⟩ := tk_bd h2 h3 (Nat.le_trans hk LE)
    have hkl : (k : Int) ≤ 100000000 := by omega
    by_cases hlt : k < L
    · have T := LO.out k hlt
      have SQU := Lib.hid (fun W => sqr_any (s * (k : Int)) W ⟨by omega, by omega⟩)
      clear LO EN
      go_wp2_with fail
      refine (SQU.out _).mono ?_
      rintro e w1 ⟨rfl, rfl⟩
      go_wp2
      go_roundw
      case rel => exact ⟨k + 1, by omega, by go_num, by first | rfl | trivial⟩
      case measure => simp [intOf]; omega
    · obtain rfl : k = L := by omega
      have T := EN.out
      have SQU := Lib.hid (fun W => sqr_any (s * (k : Int)) W ⟨by omega, by omega⟩)
      clear LO EN
      go_wp2_with fail
      refine (SQU.out _).mono ?_
      rintro e w1 ⟨rfl, rfl⟩
      go_wp2
      go_ret
      exact ⟨rfl, rfl⟩
set_option maxRecDepth 100000 in
set_option maxHeartbeats 1000000 in
theorem rtk_any (n s : Int) (w : World) (h1 : n ≤ 100000000) (h2 : 1 ≤ s) (h3 : s ≤ 16) :
    Calls Try.prog 25 #[.int .i64 n, .int .i64 s] w fun e w' => e = .returned (.int .i64 (tkf n s : Nat)) ∧ w = w' := by
  have LO := Lib.hid (fun (u : Nat) (h : u < tkf n s) => tkf_low h)
  have EN := Lib.hid (tkf_end (n := n) h2)
  have LE : tkf n s ≤ 100000000 := by have := tkf_le n s; omega
  generalize tkf n s = L at *
  go_enter Try.func25, Try.ntmps25
  go_wp2_with fail
  go_loopw [5] (fun tv wr => ∃ k : Nat, k ≤ L ∧ tv = .int .i64 k ∧ wr = w) (fun tv _ => L - (intOf tv).toNat)
  case atStart => exact ⟨0, Nat.zero_le _, rfl, rfl⟩
  case round =>
    obtain ⟨k, hk, rfl, rfl⟩ := hrel
    obtain ⟨⟨b1, b2⟩, ⟨b3, b4⟩, ⟨b5, b6⟩, ⟨b7, b8⟩, b9⟩ := tk_bd h2 h3 (Nat.le_trans hk LE)
    have hkl : (k : Int) ≤ 100000000 := by omega
    by_cases hlt : k < L
    · have T := LO.out k hlt
      clear LO EN
      rw [← b9] at b3 b4 T
      clear b9
      go_wp2
      go_roundw
      case rel => exact ⟨k + 1, by omega, by go_num, by first | rfl | trivial⟩
      case measure => simp [intOf]; omega
    · obtain rfl : k = L := by omega
      have T := EN.out
      clear LO EN
      rw [← b9] at b3 b4 T
      clear b9
      go_wp2
      go_ret
      exact ⟨rfl, rfl⟩
def gapN (n lo hi : Int) : Int := Sp.mx (Sp.mx (lo - n) (n - hi)) 0
theorem gap_any (n lo hi : Int) (w : World) (h1 : -4611686018427387904 ≤ lo - n ∧ lo - n ≤ 4611686018427387904) (h2 : -4611686018427387904 ≤ n - hi ∧ n - hi ≤ 4611686018427387904) : Calls Try.prog 47 #[.int .i64 n, .int .i64 lo, .int .i64 hi] w fun e w' => e = .returned (.int .i64 (gapN n lo hi)) ∧ w = w' := by
  obtain ⟨h1, h3⟩ := h1
  obtain ⟨h2, h4⟩ := h2
  unfold gapN
  go_enter Try.func47, Try.ntmps47
  go_wp2
  go_ret
  exact ⟨rfl, rfl⟩
theorem gap_sq (n a b c : Int) : gapN n (lo3' a b c) (hi3' a b c) * gapN n (lo3' a b c) (hi3' a b c) = (n - nst n a b c) * (n - nst n a b c) := by
  have : gapN n (lo3' a b c) (hi3' a b c) = n - nst n a b c ∨ gapN n (lo3' a b c) (hi3' a b c) = -(n - nst n a b c) := by
    unfold gapN nst lo3' hi3' Sp.mn Sp.mx
    (repeat' split) <;> omega
  rcases this with e | e
  · rw [e]
  · rw [e, Int.neg_mul_neg]
theorem gap_bd {B n a b c : Int} (h0 : -B ≤ n ∧ n ≤ B) (h1 : -B ≤ a ∧ a ≤ B) (h2 : -B ≤ b ∧ b ≤ B) (h3 : -B ≤ c ∧ c ≤ B) : (-(2 * B) ≤ gapN n (lo3' a b c) (hi3' a b c) ∧ gapN n (lo3' a b c) (hi3' a b c) ≤ 2 * B) ∧ (-(2 * B) ≤ lo3' a b c - n ∧ lo3' a b c - n ≤ 2 * B) ∧ (-(2 * B) ≤ n - hi3' a b c ∧ n - hi3' a b c ≤ 2 * B) := by
  unfold gapN lo3' hi3' Sp.mn Sp.mx
  (repeat' split) <;> omega
def gapP (t : P9) (x : P3) : P3 := (gapN x.1 (lo3' t.1.1 t.2.1.1 t.2.2.1) (hi3' t.1.1 t.2.1.1 t.2.2.1), gapN x.2.1 (lo3' t.1.2.1 t.2.1.2.1 t.2.2.2.1) (hi3' t.1.2.1 t.2.1.2.1 t.2.2.2.1), gapN x.2.2 (lo3' t.1.2.2 t.2.1.2.2 t.2.2.2.2) (hi3' t.1.2.2 t.2.1.2.2 t.2.2.2.2))
theorem gapP_sq (t : P9) (x : P3) : sq (gapP t x) = nearN t x := by
  have a := gap_sq x.1 t.1.1 t.2.1.1 t.2.2.1
  have b := gap_sq x.2.1 t.1.2.1 t.2.1.2.1 t.2.2.2.1
  have c := gap_sq x.2.2 t.1.2.2 t.2.1.2.2 t.2.2.2.2
  show _ * _ + _ * _ + _ * _ = (x.1 - nst x.1 _ _ _) * (x.1 - nst x.1 _ _ _) + (x.2.1 - nst x.2.1 _ _ _) * (x.2.1 - nst x.2.1 _ _ _) + (x.2.2 - nst x.2.2 _ _ _) * (x.2.2 - nst x.2.2 _ _ _)
  rw [← a, ← b, ← c]
  rfl
theorem pw_of {B : Int} {a : P3} (h : BdP B a) (hB : B ≤ 1000000000) : BdP 1152921504606846976 (pw a a) := by
  obtain ⟨h1, h2, h3, h4, h5, h6⟩ := h.mono hB
  have x := mul_bd h1 h2 h1 h2
  have y := mul_bd h3 h4 h3 h4
  have z := mul_bd h5 h6 h5 h6
  exact ⟨by have := x.1; unfold pw; dsimp only; omega, by have := x.2; unfold pw; dsimp only; omega, by have := y.1; unfold pw; dsimp only; omega, by have := y.2; unfold pw; dsimp only; omega, by have := z.1; unfold pw; dsimp only; omega, by have := z.2; unfold pw; dsimp only; omega⟩
theorem minmax_lo (P : Program) (w : World) (ts : Array TypeId) (t : TypeId) (x y z : Int) : (Builtin.min_ ts t #[.int .i64 x, .int .i64 y, .int .i64 z]).run P w = .ok (.int .i64 (lo3' x y z)) w := run_min3' P w ts t x y z
theorem minmax_hi (P : Program) (w : World) (ts : Array TypeId) (t : TypeId) (x y z : Int) : (Builtin.max_ ts t #[.int .i64 x, .int .i64 y, .int .i64 z]).run P w = .ok (.int .i64 (hi3' x y z)) w := run_max3' P w ts t x y z
attribute [-go_sem] run_max3' run_min3'
attribute [local go_sem 2000000] minmax_lo minmax_hi
set_option maxRecDepth 100000 in
set_option maxHeartbeats 2000000 in
theorem rnear8_any (t : P9) (x : P3) (w : World) (h : BdT 500000000 t) (k : BdP 500000000 x) :
    Calls Try.prog 26 #[pnv t.1 t.2.1 t.2.2, ptv x] w fun e w' => e = .returned (.int .i64 (nearN t x)) ∧ Below w.heap.size w w' := by
  obtain ⟨⟨a1, a2, a3, a4, a5, a6⟩, ⟨b1, b2, b3, b4, b5, b6⟩, ⟨c1, c2, c3, c4, c5, c6⟩⟩ := h
  obtain ⟨k1, k2, k3, k4, k5, k6⟩ := k
  have g1 := gap_bd ⟨k1, k2⟩ ⟨a1, a2⟩ ⟨b1, b2⟩ ⟨c1, c2⟩
  have g2 := gap_bd ⟨k3, k4⟩ ⟨a3, a4⟩ ⟨b3, b4⟩ ⟨c3, c4⟩
  have g3 := gap_bd ⟨k5, k6⟩ ⟨a5, a6⟩ ⟨b5, b6⟩ ⟨c5, c6⟩
  have G1 := Lib.hid (fun W => gap_any x.1 (lo3' t.1.1 t.2.1.1 t.2.2.1) (hi3' t.1.1 t.2.1.1 t.2.2.1) W (by omega) (by omega))
  have G2 := Lib.hid (fun W => gap_any x.2.1 (lo3' t.1.2.1 t.2.1.2.1 t.2.2.2.1) (hi3' t.1.2.1 t.2.1.2.1 t.2.2.2.1) W (by omega) (by omega))
  have G3 := Lib.hid (fun W => gap_any x.2.2 (lo3' t.1.2.2 t.2.1.2.2 t.2.2.2.2) (hi3' t.1.2.2 t.2.1.2.2 t.2.2.2.2) W (by omega) (by omega))
  have BB : BdP (2 * 500000000) (gapP t x) := ⟨g1.1.1, g1.1.2, g2.1.1, g2.1.2, g3.1.1, g3.1.2⟩
  have SS := Lib.hid (fun W => square4_any (gapP t x) W (pw_of BB (by decide)))
  unfold gapP at SS
  rw [← gapP_sq]
  unfold gapP
  clear g1 g2 g3 BB a1 a2 a3 a4 a5 a6 b1 b2 b3 b4 b5 b6 c1 c2 c3 c4 c5 c6 k1 k2 k3 k4 k5 k6
  go_enter Try.func26, Try.ntmps26
  go_wp2_with fail
  obtain ⟨p0, p1, p2, p3, p4, p5, p6, p7, p8⟩ := pan_cells (pan_alloc (pan_new w t.1 t.2.1 t.2.2 25) (ptc x 23))
  obtain ⟨o0, o1, o2⟩ := own_cells (own_new (w.alloc (pnc t.1 t.2.1 t.2.2 25)) x 23)
  have HB := Lib.hid (balloc (balloc (Below.refl _ w) (pnc t.1 t.2.1 t.2.2 25)) (ptc x 23))
  simp only [World.size_alloc] at o0 o1 o2
  generalize (w.alloc (pnc t.1 t.2.1 t.2.2 25)).alloc (ptc x 23) = W0 at *
  refine wp_region_still_tail 70 (by kernel_rfl) (by kernel_rfl) ?_
  simp only [List.append, List.take_succ_cons, List.take_zero, List.drop_succ_cons, List.drop_zero]
  (repeat still_step)
  still_call ((G1.out _).mono (fun _ _ h => ⟨h.1, h.2.symm⟩))
  (repeat still_step)
  still_call ((G2.out _).mono (fun _ _ h => ⟨h.1, h.2.symm⟩))
  (repeat still_step)
  still_call ((G3.out _).mono (fun _ _ h => ⟨h.1, h.2.symm⟩))
  (repeat still_step)
  refine wpStill_nil ?_
  change wpList _ _ _ _ _ (World.drew _)
  go_wp2_with fail
  refine (SS.out _).mono ?_
  rintro e w1 ⟨rfl, hb⟩
  go_wp2
  go_ret
  have hB := HB.out
  exact ⟨rfl, by (repeat' (first | exact Below.refl _ _ | refine bstep ?_ hb | refine bstep ?_ hB | refine Below.setCell ?_ (by simp <;> omega) _ | refine balloc ?_ _ | refine Below.drew ?_ | refine bdrewN ?_ _))⟩
set_option maxRecDepth 100000 in
set_option maxHeartbeats 2000000 in
theorem rfar8_any (t : P9) (x : P3) (w : World) (h : BdT 500000000 t) (k : BdP 500000000 x) :
    Calls Try.prog 28 #[pnv t.1 t.2.1 t.2.2, ptv x] w fun e w' => e = .returned (.int .i64 (farN t x)) ∧ Below w.heap.size w w' := by
  have H1 := Lib.hid ((sub_bd h.1 k).mono (B := 4611686018427387904) (by decide))
  have H2 := Lib.hid ((sub_bd h.2.1 k).mono (B := 4611686018427387904) (by decide))
  have H3 := Lib.hid ((sub_bd h.2.2 k).mono (B := 4611686018427387904) (by decide))
  have S1 := Lib.hid (pw_of (sub_bd h.1 k) (by decide))
  have S2 := Lib.hid (pw_of (sub_bd h.2.1 k) (by decide))
  have S3 := Lib.hid (pw_of (sub_bd h.2.2 k) (by decide))
  unfold farN
  clear h k
  go_enter Try.func28, Try.ntmps28
  go_wp2_with fail
  have i0 := (pan_drew (pan_alloc (pan_new w t.1 t.2.1 t.2.2 25) (.cells #[.int .i64 x.1, .int .i64 x.2.1, .int .i64 x.2.2] 23)))
  have i1 := (own_drew (own_new (w.alloc (.cells #[.int .i64 t.1.1, .int .i64 t.1.2.1, .int .i64 t.1.2.2, .int .i64 t.2.1.1, .int .i64 t.2.1.2.1, .int .i64 t.2.1.2.2, .int .i64 t.2.2.1, .int .i64 t.2.2.2.1, .int .i64 t.2.2.2.2] 25)) x 23))
  simp only [World.size_alloc] at i1
  go_region_held3 (fun w' => w'.cell? ⟨w.heap.size, 0, none⟩ = some (.int .i64 t.1.1) ∧ w'.cell? ⟨w.heap.size, 1, none⟩ = some (.int .i64 t.1.2.1) ∧ w'.cell? ⟨w.heap.size, 2, none⟩ = some (.int .i64 t.1.2.2) ∧ w'.cell? ⟨w.heap.size, 3, none⟩ = some (.int .i64 t.2.1.1) ∧ w'.cell? ⟨w.heap.size, 4, none⟩ = some (.int .i64 t.2.1.2.1) ∧ w'.cell? ⟨w.heap.size, 5, none⟩ = some (.int .i64 t.2.1.2.2) ∧ w'.cell? ⟨w.heap.size, 6, none⟩ = some (.int .i64 t.2.2.1) ∧ w'.cell? ⟨w.heap.size, 7, none⟩ = some (.int .i64 t.2.2.2.1) ∧ w'.cell? ⟨w.heap.size, 8, none⟩ = some (.int .i64 t.2.2.2.2) ∧ w'.cell? ⟨w.heap.size + 1, 0, none⟩ = some (.int .i64 x.1) ∧ w'.cell? ⟨w.heap.size + 1, 1, none⟩ = some (.int .i64 x.2.1) ∧ w'.cell? ⟨w.heap.size + 1, 2, none⟩ = some (.int .i64 x.2.2))
    (first | (refine keep9 (pan_cells ?_) (own_cells ?_) <;> assumption) | (refine keep9 (pan_cells ?_) (own_cells ?_) <;> (refine pan_set ?_ (by omega); refine pan_set ?_ (by omega); refine pan_set ?_ (by omega); assumption)))
    (first | (go_at_call 36; (with_reducible refine (minus4_any t.1 x _ H1.out).mono ?_); rintro e v0 ⟨rfl, hv0⟩; have q0_0 := pan_below i0 hv0; have q0_1 := own_below i1 hv0) | (go_at_call 35; (with_reducible refine (square4_any (sub t.1 x) _ S1.out).mono ?_); rintro e v1 ⟨rfl, hv1⟩; have q1_0 := pan_below q0_0 hv1; have q1_1 := own_below q0_1 hv1) | (go_at_call 36; (with_reducible refine (minus4_any t.2.1 x _ H2.out).mono ?_); rintro e v2 ⟨rfl, hv2⟩; have q2_0 := pan_below q1_0 hv2; have q2_1 := own_below q1_1 hv2) | (go_at_call 35; (with_reducible refine (square4_any (sub t.2.1 x) _ S2.out).mono ?_); rintro e v3 ⟨rfl, hv3⟩; have q3_0 := pan_below q2_0 hv3; have q3_1 := own_below q2_1 hv3) | (go_at_call 36; (with_reducible refine (minus4_any t.2.2 x _ H3.out).mono ?_); rintro e v4 ⟨rfl, hv4⟩; have q4_0 := pan_below q3_0 hv4; have q4_1 := own_below q3_1 hv4) | (go_at_call 35; (with_reducible refine (square4_any (sub t.2.2 x) _ S3.out).mono ?_); rintro e v5 ⟨rfl, hv5⟩; have q5_0 := pan_below q4_0 hv5; have q5_1 := own_below q4_1 hv5))
  all_goals
    go_wp2
    go_ret
    exact ⟨rfl, by (repeat' (first | exact Below.refl _ _ | refine bstep ?_ hv0 | refine bstep ?_ hv1 | refine bstep ?_ hv2 | refine bstep ?_ hv3 | refine bstep ?_ hv4 | refine bstep ?_ hv5 | refine Below.setCell ?_ (by simp <;> omega) _ | refine balloc ?_ _ | refine Below.drew ?_ | refine bdrewN ?_ _))⟩

end Go.Proofs.Ytlegalibjkeccaa
