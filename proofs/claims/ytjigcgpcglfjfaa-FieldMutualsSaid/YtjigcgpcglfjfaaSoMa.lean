/-
  The contracts of the small words of sound: squares, ranges, distances, ticks; in the program and in the document's answer.
  The contracts of the ticks that sound takes, and of the document's distances; that they are the program's.
  The contracts of the errors of pulses and microphones, in the program and in the document's answer.
  The contracts of what a microphone checks, of First, Last and Travel, in the program and in the document's answer.
  The contracts of First, Last and Travel, in the program and in the document's answer.
-/
import Derived.Test.YtjigcgpcglfjfaaMoM
import Derived.Test.YtjigcgpcglfjfaaFiPts
import Derived.Deep.QuietTactic
import Derived.BigQuiet
import Derived.StillTailTactics
namespace Go.Proofs.Ytjigcgpcglfjfaa
open Go.ChangeShapes Go.WideShapes Go.RowKit
open Sh
attribute [local go_sem 1000000] run_min_mn run_max_mx
theorem run_max3' (P : Program) (w : World) (ts : Array TypeId) (t : TypeId) (x y z : Int) : (Builtin.max_ ts t #[.int .i64 x, .int .i64 y, .int .i64 z]).run P w = .ok (.int .i64 (Sp.mx (Sp.mx x y) z)) w := by
  unfold Sp.mx; simp [Builtin.max_, Builtin.max2]
theorem run_min3' (P : Program) (w : World) (ts : Array TypeId) (t : TypeId) (x y z : Int) : (Builtin.min_ ts t #[.int .i64 x, .int .i64 y, .int .i64 z]).run P w = .ok (.int .i64 (Sp.mn (Sp.mn x y) z)) w := by
  unfold Sp.mn; simp [Builtin.min_, Builtin.min2]
attribute [local go_sem high] run_max3' run_min3'
theorem quiet_pure' {P : Program} {f : FuncId} {args : Array Value} {w : World} {n : Nat} {v : Value}
    (h : Calls P f args (w.drewN n) fun e w' => e = .returned v ∧ w.drewN n = w') : Calls P f args (w.drewN n) fun e w'' => e = .returned v ∧ ∃ m, w'' = w.drewN m :=
  h.mono fun _ _ ⟨he, hm⟩ => ⟨he, n, hm.symm⟩
theorem ix3_0 (a b c : Int) (w : World) : (Instr.index 149 (.agg #[.int .i64 a, .int .i64 b, .int .i64 c]) (.int .i64 0)).run Try.prog w = .ok (.int .i64 a) w := by kernel_rfl
theorem ix3_1 (a b c : Int) (w : World) : (Instr.index 149 (.agg #[.int .i64 a, .int .i64 b, .int .i64 c]) (.int .i64 1)).run Try.prog w = .ok (.int .i64 b) w := by kernel_rfl
theorem ix3_2 (a b c : Int) (w : World) : (Instr.index 149 (.agg #[.int .i64 a, .int .i64 b, .int .i64 c]) (.int .i64 2)).run Try.prog w = .ok (.int .i64 c) w := by kernel_rfl
theorem sq_pos' (n : Int) : 0 ≤ n * n := by
  rw [← Int.natAbs_mul_self]; exact Int.natCast_nonneg _
theorem sd_bd {a b : P3} {L : Int} (h : BdP L (sub a b)) (hL : L ≤ 1000000000) : (-4611686018427387904 ≤ (a.1 - b.1) * (a.1 - b.1) ∧ (a.1 - b.1) * (a.1 - b.1) ≤ 4611686018427387904) ∧ (-4611686018427387904 ≤ (a.2.1 - b.2.1) * (a.2.1 - b.2.1) ∧ (a.2.1 - b.2.1) * (a.2.1 - b.2.1) ≤ 4611686018427387904) ∧ (-4611686018427387904 ≤ (a.2.2 - b.2.2) * (a.2.2 - b.2.2) ∧ (a.2.2 - b.2.2) * (a.2.2 - b.2.2) ≤ 4611686018427387904) ∧ 0 ≤ sq (sub a b) ∧ sq (sub a b) ≤ 3000000000000000000 ∧ (a.1 - b.1) * (a.1 - b.1) ≤ 1000000000000000000 ∧ (a.2.1 - b.2.1) * (a.2.1 - b.2.1) ≤ 1000000000000000000 ∧ (a.2.2 - b.2.2) * (a.2.2 - b.2.2) ≤ 1000000000000000000 ∧ 0 ≤ (a.1 - b.1) * (a.1 - b.1) ∧ 0 ≤ (a.2.1 - b.2.1) * (a.2.1 - b.2.1) ∧ 0 ≤ (a.2.2 - b.2.2) * (a.2.2 - b.2.2) := by
  have h := h.mono hL
  obtain ⟨h1, h2, h3, h4, h5, h6⟩ := h
  have x := mul_bd h1 h2 h1 h2
  have y := mul_bd h3 h4 h3 h4
  have z := mul_bd h5 h6 h5 h6
  have x0 := sq_pos' (sub a b).1
  have y0 := sq_pos' (sub a b).2.1
  have z0 := sq_pos' (sub a b).2.2
  unfold sq dot
  simp only [sub] at *
  generalize (a.1 - b.1) * (a.1 - b.1) = p at *
  generalize (a.2.1 - b.2.1) * (a.2.1 - b.2.1) = q at *
  generalize (a.2.2 - b.2.2) * (a.2.2 - b.2.2) = r at *
  omega
/-- the smallest and the greatest of three, and the number between them that is nearest to n -/
def lo3' (a b c : Int) : Int := Sp.mn (Sp.mn a b) c
def hi3' (a b c : Int) : Int := Sp.mx (Sp.mx a b) c
def nst (n a b c : Int) : Int := Sp.mn (Sp.mx n (lo3' a b c)) (hi3' a b c)
/-- the point of the box of a panel that is nearest to x -/
def inbox (t : P9) (x : P3) : P3 := (nst x.1 t.1.1 t.2.1.1 t.2.2.1, nst x.2.1 t.1.2.1 t.2.1.2.1 t.2.2.2.1, nst x.2.2 t.1.2.2 t.2.1.2.2 t.2.2.2.2)
/-- the squared distance of x and the box of a panel, and of x and the farthest corner -/
def nearN (t : P9) (x : P3) : Int := sq (sub x (inbox t x))
def farN (t : P9) (x : P3) : Int := hi3' (sq (sub t.1 x)) (sq (sub t.2.1 x)) (sq (sub t.2.2 x))
theorem nst_bd {B n a b c : Int} (h1 : -B ≤ a ∧ a ≤ B) (h2 : -B ≤ b ∧ b ≤ B) (h3 : -B ≤ c ∧ c ≤ B) : -B ≤ nst n a b c ∧ nst n a b c ≤ B := by
  unfold nst lo3' hi3' Sp.mn Sp.mx
  (repeat' split) <;> omega
theorem inbox_bd {B : Int} {t : P9} {x : P3} (h : BdT B t) : BdP B (inbox t x) := by
  obtain ⟨⟨a1, a2, a3, a4, a5, a6⟩, ⟨b1, b2, b3, b4, b5, b6⟩, ⟨c1, c2, c3, c4, c5, c6⟩⟩ := h
  have u := nst_bd (n := x.1) ⟨a1, a2⟩ ⟨b1, b2⟩ ⟨c1, c2⟩
  have y := nst_bd (n := Prod.fst x.2) ⟨a3, a4⟩ ⟨b3, b4⟩ ⟨c3, c4⟩
  have z := nst_bd (n := Prod.snd x.2) ⟨a5, a6⟩ ⟨b5, b6⟩ ⟨c5, c6⟩
  exact ⟨u.1, u.2, y.1, y.2, z.1, z.2⟩
theorem keep9 {a b c d e f g h i j k l : Prop} (x : a ∧ b ∧ c ∧ d ∧ e ∧ f ∧ g ∧ h ∧ i) (y : j ∧ k ∧ l) : a ∧ b ∧ c ∧ d ∧ e ∧ f ∧ g ∧ h ∧ i ∧ j ∧ k ∧ l :=
  ⟨x.1, x.2.1, x.2.2.1, x.2.2.2.1, x.2.2.2.2.1, x.2.2.2.2.2.1, x.2.2.2.2.2.2.1, x.2.2.2.2.2.2.2.1, x.2.2.2.2.2.2.2.2, y⟩
end Go.Proofs.Ytjigcgpcglfjfaa
namespace Go.Proofs.Ytjigcgpcglfjfaa
open Go.ChangeShapes Go.WideShapes Go.RowKit
open Sh
attribute [local go_sem 1000000] run_min_mn run_max_mx
attribute [local go_sem high] run_max3' run_min3'
/-- the smallest t, from some number on, at which the square is no longer below n -/
def tkG (n s : Int) : Nat → Nat → Nat
  | 0, t => t
  | f + 1, t => if s * t * (s * t) < n then tkG n s f (t + 1) else t
def tkf (n s : Int) : Nat := tkG n s n.toNat 0
theorem tkG_low (n s : Int) : ∀ (f t u : Nat), t ≤ u → u < tkG n s f t → s * u * (s * u) < n
  | 0, t, u, h, k => absurd k (by show ¬ u < t; omega)
  | f + 1, t, u, h, k => by
    have k : u < (if s * t * (s * t) < n then tkG n s f (t + 1) else t) := k
    by_cases c : s * t * (s * t) < n
    · rw [if_pos c] at k
      by_cases e : u = t
      · subst e; exact c
      · exact tkG_low n s f (t + 1) u (by omega) k
    · rw [if_neg c] at k
      omega
theorem tkG_le (n s : Int) : ∀ (f t : Nat), tkG n s f t ≤ t + f
  | 0, t => Nat.le_refl _
  | f + 1, t => by
    show (if _ then _ else _) ≤ _
    split
    · have := tkG_le n s f (t + 1); omega
    · omega
theorem tkG_end (n s : Int) : ∀ (f t : Nat), tkG n s f t < t + f → ¬ s * (tkG n s f t : Nat) * (s * (tkG n s f t : Nat)) < n
  | 0, t, h => absurd h (by show ¬ t < t + 0; omega)
  | f + 1, t, h => by
    have e : tkG n s (f + 1) t = if s * t * (s * t) < n then tkG n s f (t + 1) else t := rfl
    rw [e] at h ⊢
    by_cases c : s * t * (s * t) < n
    · rw [if_pos c] at h ⊢
      exact tkG_end n s f (t + 1) (by omega)
    · rw [if_neg c]
      exact c
theorem tk_grow {n s : Int} (hs : 1 ≤ s) {t : Nat} (h : n ≤ t) : ¬ s * t * (s * t) < n := by
  have a : (t : Int) ≤ s * t := by
    have := Int.mul_le_mul_of_nonneg_right hs (Int.natCast_nonneg t)
    omega
  by_cases z : t = 0
  · subst z; simp; omega
  · have b : s * t * 1 ≤ s * t * (s * t) := Int.mul_le_mul_of_nonneg_left (by omega) (by omega)
    omega
theorem tkf_low {n s : Int} {u : Nat} (h : u < tkf n s) : s * u * (s * u) < n := tkG_low n s _ 0 u (Nat.zero_le _) h
theorem tkf_end {n s : Int} (hs : 1 ≤ s) : ¬ s * (tkf n s : Nat) * (s * (tkf n s : Nat)) < n := by
  by_cases c : tkf n s < n.toNat
  · exact tkG_end n s n.toNat 0 (by show tkG _ _ _ _ < _; unfold tkf at c; omega)
  · exact tk_grow hs (by omega)
theorem tkf_le (n s : Int) : tkf n s ≤ n.toNat := by
  have := tkG_le n s n.toNat 0
  unfold tkf; omega
theorem tk_sq (s t : Int) : s * s * t * t = s * t * (s * t) := by
  ac_rfl
theorem tk_bd {s : Int} {t : Nat} (h1 : 1 ≤ s) (h2 : s ≤ 16) (h3 : t ≤ 100000000) : (0 ≤ s * t ∧ s * t ≤ 1600000000) ∧ (0 ≤ s * t * (s * t) ∧ s * t * (s * t) ≤ 2560000000000000000) ∧ (0 ≤ s * s ∧ s * s ≤ 256) ∧ (0 ≤ s * s * t ∧ s * s * t ≤ 25600000000) ∧ s * s * t * t = s * t * (s * t) := by
  have a := Sh.mul_bd (x := s) (y := (t : Int)) (A := 16) (B := 100000000) (by omega) h2 (by omega) (by omega)
  have a0 : 0 ≤ s * t := Int.mul_nonneg (by omega) (by omega)
  have b := Sh.mul_bd (x := s * t) (y := s * t) (A := 1600000000) (B := 1600000000) (by omega) (by omega) (by omega) (by omega)
  have c := Sh.mul_bd (x := s) (y := s) (A := 16) (B := 16) (by omega) h2 (by omega) h2
  have c0 : 0 ≤ s * s := Int.mul_nonneg (by omega) (by omega)
  have d := Sh.mul_bd (x := s * s) (y := (t : Int)) (A := 256) (B := 100000000) (by omega) (by omega) (by omega) (by omega)
  have d0 : 0 ≤ s * s * t := Int.mul_nonneg (by omega) (by omega)
  exact ⟨⟨a0, by omega⟩, ⟨sq_pos' _, by omega⟩, ⟨c0, by omega⟩, ⟨d0, by omega⟩, tk_sq s t⟩
def gapN (n lo hi : Int) : Int := Sp.mx (Sp.mx (lo - n) (n - hi)) 0
theorem gap_sq (n a b c : Int) : gapN n (lo3' a b c) (hi3' a b c) * gapN n (lo3' a b c) (hi3' a b c) = (n - nst n a b c) * (n - nst n a b c) := by
  have : gapN n (lo3' a b c) (hi3' a b c) = n - nst n a b c ∨ gapN n (lo3' a b c) (hi3' a b c) = -(n - nst n a b c) := by
    unfold gapN nst lo3' hi3' Sp.mn Sp.mx
    (repeat' split) <;> omega
  rcases this with e | e
  · rw [e]
  · rw [e, Int.neg_mul_neg]
theorem gap_bd {B n a b c : Int} (h0 : -B ≤ n ∧ n ≤ B) (h1 : -B ≤ a ∧ a ≤ B) (h2 : -B ≤ b ∧ b ≤ B) (h3 : -B ≤ c ∧ c ≤ B) : (-(2 * B) ≤ gapN n (lo3' a b c) (hi3' a b c) ∧ gapN n (lo3' a b c) (hi3' a b c) ≤ 2 * B) ∧ (-(2 * B) ≤ lo3' a b c - n ∧ lo3' a b c - n ≤ 2 * B) ∧ (-(2 * B) ≤ n - hi3' a b c ∧ n - hi3' a b c ≤ 2 * B) := by
  unfold gapN lo3' hi3' Sp.mn Sp.mx
  (repeat' split) <;> omega
def gapP (t : P9) (x : P3) : P3 := (gapN x.1 (lo3' t.1.1 t.2.1.1 t.2.2.1) (hi3' t.1.1 t.2.1.1 t.2.2.1), gapN x.2.1 (lo3' t.1.2.1 t.2.1.2.1 t.2.2.2.1) (hi3' t.1.2.1 t.2.1.2.1 t.2.2.2.1), gapN x.2.2 (lo3' t.1.2.2 t.2.1.2.2 t.2.2.2.2) (hi3' t.1.2.2 t.2.1.2.2 t.2.2.2.2))
theorem gapP_sq (t : P9) (x : P3) : sq (gapP t x) = nearN t x := by
  have a := gap_sq x.1 t.1.1 t.2.1.1 t.2.2.1
  have b := gap_sq x.2.1 t.1.2.1 t.2.1.2.1 t.2.2.2.1
  have c := gap_sq x.2.2 t.1.2.2 t.2.1.2.2 t.2.2.2.2
  show _ * _ + _ * _ + _ * _ = (x.1 - nst x.1 _ _ _) * (x.1 - nst x.1 _ _ _) + (x.2.1 - nst x.2.1 _ _ _) * (x.2.1 - nst x.2.1 _ _ _) + (x.2.2 - nst x.2.2 _ _ _) * (x.2.2 - nst x.2.2 _ _ _)
  rw [← a, ← b, ← c]
  rfl
theorem pw_of {B : Int} {a : P3} (h : BdP B a) (hB : B ≤ 1000000000) : BdP 1152921504606846976 (pw a a) := by
  obtain ⟨h1, h2, h3, h4, h5, h6⟩ := h.mono hB
  have x := mul_bd h1 h2 h1 h2
  have y := mul_bd h3 h4 h3 h4
  have z := mul_bd h5 h6 h5 h6
  exact ⟨by have := x.1; unfold pw; dsimp only; omega, by have := x.2; unfold pw; dsimp only; omega, by have := y.1; unfold pw; dsimp only; omega, by have := y.2; unfold pw; dsimp only; omega, by have := z.1; unfold pw; dsimp only; omega, by have := z.2; unfold pw; dsimp only; omega⟩
theorem minmax_lo (P : Program) (w : World) (ts : Array TypeId) (t : TypeId) (x y z : Int) : (Builtin.min_ ts t #[.int .i64 x, .int .i64 y, .int .i64 z]).run P w = .ok (.int .i64 (lo3' x y z)) w := run_min3' P w ts t x y z
theorem minmax_hi (P : Program) (w : World) (ts : Array TypeId) (t : TypeId) (x y z : Int) : (Builtin.max_ ts t #[.int .i64 x, .int .i64 y, .int .i64 z]).run P w = .ok (.int .i64 (hi3' x y z)) w := run_max3' P w ts t x y z
attribute [-go_sem] run_max3' run_min3'
attribute [local go_sem 2000000] minmax_lo minmax_hi
end Go.Proofs.Ytjigcgpcglfjfaa
namespace Go.Proofs.Ytjigcgpcglfjfaa
open Go.ChangeShapes Go.WideShapes Go.RowKit
open Sh
/-- a pulse: its panel, its tick, its power; as a value, as a block -/
abbrev Pu := P9 × Int × Int
abbrev puv (p : Pu) : Value := .agg #[.int .i64 p.1.1.1, .int .i64 p.1.1.2.1, .int .i64 p.1.1.2.2, .int .i64 p.1.2.1.1, .int .i64 p.1.2.1.2.1, .int .i64 p.1.2.1.2.2, .int .i64 p.1.2.2.1, .int .i64 p.1.2.2.2.1, .int .i64 p.1.2.2.2.2, .int .i64 p.2.1, .int .i64 p.2.2]
abbrev pub (p : Pu) (t : TypeId) : Obj := .cells #[.int .i64 p.1.1.1, .int .i64 p.1.1.2.1, .int .i64 p.1.1.2.2, .int .i64 p.1.2.1.1, .int .i64 p.1.2.1.2.1, .int .i64 p.1.2.1.2.2, .int .i64 p.1.2.2.1, .int .i64 p.1.2.2.2.1, .int .i64 p.1.2.2.2.2, .int .i64 p.2.1, .int .i64 p.2.2] t
abbrev micv (x : P3) (s d : Int) : Value := .agg #[.int .i64 x.1, .int .i64 x.2.1, .int .i64 x.2.2, .int .i64 s, .int .i64 d]
abbrev micb (x : P3) (s d : Int) (t : TypeId) : Obj := .cells #[.int .i64 x.1, .int .i64 x.2.1, .int .i64 x.2.2, .int .i64 s, .int .i64 d] t
/-- the error of a pulse, and of the first k pulses -/
def pucode (p : Pu) : Int := if pcode p.1.1 p.1.2.1 p.1.2.2 = 0 then (if rngB p.2.1 0 1000 && rngB p.2.2 (-100) 100 then 0 else 1) else pcode p.1.1 p.1.2.1 p.1.2.2
def pucodes (Q : Nat → Pu) : Nat → Int
  | 0 => 0
  | k + 1 => if pucodes Q k = 0 then pucode (Q k) else pucodes Q k
def vpcode (n : Nat) (Q : Nat → Pu) : Int := if n ≤ 16 then pucodes Q n else 4
theorem pucodes_stop {Q : Nat → Pu} {k : Nat} (h : pucodes Q k ≠ 0) : ∀ {n : Nat}, k ≤ n → pucodes Q n = pucodes Q k
  | 0, hn => by
    have : k = 0 := by omega
    subst this; rfl
  | n + 1, hn => by
    by_cases e : k = n + 1
    · subst e; rfl
    · have z := pucodes_stop h (n := n) (by omega)
      show (if pucodes Q n = 0 then _ else _) = _
      rw [z, if_neg h]
theorem pucodes_hit {Q : Nat → Pu} {k n : Nat} (hk : k < n) (g : pucodes Q k = 0) (h : pucode (Q k) ≠ 0) : pucodes Q n = pucode (Q k) := by
  have e : pucodes Q (k + 1) = pucode (Q k) := by
    show (if pucodes Q k = 0 then _ else _) = _
    rw [if_pos g]
  rw [pucodes_stop (k := k + 1) (by rw [e]; exact h) (by omega), e]
theorem pucodes_next {Q : Nat → Pu} {k : Nat} (g : pucodes Q k = 0) (h : pucode (Q k) = 0) : pucodes Q (k + 1) = 0 := by
  show (if pucodes Q k = 0 then _ else _) = _
  rw [if_pos g, h]
theorem pucodes_all {Q : Nat → Pu} : ∀ {n : Nat}, pucodes Q n = 0 → ∀ k, k < n → pucode (Q k) = 0
  | 0, _, k, h => absurd h (Nat.not_lt_zero k)
  | n + 1, h, k, hk => by
    have h : (if pucodes Q n = 0 then pucode (Q n) else pucodes Q n) = 0 := h
    by_cases z : pucodes Q n = 0
    · rw [if_pos z] at h
      by_cases e : k = n
      · subst e; exact h
      · exact pucodes_all z k (by omega)
    · rw [if_neg z] at h
      exact absurd h z
theorem pucode_ok {p : Pu} (h : pucode p = 0) : BdT 64 p.1 ∧ pcode p.1.1 p.1.2.1 p.1.2.2 = 0 ∧ (0 ≤ p.2.1 ∧ p.2.1 ≤ 1000) ∧ -100 ≤ p.2.2 ∧ p.2.2 ≤ 100 := by
  unfold pucode at h
  by_cases z : pcode p.1.1 p.1.2.1 p.1.2.2 = 0
  · rw [if_pos z] at h
    have hr : (rngB p.2.1 0 1000 && rngB p.2.2 (-100) 100) = true := by
      cases e : (rngB p.2.1 0 1000 && rngB p.2.2 (-100) 100) with
      | true => rfl
      | false => rw [e] at h; exact absurd h (by decide)
    rw [Bool.and_eq_true] at hr
    refine ⟨?_, z, rngB_iff.1 hr.1, rngB_iff.1 hr.2⟩
    unfold pcode at z
    split at z
    · rename_i hh
      simp only [Bool.and_eq_true] at hh
      exact ⟨inP_iff.1 hh.1.1, inP_iff.1 hh.1.2, inP_iff.1 hh.2⟩
    · exact absurd z (by decide)
  · rw [if_neg z] at h
    exact absurd h z
/-- n pulses in memory, one behind the other -/
def RowU (w : World) (b off n : Nat) (Q : Nat → Pu) : Prop := b < w.heap.size ∧ ∀ k, k < n → w.cell? ⟨b, off + k * 11, none⟩ = some (.int .i64 (Q k).1.1.1) ∧ w.cell? ⟨b, off + k * 11 + 1, none⟩ = some (.int .i64 (Q k).1.1.2.1) ∧ w.cell? ⟨b, off + k * 11 + 1 + 1, none⟩ = some (.int .i64 (Q k).1.1.2.2) ∧ w.cell? ⟨b, off + k * 11 + 1 + 1 + 1, none⟩ = some (.int .i64 (Q k).1.2.1.1) ∧ w.cell? ⟨b, off + k * 11 + 1 + 1 + 1 + 1, none⟩ = some (.int .i64 (Q k).1.2.1.2.1) ∧ w.cell? ⟨b, off + k * 11 + 1 + 1 + 1 + 1 + 1, none⟩ = some (.int .i64 (Q k).1.2.1.2.2) ∧ w.cell? ⟨b, off + k * 11 + 1 + 1 + 1 + 1 + 1 + 1, none⟩ = some (.int .i64 (Q k).1.2.2.1) ∧ w.cell? ⟨b, off + k * 11 + 1 + 1 + 1 + 1 + 1 + 1 + 1, none⟩ = some (.int .i64 (Q k).1.2.2.2.1) ∧ w.cell? ⟨b, off + k * 11 + 1 + 1 + 1 + 1 + 1 + 1 + 1 + 1, none⟩ = some (.int .i64 (Q k).1.2.2.2.2) ∧ w.cell? ⟨b, off + k * 11 + 1 + 1 + 1 + 1 + 1 + 1 + 1 + 1 + 1, none⟩ = some (.int .i64 (Q k).2.1) ∧ w.cell? ⟨b, off + k * 11 + 1 + 1 + 1 + 1 + 1 + 1 + 1 + 1 + 1 + 1, none⟩ = some (.int .i64 (Q k).2.2)
theorem rowU_in {w wr : World} {B b off n : Nat} {Q : Nat → Pu} (r : RowU w b off n Q) (hb : Below B w wr) (h : b < B) : RowU wr b off n Q := by
  refine ⟨Nat.lt_of_lt_of_le r.1 hb.size, fun k hk => ?_⟩
  obtain ⟨h0, h1, h2, h3, h4, h5, h6, h7, h8, h9, h10⟩ := r.2 k hk
  exact ⟨(hb.cell (p := ⟨b, off + k * 11, none⟩) h).trans h0, (hb.cell (p := ⟨b, off + k * 11 + 1, none⟩) h).trans h1, (hb.cell (p := ⟨b, off + k * 11 + 1 + 1, none⟩) h).trans h2, (hb.cell (p := ⟨b, off + k * 11 + 1 + 1 + 1, none⟩) h).trans h3, (hb.cell (p := ⟨b, off + k * 11 + 1 + 1 + 1 + 1, none⟩) h).trans h4, (hb.cell (p := ⟨b, off + k * 11 + 1 + 1 + 1 + 1 + 1, none⟩) h).trans h5, (hb.cell (p := ⟨b, off + k * 11 + 1 + 1 + 1 + 1 + 1 + 1, none⟩) h).trans h6, (hb.cell (p := ⟨b, off + k * 11 + 1 + 1 + 1 + 1 + 1 + 1 + 1, none⟩) h).trans h7, (hb.cell (p := ⟨b, off + k * 11 + 1 + 1 + 1 + 1 + 1 + 1 + 1 + 1, none⟩) h).trans h8, (hb.cell (p := ⟨b, off + k * 11 + 1 + 1 + 1 + 1 + 1 + 1 + 1 + 1 + 1, none⟩) h).trans h9, (hb.cell (p := ⟨b, off + k * 11 + 1 + 1 + 1 + 1 + 1 + 1 + 1 + 1 + 1 + 1, none⟩) h).trans h10⟩
theorem rowU_below {w w1 : World} {b off n : Nat} {Q : Nat → Pu} (r : RowU w b off n Q) (hb : Below w.heap.size w w1) : RowU w1 b off n Q := rowU_in r hb r.1
def LstU (w : World) (a : Option Addr) (n : Nat) (Q : Nat → Pu) : Prop := 0 < n → ∃ b off, a = some ⟨b, off, none⟩ ∧ RowU w b off n Q
theorem lstU_below {w w1 : World} {a : Option Addr} {n : Nat} {Q : Nat → Pu} (h : LstU w a n Q) (hb : Below w.heap.size w w1) : LstU w1 a n Q := fun h0 => by
  obtain ⟨b, off, e, r⟩ := h h0
  exact ⟨b, off, e, rowU_below r hb⟩
/-- block b holds a pulse of the call's own -/
def OwnPu (w : World) (b : Nat) (p : Pu) : Prop := (w.cell? ⟨b, 0, none⟩ = some (.int .i64 p.1.1.1) ∧ w.cell? ⟨b, 1, none⟩ = some (.int .i64 p.1.1.2.1) ∧ w.cell? ⟨b, 2, none⟩ = some (.int .i64 p.1.1.2.2) ∧ w.cell? ⟨b, 3, none⟩ = some (.int .i64 p.1.2.1.1) ∧ w.cell? ⟨b, 4, none⟩ = some (.int .i64 p.1.2.1.2.1) ∧ w.cell? ⟨b, 5, none⟩ = some (.int .i64 p.1.2.1.2.2) ∧ w.cell? ⟨b, 6, none⟩ = some (.int .i64 p.1.2.2.1) ∧ w.cell? ⟨b, 7, none⟩ = some (.int .i64 p.1.2.2.2.1) ∧ w.cell? ⟨b, 8, none⟩ = some (.int .i64 p.1.2.2.2.2) ∧ w.cell? ⟨b, 9, none⟩ = some (.int .i64 p.2.1) ∧ w.cell? ⟨b, 10, none⟩ = some (.int .i64 p.2.2)) ∧ b < w.heap.size
theorem ownPu_new (w : World) (p : Pu) (t : TypeId) : OwnPu (w.alloc (pub p t)) w.heap.size p := ⟨⟨by go_simp, by go_simp, by go_simp, by go_simp, by go_simp, by go_simp, by go_simp, by go_simp, by go_simp, by go_simp, by go_simp⟩, by simp⟩
theorem ownPu_below {w w1 : World} {b : Nat} {p : Pu} (h : OwnPu w b p) (hb : Below w.heap.size w w1) : OwnPu w1 b p := by
  obtain ⟨⟨h0, h1, h2, h3, h4, h5, h6, h7, h8, h9, h10⟩, l⟩ := h
  exact ⟨⟨(hb.cell (p := ⟨b, 0, none⟩) l).trans h0, (hb.cell (p := ⟨b, 1, none⟩) l).trans h1, (hb.cell (p := ⟨b, 2, none⟩) l).trans h2, (hb.cell (p := ⟨b, 3, none⟩) l).trans h3, (hb.cell (p := ⟨b, 4, none⟩) l).trans h4, (hb.cell (p := ⟨b, 5, none⟩) l).trans h5, (hb.cell (p := ⟨b, 6, none⟩) l).trans h6, (hb.cell (p := ⟨b, 7, none⟩) l).trans h7, (hb.cell (p := ⟨b, 8, none⟩) l).trans h8, (hb.cell (p := ⟨b, 9, none⟩) l).trans h9, (hb.cell (p := ⟨b, 10, none⟩) l).trans h10⟩, Nat.lt_of_lt_of_le l hb.size⟩
theorem ownPu_alloc {w : World} {b : Nat} {p : Pu} (h : OwnPu w b p) (o : Obj) : OwnPu (w.alloc o) b p := ownPu_below h ((Below.refl _ _).alloc (Nat.le_refl _) _)
theorem ownPu_drew {w : World} {b : Nat} {p : Pu} (h : OwnPu w b p) : OwnPu w.drew b p := h
/-- one pulse, laid in new memory -/
theorem rowU_one (w : World) (p : Pu) (t : TypeId) : RowU (w.alloc (pub p t)) w.heap.size 0 1 (fun _ => p) := by
  refine ⟨by simp, fun k hk => ?_⟩
  obtain rfl : k = 0 := by omega
  simp only [Nat.zero_mul, Nat.add_zero]
  exact ⟨by go_simp, by go_simp, by go_simp, by go_simp, by go_simp, by go_simp, by go_simp, by go_simp, by go_simp, by go_simp, by go_simp⟩
/-- a microphone of the call's own -/
def OwnMic (w : World) (b : Nat) (x : P3) (s d : Int) : Prop := (w.cell? ⟨b, 0, none⟩ = some (.int .i64 x.1) ∧ w.cell? ⟨b, 1, none⟩ = some (.int .i64 x.2.1) ∧ w.cell? ⟨b, 2, none⟩ = some (.int .i64 x.2.2) ∧ w.cell? ⟨b, 3, none⟩ = some (.int .i64 s) ∧ w.cell? ⟨b, 4, none⟩ = some (.int .i64 d)) ∧ b < w.heap.size
theorem ownMic_new (w : World) (x : P3) (s d : Int) (t : TypeId) : OwnMic (w.alloc (micb x s d t)) w.heap.size x s d := ⟨⟨by go_simp, by go_simp, by go_simp, by go_simp, by go_simp⟩, by simp⟩
theorem ownMic_below {w w1 : World} {b : Nat} {x : P3} {s d : Int} (h : OwnMic w b x s d) (hb : Below w.heap.size w w1) : OwnMic w1 b x s d := by
  obtain ⟨⟨h0, h1, h2, h3, h4⟩, l⟩ := h
  exact ⟨⟨(hb.cell (p := ⟨b, 0, none⟩) l).trans h0, (hb.cell (p := ⟨b, 1, none⟩) l).trans h1, (hb.cell (p := ⟨b, 2, none⟩) l).trans h2, (hb.cell (p := ⟨b, 3, none⟩) l).trans h3, (hb.cell (p := ⟨b, 4, none⟩) l).trans h4⟩, Nat.lt_of_lt_of_le l hb.size⟩
theorem ownMic_alloc {w : World} {b : Nat} {x : P3} {s d : Int} (h : OwnMic w b x s d) (o : Obj) : OwnMic (w.alloc o) b x s d := ownMic_below h ((Below.refl _ _).alloc (Nat.le_refl _) _)
theorem ownMic_drew {w : World} {b : Nat} {x : P3} {s d : Int} (h : OwnMic w b x s d) : OwnMic w.drew b x s d := h
abbrev chp (p : Pu) : Ch := (p.1, p.2.2)
theorem rowC_one (w : World) (q : Ch) (t : TypeId) : RowC (w.alloc (chb q t)) w.heap.size 0 1 (fun _ => q) := by
  refine ⟨by simp, fun k hk => ?_⟩
  obtain rfl : k = 0 := by omega
  simp only [Nat.zero_mul, Nat.add_zero]
  exact ⟨by go_simp, by go_simp, by go_simp, by go_simp, by go_simp, by go_simp, by go_simp, by go_simp, by go_simp, by go_simp⟩
theorem chcodes_one (q : Ch) : chcodes (fun _ => q) 1 = chcode q := rfl
theorem chcode_pu (p : Pu) : chcode (chp p) = if pcode p.1.1 p.1.2.1 p.1.2.2 = 0 then (if rngB p.2.2 (-100) 100 then 0 else 1) else pcode p.1.1 p.1.2.1 p.1.2.2 := rfl
theorem pucode_of (p : Pu) : pucode p = if chcode (chp p) = 0 then (if rngB p.2.1 0 1000 then 0 else 1) else chcode (chp p) := by
  rw [chcode_pu]
  unfold pucode
  by_cases z : pcode p.1.1 p.1.2.1 p.1.2.2 = 0
  · rw [if_pos z, if_pos z]
    cases rngB p.2.1 0 1000 <;> cases rngB p.2.2 (-100) 100 <;> rfl
  · rw [if_neg z, if_neg z, if_neg z]
abbrev p9w (t : P9) : Value := pnv t.1 t.2.1 t.2.2
end Go.Proofs.Ytjigcgpcglfjfaa
namespace Go.Proofs.Ytjigcgpcglfjfaa
open Go.ChangeShapes Go.WideShapes Go.RowKit
open Sh
/-- ticks in memory -/
def LstT (w : World) (a : Option Addr) (n : Nat) (T : Nat → Int) : Prop := 0 < n → ∃ b off, a = some ⟨b, off, none⟩ ∧ b < w.heap.size ∧ ∀ k, k < n → w.cell? ⟨b, off + k, none⟩ = some (.int .i64 (T k))
def tcode (T : Nat → Int) : Nat → Int
  | 0 => 0
  | k + 1 => if tcode T k = 0 then (if rngB (T k) 0 2000 then 0 else 1) else 1
theorem tcode_no {T : Nat → Int} {k : Nat} (h : rngB (T k) 0 2000 = false) : ∀ {n : Nat}, k < n → tcode T n = 1
  | 0, hk => absurd hk (Nat.not_lt_zero k)
  | n + 1, hk => by
    show (if tcode T n = 0 then _ else _) = _
    by_cases e : k = n
    · subst e
      rw [h]
      by_cases z : tcode T k = 0
      · rw [if_pos z]; rfl
      · rw [if_neg z]
    · rw [tcode_no h (n := n) (by omega), if_neg (by decide)]
theorem tcode_yes {T : Nat → Int} : ∀ {n : Nat}, (∀ k, k < n → rngB (T k) 0 2000 = true) → tcode T n = 0
  | 0, _ => rfl
  | n + 1, h => by
    show (if tcode T n = 0 then _ else _) = _
    rw [tcode_yes fun k hk => h k (by omega), if_pos rfl, h n (by omega)]
    rfl
/-- the error of a microphone: of the pulses, of itself, of the ticks -/
def mcode8 (vc : Int) (x : P3) (s d : Int) (tc : Int) : Int := if vc = 0 then (if inP 256 x && (rngB s 1 16 && rngB d 0 3) then tc else 1) else vc
theorem mcode8_ok {vc : Int} {x : P3} {s d tc : Int} (h : mcode8 vc x s d tc = 0) : vc = 0 ∧ BdP 256 x ∧ (1 ≤ s ∧ s ≤ 16) ∧ (0 ≤ d ∧ d ≤ 3) ∧ tc = 0 := by
  unfold mcode8 at h
  by_cases z : vc = 0
  · rw [if_pos z] at h
    cases e : (inP 256 x && (rngB s 1 16 && rngB d 0 3)) with
    | true =>
      rw [e, if_pos rfl] at h
      rw [Bool.and_eq_true, Bool.and_eq_true] at e
      exact ⟨z, inP_iff.1 e.1, rngB_iff.1 e.2.1, rngB_iff.1 e.2.2, h⟩
    | false => rw [e, if_neg Bool.false_ne_true] at h; exact absurd h (by decide)
  · rw [if_neg z] at h
    exact absurd h z
theorem dist_bd {t : P9} {x : P3} (h : BdT 64 t) (k : BdP 256 x) : (0 ≤ nearN t x ∧ nearN t x ≤ 307200) ∧ (0 ≤ farN t x ∧ farN t x ≤ 307200) := by
  have q : ∀ {a b : P3}, BdP 320 (sub a b) → 0 ≤ sq (sub a b) ∧ sq (sub a b) ≤ 307200 := fun {a b} h => by
    obtain ⟨h1, h2, h3, h4, h5, h6⟩ := h
    have x := mul_bd h1 h2 h1 h2
    have y := mul_bd h3 h4 h3 h4
    have z := mul_bd h5 h6 h5 h6
    have x0 := sq_pos' (sub a b).1
    have y0 := sq_pos' (sub a b).2.1
    have z0 := sq_pos' (sub a b).2.2
    unfold sq dot
    omega
  have n := q (sub_bd k (inbox_bd (x := x) h))
  have f1 := q (sub_bd h.1 k)
  have f2 := q (sub_bd h.2.1 k)
  have f3 := q (sub_bd h.2.2 k)
  refine ⟨n, ?_⟩
  unfold farN hi3' Sp.mx
  (repeat' split) <;> omega
theorem fs_keep {W : World} {bm bp : Nat} {x : P3} {s d : Int} {p : Pu} (h : OwnMic W bm x s d) (k : OwnPu W bp p) : W.cell? ⟨bm, 0, none⟩ = some (.int .i64 x.1) ∧ W.cell? ⟨bm, 1, none⟩ = some (.int .i64 x.2.1) ∧ W.cell? ⟨bm, 2, none⟩ = some (.int .i64 x.2.2) ∧ W.cell? ⟨bm, 3, none⟩ = some (.int .i64 s) ∧ W.cell? ⟨bp, 0, none⟩ = some (.int .i64 p.1.1.1) ∧ W.cell? ⟨bp, 1, none⟩ = some (.int .i64 p.1.1.2.1) ∧ W.cell? ⟨bp, 2, none⟩ = some (.int .i64 p.1.1.2.2) ∧ W.cell? ⟨bp, 3, none⟩ = some (.int .i64 p.1.2.1.1) ∧ W.cell? ⟨bp, 4, none⟩ = some (.int .i64 p.1.2.1.2.1) ∧ W.cell? ⟨bp, 5, none⟩ = some (.int .i64 p.1.2.1.2.2) ∧ W.cell? ⟨bp, 6, none⟩ = some (.int .i64 p.1.2.2.1) ∧ W.cell? ⟨bp, 7, none⟩ = some (.int .i64 p.1.2.2.2.1) ∧ W.cell? ⟨bp, 8, none⟩ = some (.int .i64 p.1.2.2.2.2) ∧ W.cell? ⟨bp, 9, none⟩ = some (.int .i64 p.2.1) := by
  obtain ⟨⟨h0, h1, h2, h3, h4⟩, _⟩ := h
  obtain ⟨⟨k0, k1, k2, k3, k4, k5, k6, k7, k8, k9, k10⟩, _⟩ := k
  exact ⟨h0, h1, h2, h3, k0, k1, k2, k3, k4, k5, k6, k7, k8, k9⟩
end Go.Proofs.Ytjigcgpcglfjfaa
namespace Go.Proofs.Ytjigcgpcglfjfaa
open Go.ChangeShapes Go.WideShapes Go.RowKit
open Sh
/-- the error of a point, a speed, a tick and a depth -/
def acode8 (x : P3) (s t d : Int) : Int := if inP 256 x && (rngB s 1 16 && (rngB t 0 2000 && rngB d 0 3)) then 0 else 1
theorem acode8_ok {x : P3} {s t d : Int} (h : acode8 x s t d = 0) : BdP 256 x ∧ (1 ≤ s ∧ s ≤ 16) ∧ (0 ≤ t ∧ t ≤ 2000) ∧ (0 ≤ d ∧ d ≤ 3) := by
  unfold acode8 at h
  cases e : (inP 256 x && (rngB s 1 16 && (rngB t 0 2000 && rngB d 0 3))) with
  | true =>
    rw [Bool.and_eq_true, Bool.and_eq_true, Bool.and_eq_true] at e
    exact ⟨inP_iff.1 e.1, rngB_iff.1 e.2.1, rngB_iff.1 e.2.2.1, rngB_iff.1 e.2.2.2⟩
  | false => rw [e, if_neg Bool.false_ne_true] at h; exact absurd h (by decide)
/-- the error of a pulse and a microphone without a tick -/
def fcode (p : Pu) (x : P3) (s : Int) : Int := if pucode p = 0 then acode8 x s 0 0 else pucode p
theorem fcode_m (p : Pu) (x : P3) (s : Int) : mcode8 (vpcode 1 (fun _ => p)) x s 0 (tcode (fun _ => 0) 0) = fcode p x s := by
  have e : vpcode 1 (fun _ => p) = pucode p := by
    show (if (1 : Nat) ≤ 16 then (if (0 : Int) = 0 then pucode p else 0) else 4) = _
    rw [if_pos (by decide), if_pos rfl]
  rw [e]
  unfold mcode8 fcode acode8
  have a : rngB 0 0 3 = true := by decide
  have b : rngB 0 0 2000 = true := by decide
  rw [a, b]
  rfl
theorem fcode_ok {p : Pu} {x : P3} {s : Int} (h : fcode p x s = 0) : pucode p = 0 ∧ BdP 256 x ∧ 1 ≤ s ∧ s ≤ 16 := by
  unfold fcode at h
  by_cases z : pucode p = 0
  · rw [if_pos z] at h
    obtain ⟨h1, h2, _⟩ := acode8_ok h
    exact ⟨z, h1, h2.1, h2.2⟩
  · rw [if_neg z] at h
    exact absurd h z
def fstR (p : Pu) (x : P3) (s : Int) : Int := if fcode p x s = 0 then p.2.1 + (tkf (nearN p.1 x) s : Nat) else 0
def lst8R (p : Pu) (x : P3) (s : Int) : Int := if fcode p x s = 0 then p.2.1 + (tkf (farN p.1 x) s : Nat) else 0
theorem fr_keep {W : World} {bx bp : Nat} {x : P3} {p : Pu} (k : OwnPu W bp p) (h : Own W bx x) : W.cell? ⟨bp, 0, none⟩ = some (.int .i64 p.1.1.1) ∧ W.cell? ⟨bp, 1, none⟩ = some (.int .i64 p.1.1.2.1) ∧ W.cell? ⟨bp, 2, none⟩ = some (.int .i64 p.1.1.2.2) ∧ W.cell? ⟨bp, 3, none⟩ = some (.int .i64 p.1.2.1.1) ∧ W.cell? ⟨bp, 4, none⟩ = some (.int .i64 p.1.2.1.2.1) ∧ W.cell? ⟨bp, 5, none⟩ = some (.int .i64 p.1.2.1.2.2) ∧ W.cell? ⟨bp, 6, none⟩ = some (.int .i64 p.1.2.2.1) ∧ W.cell? ⟨bp, 7, none⟩ = some (.int .i64 p.1.2.2.2.1) ∧ W.cell? ⟨bp, 8, none⟩ = some (.int .i64 p.1.2.2.2.2) ∧ W.cell? ⟨bp, 9, none⟩ = some (.int .i64 p.2.1) ∧ W.cell? ⟨bx, 0, none⟩ = some (.int .i64 x.1) ∧ W.cell? ⟨bx, 1, none⟩ = some (.int .i64 x.2.1) ∧ W.cell? ⟨bx, 2, none⟩ = some (.int .i64 x.2.2) := by
  obtain ⟨⟨k0, k1, k2, k3, k4, k5, k6, k7, k8, k9, k10⟩, _⟩ := k
  exact ⟨k0, k1, k2, k3, k4, k5, k6, k7, k8, k9, h.1, h.2.1, h.2.2.1⟩
def trcode (a b : P3) (s : Int) : Int := if inP 256 a && (inP 256 b && rngB s 1 16) then 0 else 1
def trvR (a b : P3) (s : Int) : Int := if trcode a b s = 0 then (tkf (sq (sub a b)) s : Nat) else 0
theorem sq_sub (a b : P3) : sq (sub a b) = sq (sub b a) := by
  have h : ∀ x y : Int, (x - y) * (x - y) = (y - x) * (y - x) := fun x y => by rw [← Int.neg_sub y x, Int.neg_mul_neg]
  show (a.1 - b.1) * (a.1 - b.1) + (a.2.1 - b.2.1) * (a.2.1 - b.2.1) + (a.2.2 - b.2.2) * (a.2.2 - b.2.2) = (b.1 - a.1) * (b.1 - a.1) + (b.2.1 - a.2.1) * (b.2.1 - a.2.1) + (b.2.2 - a.2.2) * (b.2.2 - a.2.2)
  rw [h a.1, h a.2.1, h a.2.2]
theorem trcode_sym (a b : P3) (s : Int) : trcode a b s = trcode b a s := by
  unfold trcode
  cases inP 256 a <;> cases inP 256 b <;> rfl
theorem trvR_sym (a b : P3) (s : Int) : trvR a b s = trvR b a s := by
  unfold trvR
  rw [trcode_sym, sq_sub]
theorem trv_bd {a b : P3} (h : BdP 256 a) (k : BdP 256 b) : BdP 512 (sub a b) ∧ 0 ≤ sq (sub a b) ∧ sq (sub a b) ≤ 786432 := by
  have z := sub_bd h k
  refine ⟨z.mono (by decide), ?_⟩
  obtain ⟨h1, h2, h3, h4, h5, h6⟩ := z
  have x := mul_bd h1 h2 h1 h2
  have y := mul_bd h3 h4 h3 h4
  have z := mul_bd h5 h6 h5 h6
  have x0 := sq_pos' (sub a b).1
  have y0 := sq_pos' (sub a b).2.1
  have z0 := sq_pos' (sub a b).2.2
  unfold sq dot
  omega
end Go.Proofs.Ytjigcgpcglfjfaa
