/-
  The contracts of the shell around a microphone, and of what a part of a panel gives in it.
  The contract of the shell around a microphone.
  The contract of spans: what the parts of a panel give, in order.
  The contract of heard: what is heard of a pulse in a tick.
  The contract of Heard, and of the chapter's examples.
-/
import Derived.Test.YtjigcgpcglfjfaaSoMa
import Derived.Test.YtjigcgpcglfjfaaInvM
import Derived.Test.YtjigcgpcglfjfaaSumM
import Derived.Test.YtjigcgpcglfjfaaFiCo
import Derived.Deep.DeepCutAuto
import Derived.Test.YtjigcgpcglfjfaaScM
namespace Go.Proofs.Ytjigcgpcglfjfaa
open Go.ChangeShapes Go.WideShapes Go.RowKit
open Sh
attribute [local go_sem 1000000] run_min_mn run_max_mx
theorem results_cell8 {fn : Func} {p : Tmp} {ty : TypeId} (h : fn.results = #[.cell p ty]) (tmps : Array Value) (P : Program) (w : World) :
    (results fn tmps).run P w =
      ((asAddr (tmps.getD p undef)).run P w).andThen fun a w₁ => (loadVar ty a).run P w₁ := by
  simp only [results, h]
  simp [Sem.run_bind, Result.andThen]
/-- a shell as a value, as a block -/
abbrev shv (c : P3) (i o k : Int) : Value := .agg #[.int .i64 c.1, .int .i64 c.2.1, .int .i64 c.2.2, .int .i64 i, .int .i64 o, .int .i64 k]
abbrev shb (c : P3) (i o k : Int) (t : TypeId) : Obj := .cells #[.int .i64 c.1, .int .i64 c.2.1, .int .i64 c.2.2, .int .i64 i, .int .i64 o, .int .i64 k] t
def OwnSh (w : World) (b : Nat) (c : P3) (i o k : Int) : Prop := (w.cell? ⟨b, 0, none⟩ = some (.int .i64 c.1) ∧ w.cell? ⟨b, 1, none⟩ = some (.int .i64 c.2.1) ∧ w.cell? ⟨b, 2, none⟩ = some (.int .i64 c.2.2) ∧ w.cell? ⟨b, 3, none⟩ = some (.int .i64 i) ∧ w.cell? ⟨b, 4, none⟩ = some (.int .i64 o) ∧ w.cell? ⟨b, 5, none⟩ = some (.int .i64 k)) ∧ b < w.heap.size
theorem ownSh_new (w : World) (c : P3) (i o k : Int) (t : TypeId) : OwnSh (w.alloc (shb c i o k t)) w.heap.size c i o k := ⟨⟨by go_simp, by go_simp, by go_simp, by go_simp, by go_simp, by go_simp⟩, by simp⟩
theorem ownSh_in {w w1 : World} {b B : Nat} {c : P3} {i o k : Int} (h : OwnSh w b c i o k) (hb : Below B w w1) (l : b < B) : OwnSh w1 b c i o k := by
  obtain ⟨⟨h0, h1, h2, h3, h4, h5⟩, l2⟩ := h
  exact ⟨⟨(hb.cell (p := ⟨b, 0, none⟩) l).trans h0, (hb.cell (p := ⟨b, 1, none⟩) l).trans h1, (hb.cell (p := ⟨b, 2, none⟩) l).trans h2, (hb.cell (p := ⟨b, 3, none⟩) l).trans h3, (hb.cell (p := ⟨b, 4, none⟩) l).trans h4, (hb.cell (p := ⟨b, 5, none⟩) l).trans h5⟩, Nat.lt_of_lt_of_le l2 hb.size⟩
theorem ownSh_below {w w1 : World} {b : Nat} {c : P3} {i o k : Int} (h : OwnSh w b c i o k) (hb : Below w.heap.size w w1) : OwnSh w1 b c i o k := ownSh_in h hb h.2
theorem ownSh_alloc {w : World} {b : Nat} {c : P3} {i o k : Int} (h : OwnSh w b c i o k) (ob : Obj) : OwnSh (w.alloc ob) b c i o k := ownSh_below h ((Below.refl _ _).alloc (Nat.le_refl _) _)
theorem ownSh_drew {w : World} {b : Nat} {c : P3} {i o k : Int} (h : OwnSh w b c i o k) : OwnSh w.drew b c i o k := h
theorem pair_drew' {w : World} {b : Nat} {x y : Int} (h : Pair w b x y) : Pair w.drew b x y := h
theorem below_put6 {N : Nat} {u w : World} {b : Nat} {v0 v1 v2 v3 v4 v5 : Value} (h : Below N u w) (k : N ≤ b) : Below N u ((((((w.setCell ⟨b, 0, none⟩ v0).setCell ⟨b, 1, none⟩ v1).setCell ⟨b, 2, none⟩ v2).setCell ⟨b, 3, none⟩ v3).setCell ⟨b, 4, none⟩ v4).setCell ⟨b, 5, none⟩ v5) :=
  (Below.setCell (Below.setCell (Below.setCell (Below.setCell (Below.setCell (Below.setCell h k _) k _) k _) k _) k _) k _)
/-- how much finer the grid is -/
def scl (d : Int) : Int := 2 ^ d.toNat
def inn (s d q : Int) : Int := scl d * s * (q - 1) * (scl d * s * (q - 1))
def out8 (s d q : Int) : Int := scl d * s * q * (scl d * s * q)
theorem sh_bd {K s q : Int} (k1 : 1 ≤ K) (k2 : K ≤ 8) (s1 : 1 ≤ s) (s2 : s ≤ 16) (q1 : 1 ≤ q) (q2 : q ≤ 2000) : (1 ≤ K * s ∧ K * s ≤ 128) ∧ (0 ≤ K * s * (q - 1) ∧ K * s * (q - 1) ≤ 256000) ∧ (0 ≤ K * s * q ∧ K * s * q ≤ 256000) ∧ (0 ≤ K * s * (q - 1) * (K * s * (q - 1)) ∧ K * s * (q - 1) * (K * s * (q - 1)) ≤ 65536000000) ∧ (0 ≤ K * s * q * (K * s * q) ∧ K * s * q * (K * s * q) ≤ 65536000000) := by
  have a := mul_bd (x := K) (y := s) (A := 8) (B := 16) (by omega) k2 (by omega) s2
  have a1 : 1 * 1 ≤ K * s := Int.mul_le_mul k1 s1 (by decide) (by omega)
  have b := mul_bd (x := K * s) (y := q - 1) (A := 128) (B := 2000) (by omega) (by omega) (by omega) (by omega)
  have b1 : 0 ≤ K * s * (q - 1) := Int.mul_nonneg (by omega) (by omega)
  have c := mul_bd (x := K * s) (y := q) (A := 128) (B := 2000) (by omega) (by omega) (by omega) (by omega)
  have c1 : 0 ≤ K * s * q := Int.mul_nonneg (by omega) (by omega)
  have e := mul_bd (x := K * s * (q - 1)) (y := K * s * (q - 1)) (A := 256000) (B := 256000) (by omega) (by omega) (by omega) (by omega)
  have f := mul_bd (x := K * s * q) (y := K * s * q) (A := 256000) (B := 256000) (by omega) (by omega) (by omega) (by omega)
  exact ⟨⟨by omega, by omega⟩, ⟨b1, by omega⟩, ⟨c1, by omega⟩, ⟨sq_pos' _, by omega⟩, ⟨sq_pos' _, by omega⟩⟩
/-- what a part gives -/
def giR (c : P3) (i o k : Int) (t : P9) : Sp.R :=
  if farN t c ≤ i ∨ o < nearN t c then ((0, 0), 0) else
  if Sp.mx (nearN t c) i = 0 then ((0, 0), 10) else
  if nearN t c ≤ i ∨ o < farN t c then ((0, (invR (Sp.mx (nearN t c) i) k).1.2), 0) else (((invR (farN t c) k).1.1, (invR (Sp.mx (nearN t c) i) k).1.2), 0)
theorem sg_keep {W : World} {b0 b1 : Nat} {c : P3} {i o k : Int} {x y z : P3} (h : OwnSh W b0 c i o k) (g : Pan W b1 x y z) : W.cell? ⟨b0, 0, none⟩ = some (.int .i64 c.1) ∧ W.cell? ⟨b0, 1, none⟩ = some (.int .i64 c.2.1) ∧ W.cell? ⟨b0, 2, none⟩ = some (.int .i64 c.2.2) ∧ W.cell? ⟨b1, 0, none⟩ = some (.int .i64 x.1) ∧ W.cell? ⟨b1, 1, none⟩ = some (.int .i64 x.2.1) ∧ W.cell? ⟨b1, 2, none⟩ = some (.int .i64 x.2.2) ∧ W.cell? ⟨b1, 3, none⟩ = some (.int .i64 y.1) ∧ W.cell? ⟨b1, 4, none⟩ = some (.int .i64 y.2.1) ∧ W.cell? ⟨b1, 5, none⟩ = some (.int .i64 y.2.2) ∧ W.cell? ⟨b1, 6, none⟩ = some (.int .i64 z.1) ∧ W.cell? ⟨b1, 7, none⟩ = some (.int .i64 z.2.1) ∧ W.cell? ⟨b1, 8, none⟩ = some (.int .i64 z.2.2) := by
  obtain ⟨⟨h0, h1, h2, h3, h4, h5⟩, _⟩ := h
  obtain ⟨k0, k1, k2, k3, k4, k5, k6, k7, k8, _⟩ := g
  exact ⟨h0, h1, h2, k0, k1, k2, k3, k4, k5, k6, k7, k8⟩
end Go.Proofs.Ytjigcgpcglfjfaa
namespace Go.Proofs.Ytjigcgpcglfjfaa
open Go.ChangeShapes Go.WideShapes Go.RowKit
open Sh
end Go.Proofs.Ytjigcgpcglfjfaa
namespace Go.Proofs.Ytjigcgpcglfjfaa
open Go.ChangeShapes Go.WideShapes Go.RowKit
open Sh
/-- n panels in memory, one behind the other -/
def RowP (w : World) (b off n : Nat) (L : Nat → P9) : Prop := b < w.heap.size ∧ ∀ k, k < n → w.cell? ⟨b, off + k * 9, none⟩ = some (.int .i64 (L k).1.1) ∧ w.cell? ⟨b, off + k * 9 + 1, none⟩ = some (.int .i64 (L k).1.2.1) ∧ w.cell? ⟨b, off + k * 9 + 1 + 1, none⟩ = some (.int .i64 (L k).1.2.2) ∧ w.cell? ⟨b, off + k * 9 + 1 + 1 + 1, none⟩ = some (.int .i64 (L k).2.1.1) ∧ w.cell? ⟨b, off + k * 9 + 1 + 1 + 1 + 1, none⟩ = some (.int .i64 (L k).2.1.2.1) ∧ w.cell? ⟨b, off + k * 9 + 1 + 1 + 1 + 1 + 1, none⟩ = some (.int .i64 (L k).2.1.2.2) ∧ w.cell? ⟨b, off + k * 9 + 1 + 1 + 1 + 1 + 1 + 1, none⟩ = some (.int .i64 (L k).2.2.1) ∧ w.cell? ⟨b, off + k * 9 + 1 + 1 + 1 + 1 + 1 + 1 + 1, none⟩ = some (.int .i64 (L k).2.2.2.1) ∧ w.cell? ⟨b, off + k * 9 + 1 + 1 + 1 + 1 + 1 + 1 + 1 + 1, none⟩ = some (.int .i64 (L k).2.2.2.2)
theorem rowP_in {w wr : World} {B b off n : Nat} {L : Nat → P9} (r : RowP w b off n L) (hb : Below B w wr) (h : b < B) : RowP wr b off n L := by
  refine ⟨Nat.lt_of_lt_of_le r.1 hb.size, fun k hk => ?_⟩
  obtain ⟨h0, h1, h2, h3, h4, h5, h6, h7, h8⟩ := r.2 k hk
  exact ⟨(hb.cell (p := ⟨b, off + k * 9, none⟩) h).trans h0, (hb.cell (p := ⟨b, off + k * 9 + 1, none⟩) h).trans h1, (hb.cell (p := ⟨b, off + k * 9 + 1 + 1, none⟩) h).trans h2, (hb.cell (p := ⟨b, off + k * 9 + 1 + 1 + 1, none⟩) h).trans h3, (hb.cell (p := ⟨b, off + k * 9 + 1 + 1 + 1 + 1, none⟩) h).trans h4, (hb.cell (p := ⟨b, off + k * 9 + 1 + 1 + 1 + 1 + 1, none⟩) h).trans h5, (hb.cell (p := ⟨b, off + k * 9 + 1 + 1 + 1 + 1 + 1 + 1, none⟩) h).trans h6, (hb.cell (p := ⟨b, off + k * 9 + 1 + 1 + 1 + 1 + 1 + 1 + 1, none⟩) h).trans h7, (hb.cell (p := ⟨b, off + k * 9 + 1 + 1 + 1 + 1 + 1 + 1 + 1 + 1, none⟩) h).trans h8⟩
/-- the cells of spans -/
def svs (l : List (Int × Int)) : List Value := l.flatMap fun r => [.int .i64 r.1, .int .i64 r.2]
theorem svs_snoc (l : List (Int × Int)) (r : Int × Int) : svs l ++ [.int .i64 r.1, .int .i64 r.2] = svs (l ++ [r]) := by simp [svs]
theorem infoSp8 : (Try.prog.info? 35).map (fun i => (i.zero, i.size, i.bytes)) = some (some (.agg #[.int .i64 0, .int .i64 0]), 2, 16) := by kernel_rfl
theorem sp2_new (w : World) (x y : Int) (t : TypeId) : ∀ j u, ([.int .i64 x, .int .i64 y] : List Value)[j]? = some u → (w.alloc (.cells #[.int .i64 x, .int .i64 y] t)).cell? ((⟨w.heap.size, 0, none⟩ : Addr).add j) = some u := by
  intro j u hu
  match j, hu with
  | 0, hu =>
    have : u = .int .i64 x := by simp at hu; exact hu.symm
    subst this
    show (w.alloc (.cells #[.int .i64 x, .int .i64 y] t)).cell? ⟨w.heap.size, 0, none⟩ = _
    go_simp
  | 1, hu =>
    have : u = .int .i64 y := by simp at hu; exact hu.symm
    subst this
    show (w.alloc (.cells #[.int .i64 x, .int .i64 y] t)).cell? ⟨w.heap.size, 1, none⟩ = _
    go_simp
theorem own_below9 {w w1 : World} {base : Nat} {e : TypeId} {n : Nat} {v : Value} {k : Nat} {xs : List Value} (h : w.ownsRow base e n v k xs) (hb : Below w.heap.size w w1) : w1.ownsRow base e n v k xs := by
  refine ⟨h.1, ?_⟩
  rcases h.2 with hn | ⟨g, cap, cur, rfl, hg, hgg, rest⟩
  · exact .inl hn
  · exact .inr ⟨g, cap, cur, rfl, hg, by rw [hb.block g (Array.getElem?_eq_some_iff.1 hgg).1]; exact hgg, rest⟩
/-- the spans of the first k parts -/
def gis (g : P9 → Sp.R) (L : Nat → P9) : Nat → List (Int × Int)
  | 0 => []
  | k + 1 => gis g L k ++ [(g (L k)).1]
theorem gis_len (g : P9 → Sp.R) (L : Nat → P9) : ∀ k, (gis g L k).length = k
  | 0 => rfl
  | k + 1 => by show (gis g L k ++ [_]).length = _; rw [List.length_append, gis_len g L k]; rfl
/-- the first error of the first k parts -/
def gie (g : P9 → Sp.R) (L : Nat → P9) : Nat → Int
  | 0 => 0
  | k + 1 => if gie g L k = 0 then (g (L k)).2 else gie g L k
theorem gie_stop {g : P9 → Sp.R} {L : Nat → P9} {k : Nat} (h : gie g L k ≠ 0) : ∀ {n : Nat}, k ≤ n → gie g L n = gie g L k
  | 0, hn => by
    have : k = 0 := by omega
    subst this; rfl
  | n + 1, hn => by
    by_cases e : k = n + 1
    · subst e; rfl
    · have z := gie_stop h (n := n) (by omega)
      show (if gie g L n = 0 then _ else _) = _
      rw [z, if_neg h]
theorem gie_hit {g : P9 → Sp.R} {L : Nat → P9} {k n : Nat} (hk : k < n) (e : gie g L k = 0) (h : (g (L k)).2 ≠ 0) : gie g L n = (g (L k)).2 := by
  have q : gie g L (k + 1) = (g (L k)).2 := by
    show (if gie g L k = 0 then _ else _) = _
    rw [if_pos e]
  rw [gie_stop (k := k + 1) (by rw [q]; exact h) (by omega), q]
theorem gie_next {g : P9 → Sp.R} {L : Nat → P9} {k : Nat} (e : gie g L k = 0) (h : (g (L k)).2 = 0) : gie g L (k + 1) = 0 := by
  show (if gie g L k = 0 then _ else _) = _
  rw [if_pos e, h]
theorem pair_put8 {w : World} {b : Nat} {x y : Int} (h : Pair w b x y) (u v : Int) : Pair ((w.setCell ⟨b, 0, none⟩ (.int .i64 u)).setCell ⟨b, 1, none⟩ (.int .i64 v)) b u v := by
  obtain ⟨h1, h2, h3, h4, h5⟩ := h
  exact ⟨by go_simp, by go_simp, by go_simp, by go_simp, by simpa using h5⟩
theorem spn_keep {W : World} {b0 b off k n : Nat} {c : P3} {i o kk : Int} {L : Nat → P9} {t : P9} (h : OwnSh W b0 c i o kk) (r : RowP W b off n L) (hk : k < n) (e : L k = t) : W.cell? ⟨b0, 0, none⟩ = some (.int .i64 c.1) ∧ W.cell? ⟨b0, 1, none⟩ = some (.int .i64 c.2.1) ∧ W.cell? ⟨b0, 2, none⟩ = some (.int .i64 c.2.2) ∧ W.cell? ⟨b0, 3, none⟩ = some (.int .i64 i) ∧ W.cell? ⟨b0, 4, none⟩ = some (.int .i64 o) ∧ W.cell? ⟨b0, 5, none⟩ = some (.int .i64 kk) ∧ W.cell? ⟨b, off + k * 9, none⟩ = some (.int .i64 t.1.1) ∧ W.cell? ⟨b, off + k * 9 + 1, none⟩ = some (.int .i64 t.1.2.1) ∧ W.cell? ⟨b, off + k * 9 + 1 + 1, none⟩ = some (.int .i64 t.1.2.2) ∧ W.cell? ⟨b, off + k * 9 + 1 + 1 + 1, none⟩ = some (.int .i64 t.2.1.1) ∧ W.cell? ⟨b, off + k * 9 + 1 + 1 + 1 + 1, none⟩ = some (.int .i64 t.2.1.2.1) ∧ W.cell? ⟨b, off + k * 9 + 1 + 1 + 1 + 1 + 1, none⟩ = some (.int .i64 t.2.1.2.2) ∧ W.cell? ⟨b, off + k * 9 + 1 + 1 + 1 + 1 + 1 + 1, none⟩ = some (.int .i64 t.2.2.1) ∧ W.cell? ⟨b, off + k * 9 + 1 + 1 + 1 + 1 + 1 + 1 + 1, none⟩ = some (.int .i64 t.2.2.2.1) ∧ W.cell? ⟨b, off + k * 9 + 1 + 1 + 1 + 1 + 1 + 1 + 1 + 1, none⟩ = some (.int .i64 t.2.2.2.2) := by
  subst e
  obtain ⟨⟨h0, h1, h2, h3, h4, h5⟩, _⟩ := h
  obtain ⟨k0, k1, k2, k3, k4, k5, k6, k7, k8⟩ := r.2 k hk
  exact ⟨h0, h1, h2, h3, h4, h5, k0, k1, k2, k3, k4, k5, k6, k7, k8⟩
end Go.Proofs.Ytjigcgpcglfjfaa
namespace Go.Proofs.Ytjigcgpcglfjfaa
open Go.ChangeShapes Go.WideShapes Go.RowKit
open Sh
theorem first_bad8 (f : Nat → Bool) (n : Nat) : (∀ k, k < n → f k = true) ∨ ∃ k0, k0 < n ∧ f k0 = false ∧ ∀ k, k < k0 → f k = true := by
  induction n with
  | zero => exact Or.inl (fun k hk => absurd hk (Nat.not_lt_zero k))
  | succ n ih =>
    rcases ih with ih | ⟨k0, h1, h2, h3⟩
    · cases e : f n with
      | true => exact Or.inl (fun k hk => by
          by_cases c : k = n
          · rw [c, e]
          · exact ih k (by omega))
      | false => exact Or.inr ⟨n, by omega, e, ih⟩
    · exact Or.inr ⟨k0, by omega, h2, h3⟩
/-- the mean of n spans -/
def mnR8 (l h : Nat → Int) (n : Nat) : Sp.R := if (List.range n).all (fun k => Sp.vldB (l k) (h k)) = true then meanR (sm l n) (sm h n) 0 n else ((0, 0), 1)
theorem all_yes {f : Nat → Bool} {n : Nat} (h : ∀ k, k < n → f k = true) : (List.range n).all f = true := by
  rw [List.all_eq_true]
  exact fun k hk => h k (List.mem_range.1 hk)
theorem all_no {f : Nat → Bool} {n k : Nat} (hk : k < n) (h : f k = false) : ¬ (List.range n).all f = true := fun c => by
  rw [List.all_eq_true] at c
  have := c k (List.mem_range.2 hk)
  rw [h] at this
  cases this
theorem mean8_any (b off n cap : Nat) (l h : Nat → Int) (w : World) (r : Row w b off n l h) (hm : n ≤ 1000) :
    Calls Try.prog 74 #[.slice (some ⟨b, off, none⟩) n cap] w fun e w' => e = .returned (spr (mnR8 l h n)) ∧ Below w.heap.size w w' := by
  unfold mnR8
  rcases first_bad8 (fun k => Sp.vldB (l k) (h k)) n with v | ⟨k0, hk, nv, v⟩
  · rw [if_pos (all_yes v)]
    have bd1 := sm_bd (f := l) (k := n) (fun i hi => by have := Sp.vld_iff.1 (v i hi); omega)
    have bd2 := sm_bd (f := h) (k := n) (fun i hi => by have := Sp.vld_iff.1 (v i hi); omega)
    have T1 : TotC 136 (some ⟨b, off, none⟩) n cap (sm l n) (sm h n) 0 w := fun W B => total_ok b off n cap l h W (row_below r B) (by omega) v
    have S1 : Sm (sm l n) (n : Int) := ⟨by omega, by omega, by omega, by omega⟩
    have S2 : Sm (sm h n) (n : Int) := ⟨by omega, by omega, by omega, by omega⟩
    exact mean_any _ n cap _ _ 0 w w (Lib.hid T1) (Below.refl _ _) (by omega) (Lib.hid S1) (Lib.hid S2)
  · rw [if_neg (all_no hk nv)]
    have T1 : TotC 136 (some ⟨b, off, none⟩) n cap 0 0 1 w := fun W B => total_bad b off n cap k0 l h W (row_below r B) (by omega) hk v nv
    have S1 : Sm 0 (n : Int) := ⟨by omega, by omega, by omega, by omega⟩
    exact mean_any _ n cap 0 0 1 w w (Lib.hid T1) (Below.refl _ _) (by omega) (Lib.hid S1) (Lib.hid S1)
/-- what a panel's row in memory looks like, out of the row of its cells -/
theorem rowP_of {w : World} {base n cap : Nat} {g : Nat} {l : List P9} (h : w.ownsRow base 25 9 (.slice (some ⟨g, 0, none⟩) n cap) n (pcs l)) (hn : l.length = n) : RowP w g 0 n (fun k => l.getD k ((0, 0, 0), (0, 0, 0), (0, 0, 0))) := by
  have key : ∀ (l : List P9) (k : Nat), k < l.length → ∀ j, j < 9 → (pcs l)[k * 9 + j]? = (pcs9 (l.getD k ((0, 0, 0), (0, 0, 0), (0, 0, 0))))[j]? := by
    intro l
    induction l with
    | nil => intro k hk; exact absurd hk (Nat.not_lt_zero k)
    | cons t l ih =>
      intro k hk j hj
      have e : pcs (t :: l) = pcs9 t ++ pcs l := by simp [pcs]
      have e9 : (pcs9 t).length = 9 := rfl
      cases k with
      | zero =>
        rw [e, List.getElem?_append_left (by rw [e9]; omega), Nat.zero_mul, Nat.zero_add]
        rfl
      | succ k =>
        rw [e, List.getElem?_append_right (by rw [e9]; omega), e9, show (k + 1) * 9 + j - 9 = k * 9 + j by omega]
        exact ih k (by simpa using hk) j hj
  refine ⟨(h.lt g rfl).2, fun k hk => ?_⟩
  have cc : ∀ j, j < 9 → w.cell? ⟨g, 0 + k * 9 + j, none⟩ = (pcs9 (l.getD k ((0, 0, 0), (0, 0, 0), (0, 0, 0))))[j]? := fun j hj => by
    rw [Nat.zero_add, h.cellAt (k * 9 + j) (by omega), key l k (by omega) j hj]
  exact ⟨cc 0 (by decide), cc 1 (by decide), cc 2 (by decide), cc 3 (by decide), cc 4 (by decide), cc 5 (by decide), cc 6 (by decide), cc 7 (by decide), cc 8 (by decide)⟩
theorem row_of8 {w : World} {base n cap : Nat} {g : Nat} {l : List (Int × Int)} (h : w.ownsRow base 35 2 (.slice (some ⟨g, 0, none⟩) n cap) n (svs l)) (hn : l.length = n) : Row w g 0 n (fun k => (l.getD k (0, 0)).1) (fun k => (l.getD k (0, 0)).2) := by
  have key : ∀ (l : List (Int × Int)) (k : Nat), k < l.length → (svs l)[k * 2]? = some (.int .i64 (l.getD k (0, 0)).1) ∧ (svs l)[k * 2 + 1]? = some (.int .i64 (l.getD k (0, 0)).2) := by
    intro l
    induction l with
    | nil => intro k hk; exact absurd hk (Nat.not_lt_zero k)
    | cons t l ih =>
      intro k hk
      have e : svs (t :: l) = .int .i64 t.1 :: .int .i64 t.2 :: svs l := by simp [svs]
      cases k with
      | zero => rw [e]; exact ⟨rfl, rfl⟩
      | succ k =>
        rw [e, show (k + 1) * 2 = k * 2 + 1 + 1 by omega]
        exact ih k (by simpa using hk)
  refine ⟨(h.lt g rfl).2, fun k hk => ?_⟩
  rw [Nat.zero_add, h.cellAt (k * 2) (by omega), h.cellAt (k * 2 + 1) (by omega)]
  exact key l k (by omega)
theorem own_slice8 {w : World} {base : Nat} {e : TypeId} {s : Nat} {v : Value} {n : Nat} {xs : List Value} (h : w.ownsRow base e s v n xs) (h0 : 0 < n) : ∃ g cap, v = .slice (some ⟨g, 0, none⟩) n cap := by
  rcases h.2 with ⟨_, h1⟩ | ⟨g, cap, cur, e, _⟩
  · omega
  · exact ⟨g, cap, e⟩
/-- the parts of a panel, by number -/
def ptk (t : P9) (d : Int) (k : Nat) : P9 := (cutP d.toNat t).getD k ((0, 0, 0), (0, 0, 0), (0, 0, 0))
def ptn (d : Int) : Nat := 4 ^ d.toNat
theorem ptk_bd {t : P9} {d : Int} (h : BdT 64 t) (h0 : 0 ≤ d) (h3 : d ≤ 3) {k : Nat} (hk : k < ptn d) : BdT 512 (ptk t d k) := by
  have hm : ptk t d k ∈ cutP d.toNat t := by
    unfold ptk
    rw [List.getD_eq_getElem?_getD, List.getElem?_eq_getElem (by rw [cutP_len]; exact hk)]
    exact List.getElem_mem _
  refine (cutP_bd d.toNat h _ hm).mono ?_
  have : d.toNat = 0 ∨ d.toNat = 1 ∨ d.toNat = 2 ∨ d.toNat = 3 := by omega
  rcases this with e | e | e | e <;> rw [e] <;> decide
/-- what is heard -/
def shG (x : P3) (s d q : Int) (t : P9) : Sp.R := giR (tim (scl d) x) (inn s d q) (out8 s d q) (scl d) t
def hdR (x : P3) (s d : Int) (p : Pu) (tick : Int) : Sp.R :=
  if tick ≤ p.2.1 then ((0, 0), 0) else
  if gie (shG x s d (tick - p.2.1)) (ptk p.1 d) (ptn d) ≠ 0 then ((0, 0), gie (shG x s d (tick - p.2.1)) (ptk p.1 d) (ptn d)) else
  let m := mnR8 (fun k => ((gis (shG x s d (tick - p.2.1)) (ptk p.1 d) (ptn d)).getD k (0, 0)).1) (fun k => ((gis (shG x s d (tick - p.2.1)) (ptk p.1 d) (ptn d)).getD k (0, 0)).2) (ptn d)
  if m.2 ≠ 0 then ((0, 0), m.2) else scaleR m.1.1 m.1.2 p.2.2
end Go.Proofs.Ytjigcgpcglfjfaa
namespace Go.Proofs.Ytjigcgpcglfjfaa
open Go.ChangeShapes Go.WideShapes Go.RowKit
open Sh
/-- the error of a pulse and a microphone at a tick -/
def hcode (p : Pu) (x : P3) (s t d : Int) : Int := if pucode p = 0 then acode8 x s t d else pucode p
theorem hcode_m (p : Pu) (x : P3) (s t d : Int) : mcode8 (vpcode 1 (fun _ => p)) x s d (tcode (fun _ => t) 1) = hcode p x s t d := by
  have e : vpcode 1 (fun _ => p) = pucode p := by
    show (if (1 : Nat) ≤ 16 then (if (0 : Int) = 0 then pucode p else 0) else 4) = _
    rw [if_pos (by decide), if_pos rfl]
  have f : tcode (fun _ => t) 1 = if rngB t 0 2000 then 0 else 1 := by
    show (if (0 : Int) = 0 then (if rngB t 0 2000 then (0 : Int) else 1) else 1) = _
    rw [if_pos rfl]
  rw [e, f]
  unfold mcode8 hcode acode8
  cases inP 256 x <;> cases rngB s 1 16 <;> cases rngB t 0 2000 <;> cases rngB d 0 3 <;> rfl
theorem hcode_ok {p : Pu} {x : P3} {s t d : Int} (h : hcode p x s t d = 0) : pucode p = 0 ∧ BdP 256 x ∧ (1 ≤ s ∧ s ≤ 16) ∧ (0 ≤ t ∧ t ≤ 2000) ∧ (0 ≤ d ∧ d ≤ 3) := by
  unfold hcode at h
  by_cases z : pucode p = 0
  · rw [if_pos z] at h
    exact ⟨z, acode8_ok h⟩
  · rw [if_neg z] at h
    exact absurd h z
def heaR (p : Pu) (x : P3) (s t d : Int) : Sp.R := if hcode p x s t d = 0 then hdR x s d p t else ((0, 0), hcode p x s t d)
/-- the chapter's pulse -/
def exP : Pu := (((10, 0, 0), (12, 0, 0), (10, 2, 0)), 7, 3)
theorem ex_trv : trvR (0, 0, 0) (3, 4, 0) 2 = 3 ∧ trcode (0, 0, 0) (3, 4, 0) 2 = 0 := by decide
theorem ex_fst : fstR exP (0, 0, 0) 2 = 12 ∧ fcode exP (0, 0, 0) 2 = 0 := by decide
theorem ex_h7 : heaR exP (0, 0, 0) 2 7 1 = ((0, 0), 0) := by decide
theorem isq_eq8 {n r : Nat} (h1 : r * r ≤ n) (h2 : n < (r + 1) * (r + 1)) : Rt.isq n = r := by
  obtain ⟨k1, k2⟩ := Rt.isq_spec n
  rcases Nat.lt_trichotomy (Rt.isq n) r with h | h | h
  · have := Nat.mul_le_mul (show Rt.isq n + 1 ≤ r from h) (show Rt.isq n + 1 ≤ r from h)
    omega
  · exact h
  · have := Nat.mul_le_mul (show r + 1 ≤ Rt.isq n from h) (show r + 1 ≤ Rt.isq n from h)
    omega
theorem inv_val (n r : Nat) (h1 : r * r ≤ 4398046511104 / n) (h2 : 4398046511104 / n < (r + 1) * (r + 1)) (h3 : QW 4398046511104 n 1 = false) (h4 : 1 ≤ (n : Int) ∧ (n : Int) ≤ 1099511627776) (h5 : Sp.vldB r (r + 1 : Nat) = true) : invR n 2 = ((((r : Nat) : Int), ((r + 1 : Nat) : Int)), 0) := by
  have e : Rt.isq (QT 4398046511104 n 1) = r := isq_eq8 h1 h2
  unfold invR
  rw [if_pos ⟨h4.1, h4.2, by decide, by decide⟩]
  show belowR 4398046511104 ((n : Int).toNat) 1 = _
  rw [show ((n : Int).toNat) = n from rfl]
  unfold belowR qUp
  rw [h3, e]
  simp only [Bool.false_eq_true, if_false]
  exact Sp.told_yes h5
theorem iv_400 : invR 400 2 = ((104857, 104858), 0) := inv_val 400 104857 (by decide) (by decide) (by decide) (by decide) (by decide)
theorem iv_576 : invR 576 2 = ((87381, 87382), 0) := inv_val 576 87381 (by decide) (by decide) (by decide) (by decide) (by decide)
theorem iv_484 : invR 484 2 = ((95325, 95326), 0) := inv_val 484 95325 (by decide) (by decide) (by decide) (by decide) (by decide)
theorem iv_488 : invR 488 2 = ((94933, 94934), 0) := inv_val 488 94933 (by decide) (by decide) (by decide) (by decide) (by decide)
theorem iv_404 : invR 404 2 = ((104337, 104338), 0) := inv_val 404 104337 (by decide) (by decide) (by decide) (by decide) (by decide)
theorem ex_g0 : shG (0, 0, 0) 2 1 (13 - exP.2.1) (ptk exP.1 1 0) = ((0, 104858), 0) := by
  have e1 : Sp.mx (nearN (ptk exP.1 1 0) (tim (scl 1) (0, 0, 0))) (inn 2 1 (13 - exP.2.1)) = 400 := by decide
  have e2 : scl 1 = 2 := by decide
  show giR _ _ _ _ _ = _
  unfold giR
  rw [if_neg (by decide), if_neg (by decide), if_pos (by decide), e1, e2, iv_400]
theorem ex_g1 : shG (0, 0, 0) 2 1 (13 - exP.2.1) (ptk exP.1 1 1) = ((87381, 95326), 0) := by
  have e1 : Sp.mx (nearN (ptk exP.1 1 1) (tim (scl 1) (0, 0, 0))) (inn 2 1 (13 - exP.2.1)) = 484 := by decide
  have e2 : scl 1 = 2 := by decide
  have e3 : farN (ptk exP.1 1 1) (tim (scl 1) (0, 0, 0)) = 576 := by decide
  show giR _ _ _ _ _ = _
  unfold giR
  rw [if_neg (by decide), if_neg (by decide), if_neg (by decide), e1, e3, e2, iv_484, iv_576]
theorem ex_g2 : shG (0, 0, 0) 2 1 (13 - exP.2.1) (ptk exP.1 1 2) = ((94933, 104338), 0) := by
  have e1 : Sp.mx (nearN (ptk exP.1 1 2) (tim (scl 1) (0, 0, 0))) (inn 2 1 (13 - exP.2.1)) = 404 := by decide
  have e2 : scl 1 = 2 := by decide
  have e3 : farN (ptk exP.1 1 2) (tim (scl 1) (0, 0, 0)) = 488 := by decide
  show giR _ _ _ _ _ = _
  unfold giR
  rw [if_neg (by decide), if_neg (by decide), if_neg (by decide), e1, e3, e2, iv_404, iv_488]
theorem ex_g3 : shG (0, 0, 0) 2 1 (13 - exP.2.1) (ptk exP.1 1 3) = ((0, 104858), 0) := by
  have e1 : Sp.mx (nearN (ptk exP.1 1 3) (tim (scl 1) (0, 0, 0))) (inn 2 1 (13 - exP.2.1)) = 400 := by decide
  have e2 : scl 1 = 2 := by decide
  show giR _ _ _ _ _ = _
  unfold giR
  rw [if_neg (by decide), if_neg (by decide), if_pos (by decide), e1, e2, iv_400]
theorem ex_gis : gis (shG (0, 0, 0) 2 1 (13 - exP.2.1)) (ptk exP.1 1) (ptn 1) = [(0, 104858), (87381, 95326), (94933, 104338), (0, 104858)] := by
  show ((([] ++ [(shG (0, 0, 0) 2 1 (13 - exP.2.1) (ptk exP.1 1 0)).1]) ++ [(shG (0, 0, 0) 2 1 (13 - exP.2.1) (ptk exP.1 1 1)).1]) ++ [(shG (0, 0, 0) 2 1 (13 - exP.2.1) (ptk exP.1 1 2)).1]) ++ [(shG (0, 0, 0) 2 1 (13 - exP.2.1) (ptk exP.1 1 3)).1] = _
  rw [ex_g0, ex_g1, ex_g2, ex_g3]
  rfl
theorem ex_gie : gie (shG (0, 0, 0) 2 1 (13 - exP.2.1)) (ptk exP.1 1) (ptn 1) = 0 := by
  have h : ∀ k, k ≤ 4 → gie (shG (0, 0, 0) 2 1 (13 - exP.2.1)) (ptk exP.1 1) k = 0 := by
    intro k
    induction k with
    | zero => exact fun _ => rfl
    | succ k ih =>
      intro hk
      refine gie_next (ih (by omega)) ?_
      have : k = 0 ∨ k = 1 ∨ k = 2 ∨ k = 3 := by omega
      rcases this with rfl | rfl | rfl | rfl
      · rw [ex_g0]
      · rw [ex_g1]
      · rw [ex_g2]
      · rw [ex_g3]
  exact h 4 (Nat.le_refl _)
def exL : List (Int × Int) := [(0, 104858), (87381, 95326), (94933, 104338), (0, 104858)]
def exM : Sp.R := mnR8 (fun k => (exL.getD k (0, 0)).1) (fun k => (exL.getD k (0, 0)).2) 4
theorem ex_h13e : heaR exP (0, 0, 0) 2 13 1 = scaleR exM.1.1 exM.1.2 3 := by
  unfold heaR hdR
  rw [if_pos (by decide), if_neg (by decide), if_neg (fun c => c ex_gie), ex_gis]
  show (if exM.2 ≠ 0 then _ else scaleR exM.1.1 exM.1.2 3) = _
  rw [if_neg (by decide)]
theorem ex_h13 : (heaR exP (0, 0, 0) 2 13 1).2 = 0 ∧ 0 < (heaR exP (0, 0, 0) 2 13 1).1.2 := by
  rw [ex_h13e]
  decide
end Go.Proofs.Ytjigcgpcglfjfaa
