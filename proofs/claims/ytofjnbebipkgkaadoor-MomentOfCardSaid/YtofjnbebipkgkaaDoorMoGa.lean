/-
  The contract of gather: what a charged panel adds to the moments.
-/
import Derived.Test.YtofjnbebipkgkaaDoorMoCor
namespace Go.Proofs.YtofjnbebipkgkaaDoor
open Go.ChangeShapes Go.WideShapes Go.RowKit
open Sh
attribute [local go_sem 1000000] run_min_mn run_max_mx
theorem mx_abs (n : Int) : Sp.mx n (-n) = absI n := by unfold Sp.mx absI; split <;> split <;> omega
theorem gth_bd {q x y a b c d e f : Int} (hq : -100 ≤ q ∧ q ≤ 100) (h1 : -384 ≤ x ∧ x ≤ 384) (h2 : -384 ≤ y ∧ y ≤ 384) (h3 : -128 ≤ a ∧ a ≤ 128) (h4 : -128 ≤ b ∧ b ≤ 128) (h5 : -128 ≤ c ∧ c ≤ 128) (h6 : -128 ≤ d ∧ d ≤ 128) (h7 : -128 ≤ e ∧ e ≤ 128) (h8 : -128 ≤ f ∧ f ≤ 128) :
    (-147456 ≤ x * y ∧ x * y ≤ 147456) ∧ (-16384 ≤ a * b ∧ a * b ≤ 16384) ∧ (-16384 ≤ c * d ∧ c * d ≤ 16384) ∧ (-16384 ≤ e * f ∧ e * f ≤ 16384) ∧ (-19660800 ≤ q * (x * y + a * b + c * d + e * f) ∧ q * (x * y + a * b + c * d + e * f) ≤ 19660800) := by
  have p1 := mul_bd (A := 384) (B := 384) h1.1 h1.2 h2.1 h2.2
  have p2 := mul_bd (A := 128) (B := 128) h3.1 h3.2 h4.1 h4.2
  have p3 := mul_bd (A := 128) (B := 128) h5.1 h5.2 h6.1 h6.2
  have p4 := mul_bd (A := 128) (B := 128) h7.1 h7.2 h8.1 h8.2
  have p5 := mul_bd (x := q) (y := x * y + a * b + c * d + e * f) (A := 100) (B := 196608) hq.1 hq.2 (by omega) (by omega)
  exact ⟨by omega, by omega, by omega, by omega, by omega⟩
/-- the center and the moments gathered so far, as the block holds them -/
abbrev gl (p : P3) (m : Mo) : List Int := [p.1, p.2.1, p.2.2, m.c, m.t, m.d.1, m.d.2.1, m.d.2.2, m.s0, m.s1, m.s2, m.s3, m.s4, m.s5]
/-- the same, k second moments further -/
def glk (p : P3) (m n : Mo) : Nat → List Int
  | 0 => [p.1, p.2.1, p.2.2, n.c, n.t, n.d.1, n.d.2.1, n.d.2.2, m.s0, m.s1, m.s2, m.s3, m.s4, m.s5]
  | 1 => [p.1, p.2.1, p.2.2, n.c, n.t, n.d.1, n.d.2.1, n.d.2.2, n.s0, m.s1, m.s2, m.s3, m.s4, m.s5]
  | 2 => [p.1, p.2.1, p.2.2, n.c, n.t, n.d.1, n.d.2.1, n.d.2.2, n.s0, n.s1, m.s2, m.s3, m.s4, m.s5]
  | 3 => [p.1, p.2.1, p.2.2, n.c, n.t, n.d.1, n.d.2.1, n.d.2.2, n.s0, n.s1, n.s2, m.s3, m.s4, m.s5]
  | 4 => [p.1, p.2.1, p.2.2, n.c, n.t, n.d.1, n.d.2.1, n.d.2.2, n.s0, n.s1, n.s2, n.s3, m.s4, m.s5]
  | 5 => [p.1, p.2.1, p.2.2, n.c, n.t, n.d.1, n.d.2.1, n.d.2.2, n.s0, n.s1, n.s2, n.s3, n.s4, m.s5]
  | _ => [p.1, p.2.1, p.2.2, n.c, n.t, n.d.1, n.d.2.1, n.d.2.2, n.s0, n.s1, n.s2, n.s3, n.s4, n.s5]
/-- what gather has at a place of its way: the block, the panel, the corners, the sum, the table -/
def GA (W wx : World) (g bq bl bs : Nat) (l : List Int) (q : Ch) (A B C s : P3) : Prop :=
  OwnL wx g l ∧ OwnCh wx bq q ∧ OwnL wx bl [A.1, A.2.1, A.2.2, B.1, B.2.1, B.2.2, C.1, C.2.1, C.2.2] ∧ OwnL wx bs [s.1, s.2.1, s.2.2] ∧ Plc wx ∧ Below g W wx ∧ g < bq ∧ bq < bl ∧ bq < bs ∧ bl ≠ bs
def GB (W wx : World) (g bq bl : Nat) (l : List Int) (q : Ch) (A B C : P3) : Prop :=
  OwnL wx g l ∧ OwnCh wx bq q ∧ OwnL wx bl [A.1, A.2.1, A.2.2, B.1, B.2.1, B.2.2, C.1, C.2.1, C.2.2] ∧ Plc wx ∧ Below g W wx ∧ g < bq ∧ bq < bl
def GC (W wx : World) (g bq : Nat) (l : List Int) (q : Ch) : Prop := OwnL wx g l ∧ OwnCh wx bq q ∧ Plc wx ∧ Below g W wx ∧ g < bq
theorem ga_below {W wx : World} {g bq bl bs : Nat} {l : List Int} {q : Ch} {A B C s : P3} (h : GA W wx g bq bl bs l q A B C s) {wy : World} (hb : Below wx.heap.size wx wy) : GA W wy g bq bl bs l q A B C s := ⟨ownL_below h.1 hb, ownCh_below h.2.1 hb, ownL_below h.2.2.1 hb, ownL_below h.2.2.2.1 hb, plc_below h.2.2.2.2.1 hb, below_step h.2.2.2.2.2.1 hb (Nat.le_of_lt h.1.1), h.2.2.2.2.2.2.1, h.2.2.2.2.2.2.2.1, h.2.2.2.2.2.2.2.2.1, h.2.2.2.2.2.2.2.2.2⟩
theorem ga_alloc {W wx : World} {g bq bl bs : Nat} {l : List Int} {q : Ch} {A B C s : P3} (h : GA W wx g bq bl bs l q A B C s) (o : Obj) : GA W (wx.alloc o) g bq bl bs l q A B C s := ga_below h ((Below.refl _ _).alloc (Nat.le_refl _) _)
theorem ga_drew {W wx : World} {g bq bl bs : Nat} {l : List Int} {q : Ch} {A B C s : P3} (h : GA W wx g bq bl bs l q A B C s) : GA W wx.drew g bq bl bs l q A B C s := ⟨h.1, h.2.1, h.2.2.1, h.2.2.2.1, h.2.2.2.2.1, Below.drew h.2.2.2.2.2.1, h.2.2.2.2.2.2.1, h.2.2.2.2.2.2.2.1, h.2.2.2.2.2.2.2.2.1, h.2.2.2.2.2.2.2.2.2⟩
theorem gb_below {W wx : World} {g bq bl : Nat} {l : List Int} {q : Ch} {A B C : P3} (h : GB W wx g bq bl l q A B C) {wy : World} (hb : Below wx.heap.size wx wy) : GB W wy g bq bl l q A B C := ⟨ownL_below h.1 hb, ownCh_below h.2.1 hb, ownL_below h.2.2.1 hb, plc_below h.2.2.2.1 hb, below_step h.2.2.2.2.1 hb (Nat.le_of_lt h.1.1), h.2.2.2.2.2.1, h.2.2.2.2.2.2⟩
theorem gb_alloc {W wx : World} {g bq bl : Nat} {l : List Int} {q : Ch} {A B C : P3} (h : GB W wx g bq bl l q A B C) (o : Obj) : GB W (wx.alloc o) g bq bl l q A B C := gb_below h ((Below.refl _ _).alloc (Nat.le_refl _) _)
theorem gb_drew {W wx : World} {g bq bl : Nat} {l : List Int} {q : Ch} {A B C : P3} (h : GB W wx g bq bl l q A B C) : GB W wx.drew g bq bl l q A B C := ⟨h.1, h.2.1, h.2.2.1, h.2.2.2.1, Below.drew h.2.2.2.2.1, h.2.2.2.2.2.1, h.2.2.2.2.2.2⟩
theorem gc_below {W wx : World} {g bq : Nat} {l : List Int} {q : Ch} (h : GC W wx g bq l q) {wy : World} (hb : Below wx.heap.size wx wy) : GC W wy g bq l q := ⟨ownL_below h.1 hb, ownCh_below h.2.1 hb, plc_below h.2.2.1 hb, below_step h.2.2.2.1 hb (Nat.le_of_lt h.1.1), h.2.2.2.2⟩
theorem gc_alloc {W wx : World} {g bq : Nat} {l : List Int} {q : Ch} (h : GC W wx g bq l q) (o : Obj) : GC W (wx.alloc o) g bq l q := gc_below h ((Below.refl _ _).alloc (Nat.le_refl _) _)
theorem gc_drew {W wx : World} {g bq : Nat} {l : List Int} {q : Ch} (h : GC W wx g bq l q) : GC W wx.drew g bq l q := ⟨h.1, h.2.1, h.2.2.1, Below.drew h.2.2.2.1, h.2.2.2.2⟩
theorem ownCh_set {w : World} {b r o : Nat} {v : Value} {q : Ch} (h : OwnCh w b q) (n : b ≠ r) : OwnCh (w.setCell ⟨r, o, none⟩ v) b q := by
  obtain ⟨⟨h0, h1, h2, h3, h4, h5, h6, h7, h8, h9⟩, l⟩ := h
  have n' : ¬ r = b := fun e => n e.symm
  exact ⟨⟨by go_simp, by go_simp, by go_simp, by go_simp, by go_simp, by go_simp, by go_simp, by go_simp, by go_simp, by go_simp⟩, by simpa using l⟩
theorem plc_set {w : World} {r o : Nat} {v : Value} (h : Plc w) (n : r ≠ 0) : Plc (w.setCell ⟨r, o, none⟩ v) := by
  obtain ⟨⟨h0, h1, h2, h3, h4, h5, h6, h7, h8, h9, h10, h11⟩, l⟩ := h
  have n' : ¬ 0 = r := fun e => n e.symm
  exact ⟨⟨by go_simp, by go_simp, by go_simp, by go_simp, by go_simp, by go_simp, by go_simp, by go_simp, by go_simp, by go_simp, by go_simp, by go_simp⟩, by simpa using l⟩
/-- a number of the block is changed -/
theorem ga_put {W wx : World} {g bq bl bs : Nat} {l : List Int} {q : Ch} {A B C s : P3} (h : GA W wx g bq bl bs l q A B C s) (j : Nat) (y : Int) (hj : j < l.length) (hg : g ≠ 0) {l' : List Int} (e : l.set j y = l') : GA W (wx.setCell ⟨g, j, none⟩ (.int .i64 y)) g bq bl bs l' q A B C s := by
  obtain ⟨h1, h2, h3, h4, h5, h6, h7, h8, h9, h10⟩ := h
  subst e
  exact ⟨ownL_put h1 y hj, ownCh_set h2 (by omega), ownL_set h3 (by omega), ownL_set h4 (by omega), plc_set h5 hg, below_set1 h6 (Nat.le_refl _), h7, h8, h9, h10⟩

end Go.Proofs.YtofjnbebipkgkaaDoor
