/-
  The document's close: the squared distance of two boxes.
-/
import Derived.Test.YtjigcgpcglfjfaaFg17
namespace Go.Proofs.Ytjigcgpcglfjfaa
open Go.ChangeShapes Go.WideShapes Go.RowKit
open Sh
theorem mnN_lo0 (P : Nat → P3) : ∀ n, mnN (fun k => (P k).1) n = (loN P n).1
  | 0 => rfl
  | n + 1 => by
    show Sp.mn (mnN (fun k => (P k).1) n) (P n).1 = Sp.mn (loN P n).1 (P n).1
    rw [mnN_lo0 P n]
theorem mxN_hi0 (P : Nat → P3) : ∀ n, mxN (fun k => (P k).1) n = (hiN P n).1
  | 0 => rfl
  | n + 1 => by
    show Sp.mx (mxN (fun k => (P k).1) n) (P n).1 = Sp.mx (hiN P n).1 (P n).1
    rw [mxN_hi0 P n]
theorem mnN_lo1 (P : Nat → P3) : ∀ n, mnN (fun k => (P k).2.1) n = (loN P n).2.1
  | 0 => rfl
  | n + 1 => by
    show Sp.mn (mnN (fun k => (P k).2.1) n) (P n).2.1 = Sp.mn (loN P n).2.1 (P n).2.1
    rw [mnN_lo1 P n]
theorem mxN_hi1 (P : Nat → P3) : ∀ n, mxN (fun k => (P k).2.1) n = (hiN P n).2.1
  | 0 => rfl
  | n + 1 => by
    show Sp.mx (mxN (fun k => (P k).2.1) n) (P n).2.1 = Sp.mx (hiN P n).2.1 (P n).2.1
    rw [mxN_hi1 P n]
theorem mnN_lo2 (P : Nat → P3) : ∀ n, mnN (fun k => (P k).2.2) n = (loN P n).2.2
  | 0 => rfl
  | n + 1 => by
    show Sp.mn (mnN (fun k => (P k).2.2) n) (P n).2.2 = Sp.mn (loN P n).2.2 (P n).2.2
    rw [mnN_lo2 P n]
theorem mxN_hi2 (P : Nat → P3) : ∀ n, mxN (fun k => (P k).2.2) n = (hiN P n).2.2
  | 0 => rfl
  | n + 1 => by
    show Sp.mx (mxN (fun k => (P k).2.2) n) (P n).2.2 = Sp.mx (hiN P n).2.2 (P n).2.2
    rw [mxN_hi2 P n]
set_option maxRecDepth 100000 in
set_option maxHeartbeats 4000000 in
theorem rclose_any (a b c : P3) (d m e' : Nat) (Q : Nat → P3) (w : World) (r : RwG w d m Q) (hm0 : 0 < m) (hm1 : m ≤ 1000) (hT : BdT 1000000 (a, b, c)) (hQ : ∀ k, k < m → BdP 1000000 (Q k)) :
    Calls Try.prog 114 #[pnv a b c, .slice (some ⟨d, 0, none⟩) m e'] w fun e w' => e = .returned (.int .i64 (nG (loN (P3F (a, b, c)) 3) (hiN (P3F (a, b, c)) 3) (loN Q m) (hiN Q m))) ∧ Below w.heap.size w w' := by
  have hP : ∀ k, k < 3 → BdP 1000000 (P3F (a, b, c) k) := fun k hk => by
    match k, hk with
    | 0, _ => exact hT.1
    | 1, _ => exact hT.2.1
    | 2, _ => exact hT.2.2
  have hP0 : ∀ k, k < 3 → -1000000 ≤ (P3F (a, b, c) k).1 ∧ (P3F (a, b, c) k).1 ≤ 1000000 := fun k hk => ⟨(hP k hk).1, (hP k hk).2.1⟩
  have hP1 : ∀ k, k < 3 → -1000000 ≤ (P3F (a, b, c) k).2.1 ∧ (P3F (a, b, c) k).2.1 ≤ 1000000 := fun k hk => ⟨(hP k hk).2.2.1, (hP k hk).2.2.2.1⟩
  have hP2 : ∀ k, k < 3 → -1000000 ≤ (P3F (a, b, c) k).2.2 ∧ (P3F (a, b, c) k).2.2 ≤ 1000000 := fun k hk => ⟨(hP k hk).2.2.2.2.1, (hP k hk).2.2.2.2.2⟩
  have hQ0 : ∀ k, k < m → -1000000 ≤ (Q k).1 ∧ (Q k).1 ≤ 1000000 := fun k hk => ⟨(hQ k hk).1, (hQ k hk).2.1⟩
  have hQ1 : ∀ k, k < m → -1000000 ≤ (Q k).2.1 ∧ (Q k).2.1 ≤ 1000000 := fun k hk => ⟨(hQ k hk).2.2.1, (hQ k hk).2.2.2.1⟩
  have hQ2 : ∀ k, k < m → -1000000 ≤ (Q k).2.2 ∧ (Q k).2.2 ≤ 1000000 := fun k hk => ⟨(hQ k hk).2.2.2.2.1, (hQ k hk).2.2.2.2.2⟩
  have hT' := hT
  clear hP hT hQ
  have RC0 := rwg_new3 (w.alloc (pnc a b c 25)) a b c 23
  have RD0 := rwg_below r (((Below.refl w.heap.size w).alloc (Nat.le_refl _) (pnc a b c 25)).alloc (by simp) (pnc a b c 23))
  have B0 : Below w.heap.size w ((w.alloc (pnc a b c 25)).alloc (pnc a b c 23)) := ((Below.refl w.heap.size w).alloc (Nat.le_refl _) (pnc a b c 25)).alloc (by simp) (pnc a b c 23)
  simp only [World.size_alloc] at RC0
  clear r
  have LB := lo3_bd hT'
  have HB := hi3_bd hT'
  obtain ⟨⟨l1, l2⟩, l3, l4⟩ := mnN_bd (hQ0 0 hm0) (n := m) hQ0
  obtain ⟨⟨l5, l6⟩, l7, l8⟩ := mnN_bd (hQ1 0 hm0) (n := m) hQ1
  obtain ⟨⟨l9, la⟩, lb, lc⟩ := mnN_bd (hQ2 0 hm0) (n := m) hQ2
  rw [mnN_lo0] at l1 l2
  rw [mxN_hi0] at l3 l4
  rw [mnN_lo1] at l5 l6
  rw [mxN_hi1] at l7 l8
  rw [mnN_lo2] at l9 la
  rw [mxN_hi2] at lb lc
  obtain ⟨x1, x2, x3, x4, x5, x6⟩ := LB
  obtain ⟨y1, y2, y3, y4, y5, y6⟩ := HB
  have g1 := gp_bd (L := 1000000) ⟨x1, x2⟩ ⟨y1, y2⟩ ⟨l1, l2⟩ ⟨l3, l4⟩
  have g2 := gp_bd (L := 1000000) ⟨x3, x4⟩ ⟨y3, y4⟩ ⟨l5, l6⟩ ⟨l7, l8⟩
  have g3 := gp_bd (L := 1000000) ⟨x5, x6⟩ ⟨y5, y6⟩ ⟨l9, la⟩ ⟨lb, lc⟩
  have q1 := mul_bd (A := 2000000) (B := 2000000) (by omega) g1.2 (by omega) g1.2
  have q2 := mul_bd (A := 2000000) (B := 2000000) (by omega) g2.2 (by omega) g2.2
  have q3 := mul_bd (A := 2000000) (B := 2000000) (by omega) g3.2 (by omega) g3.2
  clear l1 l2 l3 l4 l5 l6 l7 l8 l9 la lb lc x1 x2 x3 x4 x5 x6 y1 y2 y3 y4 y5 y6 g1 g2 g3
  obtain ⟨q1, q4⟩ := q1
  obtain ⟨q2, q5⟩ := q2
  obtain ⟨q3, q6⟩ := q3
  rw [show nG (loN (P3F (a, b, c)) 3) (hiN (P3F (a, b, c)) 3) (loN Q m) (hiN Q m) = gp (loN (P3F (a, b, c)) 3).1 (hiN (P3F (a, b, c)) 3).1 (loN Q m).1 (hiN Q m).1 * gp (loN (P3F (a, b, c)) 3).1 (hiN (P3F (a, b, c)) 3).1 (loN Q m).1 (hiN Q m).1 + gp (loN (P3F (a, b, c)) 3).2.1 (hiN (P3F (a, b, c)) 3).2.1 (loN Q m).2.1 (hiN Q m).2.1 * gp (loN (P3F (a, b, c)) 3).2.1 (hiN (P3F (a, b, c)) 3).2.1 (loN Q m).2.1 (hiN Q m).2.1 + gp (loN (P3F (a, b, c)) 3).2.2 (hiN (P3F (a, b, c)) 3).2.2 (loN Q m).2.2 (hiN Q m).2.2 * gp (loN (P3F (a, b, c)) 3).2.2 (hiN (P3F (a, b, c)) 3).2.2 (loN Q m).2.2 (hiN Q m).2.2 from rfl]
  go_enter Try.func114, Try.ntmps114
  go_wp2_with fail
  with_reducible refine (rax0_any (w.heap.size + 1) 3 3 (P3F (a, b, c)) _ RC0 (by decide)).mono ?_
  rintro e w0a ⟨u0a, rfl, ho0a, hb0a⟩
  obtain ⟨q0a, k0a, rfl, _, ri0a⟩ := rwi_of ho0a (by decide)
  have RC0a := rwg_below RC0 hb0a
  have RD0a := rwg_below RD0 hb0a
  have B0a := bstep B0 hb0a
  clear RC0 RD0 B0 hb0a ho0a
  go_wp2_with fail
  with_reducible refine (rax0_any d m e' Q _ RD0a hm1).mono ?_
  rintro e w0b ⟨u0b, rfl, ho0b, hb0b⟩
  obtain ⟨q0b, k0b, rfl, _, ri0b⟩ := rwi_of ho0b hm0
  have RC0b := rwg_below RC0a hb0b
  have RD0b := rwg_below RD0a hb0b
  have B0b := bstep B0a hb0b
  have rj0b := rwi_below ri0a hb0b
  clear RC0a RD0a B0a hb0b ho0b ri0a
  go_wp2_with fail
  with_reducible refine (rgap_any q0a 3 k0a q0b m k0b (fun k => (P3F (a, b, c) k).1) (fun k => (Q k).1) _ rj0b ri0b (by decide) (by decide) hm0 hm1 hP0 hQ0).mono ?_
  rintro e w0c ⟨rfl, hb0c⟩
  have RC0c := rwg_below RC0b hb0c
  have RD0c := rwg_below RD0b hb0c
  have B0c := bstep B0b hb0c
  clear RC0b RD0b B0b hb0c ri0b rj0b
  rw [mnN_lo0, mnN_lo0, mxN_hi0, mxN_hi0]
  go_wp2_with fail
  with_reducible refine (rax1_any (w.heap.size + 1) 3 3 (P3F (a, b, c)) _ RC0c (by decide)).mono ?_
  rintro e w1a ⟨u1a, rfl, ho1a, hb1a⟩
  obtain ⟨q1a, k1a, rfl, _, ri1a⟩ := rwi_of ho1a (by decide)
  have RC1a := rwg_below RC0c hb1a
  have RD1a := rwg_below RD0c hb1a
  have B1a := bstep B0c hb1a
  clear RC0c RD0c B0c hb1a ho1a
  go_wp2_with fail
  with_reducible refine (rax1_any d m e' Q _ RD1a hm1).mono ?_
  rintro e w1b ⟨u1b, rfl, ho1b, hb1b⟩
  obtain ⟨q1b, k1b, rfl, _, ri1b⟩ := rwi_of ho1b hm0
  have RC1b := rwg_below RC1a hb1b
  have RD1b := rwg_below RD1a hb1b
  have B1b := bstep B1a hb1b
  have rj1b := rwi_below ri1a hb1b
  clear RC1a RD1a B1a hb1b ho1b ri1a
  go_wp2_with fail
  with_reducible refine (rgap_any q1a 3 k1a q1b m k1b (fun k => (P3F (a, b, c) k).2.1) (fun k => (Q k).2.1) _ rj1b ri1b (by decide) (by decide) hm0 hm1 hP1 hQ1).mono ?_
  rintro e w1c ⟨rfl, hb1c⟩
  have RC1c := rwg_below RC1b hb1c
  have RD1c := rwg_below RD1b hb1c
  have B1c := bstep B1b hb1c
  clear RC1b RD1b B1b hb1c ri1b rj1b
  rw [mnN_lo1, mnN_lo1, mxN_hi1, mxN_hi1]
  go_wp2_with fail
  with_reducible refine (rax2_any (w.heap.size + 1) 3 3 (P3F (a, b, c)) _ RC1c (by decide)).mono ?_
  rintro e w2a ⟨u2a, rfl, ho2a, hb2a⟩
  obtain ⟨q2a, k2a, rfl, _, ri2a⟩ := rwi_of ho2a (by decide)
  have RC2a := rwg_below RC1c hb2a
  have RD2a := rwg_below RD1c hb2a
  have B2a := bstep B1c hb2a
  clear RC1c RD1c B1c hb2a ho2a
  go_wp2_with fail
  with_reducible refine (rax2_any d m e' Q _ RD2a hm1).mono ?_
  rintro e w2b ⟨u2b, rfl, ho2b, hb2b⟩
  obtain ⟨q2b, k2b, rfl, _, ri2b⟩ := rwi_of ho2b hm0
  have RC2b := rwg_below RC2a hb2b
  have RD2b := rwg_below RD2a hb2b
  have B2b := bstep B2a hb2b
  have rj2b := rwi_below ri2a hb2b
  clear RC2a RD2a B2a hb2b ho2b ri2a
  go_wp2_with fail
  with_reducible refine (rgap_any q2a 3 k2a q2b m k2b (fun k => (P3F (a, b, c) k).2.2) (fun k => (Q k).2.2) _ rj2b ri2b (by decide) (by decide) hm0 hm1 hP2 hQ2).mono ?_
  rintro e w2c ⟨rfl, hb2c⟩
  have RC2c := rwg_below RC2b hb2c
  have RD2c := rwg_below RD2b hb2c
  have B2c := bstep B2b hb2c
  clear RC2b RD2b B2b hb2c ri2b rj2b
  rw [mnN_lo2, mnN_lo2, mxN_hi2, mxN_hi2]
  go_wp2
  go_ret
  exact ⟨rfl, B2c⟩

end Go.Proofs.Ytjigcgpcglfjfaa
