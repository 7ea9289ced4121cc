/-
  The contract of field.groupOf: points with their box.
-/
import Derived.Test.YtjigcgpcglfjfaaFg4
namespace Go.Proofs.Ytjigcgpcglfjfaa
open Go.ChangeShapes Go.WideShapes Go.RowKit
open Sh
attribute [local go_sem 1000000] run_min_mn run_max_mx
attribute [local go_sem high] run_max3' run_min3'
/-- a block of the call's own that holds a group -/
def OwG (w : World) (q : Nat) (sv : Value) (lo hi : P3) : Prop := w.cell? ⟨q, 0, none⟩ = some sv ∧ w.cell? ⟨q, 1, none⟩ = some (.int .i64 lo.1) ∧ w.cell? ⟨q, 2, none⟩ = some (.int .i64 lo.2.1) ∧ w.cell? ⟨q, 3, none⟩ = some (.int .i64 lo.2.2) ∧ w.cell? ⟨q, 4, none⟩ = some (.int .i64 hi.1) ∧ w.cell? ⟨q, 5, none⟩ = some (.int .i64 hi.2.1) ∧ w.cell? ⟨q, 6, none⟩ = some (.int .i64 hi.2.2) ∧ w.frozen? ⟨q, 0, none⟩ = false ∧ w.frozen? ⟨q, 1, none⟩ = false ∧ w.frozen? ⟨q, 2, none⟩ = false ∧ w.frozen? ⟨q, 3, none⟩ = false ∧ w.frozen? ⟨q, 4, none⟩ = false ∧ w.frozen? ⟨q, 5, none⟩ = false ∧ w.frozen? ⟨q, 6, none⟩ = false ∧ q < w.heap.size
theorem owg_new (w : World) (sv : Value) (lo hi : P3) (t : TypeId) : OwG (w.alloc (.cells #[sv, .int .i64 lo.1, .int .i64 lo.2.1, .int .i64 lo.2.2, .int .i64 hi.1, .int .i64 hi.2.1, .int .i64 hi.2.2] t)) w.heap.size sv lo hi :=
  ⟨by go_simp, by go_simp, by go_simp, by go_simp, by go_simp, by go_simp, by go_simp, by go_simp, by go_simp, by go_simp, by go_simp, by go_simp, by go_simp, by go_simp, by simp⟩
theorem owg_in {w w1 : World} {N q : Nat} {sv : Value} {lo hi : P3} (h : OwG w q sv lo hi) (hb : Below N w w1) (hq : q < N) : OwG w1 q sv lo hi := by
  obtain ⟨h0, h1, h2, h3, h4, h5, h6, h7, h8, h9, h10, h11, h12, h13, h14⟩ := h
  exact ⟨(hb.cell (p := ⟨q, 0, none⟩) hq).trans h0, (hb.cell (p := ⟨q, 1, none⟩) hq).trans h1, (hb.cell (p := ⟨q, 2, none⟩) hq).trans h2, (hb.cell (p := ⟨q, 3, none⟩) hq).trans h3, (hb.cell (p := ⟨q, 4, none⟩) hq).trans h4, (hb.cell (p := ⟨q, 5, none⟩) hq).trans h5, (hb.cell (p := ⟨q, 6, none⟩) hq).trans h6, (hb.frozen (p := ⟨q, 0, none⟩) hq).trans h7, (hb.frozen (p := ⟨q, 1, none⟩) hq).trans h8, (hb.frozen (p := ⟨q, 2, none⟩) hq).trans h9, (hb.frozen (p := ⟨q, 3, none⟩) hq).trans h10, (hb.frozen (p := ⟨q, 4, none⟩) hq).trans h11, (hb.frozen (p := ⟨q, 5, none⟩) hq).trans h12, (hb.frozen (p := ⟨q, 6, none⟩) hq).trans h13, Nat.lt_of_lt_of_le h14 hb.size⟩
theorem owg_below {w w1 : World} {q : Nat} {sv : Value} {lo hi : P3} (h : OwG w q sv lo hi) (hb : Below w.heap.size w w1) : OwG w1 q sv lo hi := owg_in h hb h.2.2.2.2.2.2.2.2.2.2.2.2.2.2
theorem owg_alloc {w : World} {q : Nat} {sv : Value} {lo hi : P3} (h : OwG w q sv lo hi) (o : Obj) : OwG (w.alloc o) q sv lo hi := owg_below h ((Below.refl _ _).alloc (Nat.le_refl _) _)
theorem owg_set {w : World} {q r o : Nat} {v sv : Value} {lo hi : P3} (h : OwG w q sv lo hi) (n : q ≠ r) : OwG (w.setCell ⟨r, o, none⟩ v) q sv lo hi := by
  obtain ⟨h0, h1, h2, h3, h4, h5, h6, h7, h8, h9, h10, h11, h12, h13, h14⟩ := h
  have n' : ¬ r = q := fun e => n e.symm
  exact ⟨by go_simp, by go_simp, by go_simp, by go_simp, by go_simp, by go_simp, by go_simp, by go_simp, by go_simp, by go_simp, by go_simp, by go_simp, by go_simp, by go_simp, by simpa using h14⟩
theorem owg_lo {w : World} {q : Nat} {sv : Value} {lo hi : P3} (h : OwG w q sv lo hi) (x y z : Int) : OwG (((w.setCell ⟨q, 1, none⟩ (.int .i64 x)).setCell ⟨q, 2, none⟩ (.int .i64 y)).setCell ⟨q, 3, none⟩ (.int .i64 z)) q sv (x, y, z) hi := by
  obtain ⟨h0, h1, h2, h3, h4, h5, h6, h7, h8, h9, h10, h11, h12, h13, h14⟩ := h
  exact ⟨by go_simp, by go_simp, by go_simp, by go_simp, by go_simp, by go_simp, by go_simp, by go_simp, by go_simp, by go_simp, by go_simp, by go_simp, by go_simp, by go_simp, by simpa using h14⟩
theorem owg_hi {w : World} {q : Nat} {sv : Value} {lo hi : P3} (h : OwG w q sv lo hi) (x y z : Int) : OwG (((w.setCell ⟨q, 4, none⟩ (.int .i64 x)).setCell ⟨q, 5, none⟩ (.int .i64 y)).setCell ⟨q, 6, none⟩ (.int .i64 z)) q sv lo (x, y, z) := by
  obtain ⟨h0, h1, h2, h3, h4, h5, h6, h7, h8, h9, h10, h11, h12, h13, h14⟩ := h
  exact ⟨by go_simp, by go_simp, by go_simp, by go_simp, by go_simp, by go_simp, by go_simp, by go_simp, by go_simp, by go_simp, by go_simp, by go_simp, by go_simp, by go_simp, by simpa using h14⟩
theorem owg_drew {w : World} {q : Nat} {sv : Value} {lo hi : P3} (h : OwG w q sv lo hi) : OwG w.drew q sv lo hi := h
set_option maxRecDepth 100000 in
set_option maxHeartbeats 4000000 in
theorem groupof_any (b n c : Nat) (P : Nat → P3) (w : World) (r : RwG w b n P) (h0 : 0 < n) (hn : n ≤ 1000) :
    Calls Try.prog 104 #[.slice (some ⟨b, 0, none⟩) n c] w fun e w' => e = .returned (grv b n c (loN P n) (hiN P n)) ∧ Below w.heap.size w w' := by
  have R := Lib.hid r
  have hbl := r.1
  obtain ⟨c0, c1, c2⟩ := r.2 0 h0
  simp only [Nat.zero_mul, Nat.zero_add] at c0 c1 c2
  have hn0 : (0 : Int) < (n : Int) := by omega
  clear r
  go_enter Try.func104, Try.ntmps104
  go_wp2_with fail
  go_region
  all_goals
    have X0 := Lib.hid (owg_drew (owg_alloc (owg_new w (.slice none 0 0) (0, 0, 0) (0, 0, 0) 101) (.cells #[.slice (some ⟨b, 0, none⟩) n c, .int .i64 (P 0).1, .int .i64 (P 0).2.1, .int .i64 (P 0).2.2, .int .i64 (P 0).1, .int .i64 (P 0).2.1, .int .i64 (P 0).2.2] 101)))
    have Y0 := Lib.hid (owg_drew (owg_new (w.alloc (.cells #[.slice none 0 0, .int .i64 0, .int .i64 0, .int .i64 0, .int .i64 0, .int .i64 0, .int .i64 0] 101)) (.slice (some ⟨b, 0, none⟩) n c) (P 0) (P 0) 101))
    simp only [World.size_alloc] at Y0
    clear c0 c1 c2
    go_wp2
    go_loopw [16] (fun kv wr => ∃ k : Nat, k ≤ n ∧ kv = .int .i64 k ∧ OwG wr (w.heap.size + 1) (.slice (some ⟨b, 0, none⟩) n c) (loN P k) (hiN P k) ∧ OwG wr w.heap.size (.slice none 0 0) (0, 0, 0) (0, 0, 0) ∧ Below w.heap.size w wr) (fun kv _ => n - (intOf kv).toNat)
    case atStart => exact ⟨0, Nat.zero_le _, rfl, Y0.out, X0.out, by (repeat' (first | exact Below.refl _ _ | refine Below.setCell ?_ (by simp <;> omega) _ | refine balloc ?_ _ | refine Below.drew ?_ | refine bdrewN ?_ _))⟩
    case round =>
      obtain ⟨k, hk, rfl, g1, g0, BB⟩ := hrel
      have G1 := Lib.hid g1
      have G0 := Lib.hid g0
      have B1 := Lib.hid BB
      clear g1 g0 BB X0 Y0
      by_cases hlt : k < n
      · have hk1 : (k : Int) < (n : Int) := by omega
        have r1 := rwg_in R.out B1.out hbl
        obtain ⟨d0, d1, d2⟩ := r1.2 k hlt
        have hdz := r1.1
        clear r1
        have NL := Lib.hid (show loN P (k + 1) = (Sp.mn (loN P k).1 (P k).1, Sp.mn (loN P k).2.1 (P k).2.1, Sp.mn (loN P k).2.2 (P k).2.2) from rfl)
        have NH := Lib.hid (show hiN P (k + 1) = (Sp.mx (hiN P k).1 (P k).1, Sp.mx (hiN P k).2.1 (P k).2.1, Sp.mx (hiN P k).2.2 (P k).2.2) from rfl)
        generalize loN P k = lo at *
        generalize hiN P k = hi at *
        generalize P k = p at *
        obtain ⟨g0, g1, g2, g3, g4, g5, g6, f0, f1, f2, f3, f4, f5, f6, hz⟩ := id G1.out
        have ne0 : ¬ (wr.heap.size = w.heap.size + 1) := by omega
        have ne1 : ¬ (w.heap.size + 1 = wr.heap.size) := by omega
        have ne2 : w.heap.size ≠ w.heap.size + 1 := by omega
        go_wp2
        go_roundw
        case rel => exact ⟨k + 1, by omega, by go_num, by rw [NL.out, NH.out]; with_reducible exact owg_alloc (owg_hi (owg_lo G1.out _ _ _) _ _ _) _, by with_reducible refine owg_alloc ?_ _; with_reducible refine owg_set ?_ ne2; with_reducible refine owg_set ?_ ne2; with_reducible refine owg_set ?_ ne2; with_reducible refine owg_set ?_ ne2; with_reducible refine owg_set ?_ ne2; with_reducible refine owg_set ?_ ne2; exact G0.out, by have hB := B1.out; (repeat' (first | with_reducible exact hB | (with_reducible refine Below.setCell ?_ (by simp <;> omega) _) | (with_reducible refine balloc ?_ _)))⟩
        case measure => simp [intOf]; omega
      · obtain rfl : k = n := by omega
        obtain ⟨g0, g1, g2, g3, g4, g5, g6, f0, f1, f2, f3, f4, f5, f6, hz⟩ := id G1.out
        obtain ⟨e0, e1, e2, e3, e4, e5, e6, l0, l1, l2, l3, l4, l5, l6, hy⟩ := id G0.out
        go_wp2
        refine bodyPost_ret (v := grv b k c (loN P k) (hiN P k)) (by rw [results_cell rfl]; go_simp) rfl ⟨rfl, ?_⟩
        have hB := B1.out
        (repeat' (first | with_reducible exact hB | (with_reducible refine Below.setCell ?_ (by simp <;> omega) _) | (with_reducible refine balloc ?_ _)))

end Go.Proofs.Ytjigcgpcglfjfaa
