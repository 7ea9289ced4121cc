/-
  The contract of field.corners: the corners of a panel, in a finer grid, as a group.
-/
import Derived.Test.YtjigcgpcglfjfaaFg5
namespace Go.Proofs.Ytjigcgpcglfjfaa
open Go.ChangeShapes Go.WideShapes Go.RowKit
open Sh
theorem rwg_new3 (w : World) (a b c : P3) (t : TypeId) : RwG (w.alloc (.cells #[.int .i64 a.1, .int .i64 a.2.1, .int .i64 a.2.2, .int .i64 b.1, .int .i64 b.2.1, .int .i64 b.2.2, .int .i64 c.1, .int .i64 c.2.1, .int .i64 c.2.2] t)) w.heap.size 3 (P3F (a, b, c)) := by
  refine ⟨by simp, fun k hk => ?_⟩
  match k, hk with
  | 0, _ => exact ⟨by go_simp; rfl, by go_simp; rfl, by go_simp; rfl⟩
  | 1, _ => exact ⟨by go_simp; rfl, by go_simp; rfl, by go_simp; rfl⟩
  | 2, _ => exact ⟨by go_simp; rfl, by go_simp; rfl, by go_simp; rfl⟩
theorem rwg_set {w : World} {b n q o : Nat} {f : Nat → P3} {v : Value} (r : RwG w b n f) (h : b ≠ q) : RwG (w.setCell ⟨q, o, none⟩ v) b n f := by
  have h' : ¬ q = b := fun e => h e.symm
  refine ⟨by simpa using r.1, fun k hk => ?_⟩
  obtain ⟨h1, h2, h3⟩ := r.2 k hk
  exact ⟨by go_simp, by go_simp, by go_simp⟩
/-- block g holds the three corners of t -/
def PtB (W : World) (g : Nat) (t : P9) : Prop := W.heap[g]? = some (pnc t.1 t.2.1 t.2.2 23)
theorem ptb_lt {W : World} {g : Nat} {t : P9} (h : PtB W g t) : g < W.heap.size := (Array.getElem?_eq_some_iff.1 h).1
theorem ptb_row {W : World} {g : Nat} {t : P9} (h : PtB W g t) : RwG W g 3 (P3F t) := by
  refine ⟨ptb_lt h, fun k hk => ?_⟩
  unfold PtB at h
  match k, hk with
  | 0, _ => exact ⟨by simp [World.cell?, h, P3F], by simp [World.cell?, h, P3F], by simp [World.cell?, h, P3F]⟩
  | 1, _ => exact ⟨by simp [World.cell?, h, P3F], by simp [World.cell?, h, P3F], by simp [World.cell?, h, P3F]⟩
  | 2, _ => exact ⟨by simp [World.cell?, h, P3F], by simp [World.cell?, h, P3F], by simp [World.cell?, h, P3F]⟩
theorem ptb_set {w : World} {g q o : Nat} {t : P9} {v : Value} (h : PtB w g t) (n : g ≠ q) : PtB (w.setCell ⟨q, o, none⟩ v) g t := (Below.heap_setCell _ _ _ _ n).trans h
theorem ptb_new (w : World) (a b c : P3) : PtB (w.alloc (pnc a b c 23)) w.heap.size (a, b, c) := World.alloc_heap_new w _
theorem ptb_below {w w1 : World} {g : Nat} {t : P9} (h : PtB w g t) (hb : Below w.heap.size w w1) : PtB w1 g t := (hb.block g (ptb_lt h)).trans h
set_option maxRecDepth 100000 in
set_option maxHeartbeats 4000000 in
theorem corners_any (a b c : P3) (k : Int) (w : World) (h1 : BdP 4611686018427387904 (tim k a)) (h2 : BdP 4611686018427387904 (tim k b)) (h3 : BdP 4611686018427387904 (tim k c)) :
    Calls Try.prog 70 #[pnv a b c, .int .i64 k] w fun e w' => ∃ g, e = .returned (grv g 3 3 (loN (P3F (tim k a, tim k b, tim k c)) 3) (hiN (P3F (tim k a, tim k b, tim k c)) 3)) ∧ w.heap.size ≤ g ∧ PtB w' g (tim k a, tim k b, tim k c) ∧ Below w.heap.size w w' := by
  have T1 := Lib.hid (fun W => ftimes_any k a W h1)
  have T2 := Lib.hid (fun W => ftimes_any k b W h2)
  have T3 := Lib.hid (fun W => ftimes_any k c W h3)
  have P0 := Lib.hid (pan_alloc (pan_new w a b c 25) (.cells #[.slice none 0 0, .int .i64 0, .int .i64 0, .int .i64 0, .int .i64 0, .int .i64 0, .int .i64 0] 101))
  have Y0 := Lib.hid (owg_new (w.alloc (pnc a b c 25)) (.slice none 0 0) (0, 0, 0) (0, 0, 0) 101)
  simp only [World.size_alloc] at Y0
  have B0 := Lib.hid (show Below w.heap.size w ((w.alloc (pnc a b c 25)).alloc (.cells #[.slice none 0 0, .int .i64 0, .int .i64 0, .int .i64 0, .int .i64 0, .int .i64 0, .int .i64 0] 101)) by (repeat' (first | exact Below.refl _ _ | refine Below.setCell ?_ (by simp <;> omega) _ | refine balloc ?_ _ | refine Below.drew ?_ | refine bdrewN ?_ _)))
  clear h1 h2 h3
  go_enter Try.func70, Try.ntmps70
  go_wp2_with fail
  generalize hW : (w.alloc (pnc a b c 25)).alloc (.cells #[.slice none 0 0, .int .i64 0, .int .i64 0, .int .i64 0, .int .i64 0, .int .i64 0, .int .i64 0] 101) = W0 at *
  have hS : W0.heap.size = w.heap.size + 1 + 1 := by rw [← hW]; simp
  clear hW
  have p0 := pan_drew P0.out
  have y0 := owg_drew Y0.out
  have b0 : Below w.heap.size w W0.drew := Below.drew B0.out
  have ne0 : w.heap.size ≠ w.heap.size + 1 := by omega
  clear P0 Y0 B0
  go_region_held3 (fun w' => w'.cell? ⟨w.heap.size, 0, none⟩ = some (.int .i64 a.1) ∧ w'.cell? ⟨w.heap.size, 1, none⟩ = some (.int .i64 a.2.1) ∧ w'.cell? ⟨w.heap.size, 2, none⟩ = some (.int .i64 a.2.2) ∧ w'.cell? ⟨w.heap.size, 3, none⟩ = some (.int .i64 b.1) ∧ w'.cell? ⟨w.heap.size, 4, none⟩ = some (.int .i64 b.2.1) ∧ w'.cell? ⟨w.heap.size, 5, none⟩ = some (.int .i64 b.2.2) ∧ w'.cell? ⟨w.heap.size, 6, none⟩ = some (.int .i64 c.1) ∧ w'.cell? ⟨w.heap.size, 7, none⟩ = some (.int .i64 c.2.1) ∧ w'.cell? ⟨w.heap.size, 8, none⟩ = some (.int .i64 c.2.2))
    (first | (with_reducible refine pan_cells ?_ <;> with_reducible assumption) | (with_reducible refine pan_cells ?_; with_reducible refine pan_alloc ?_ _; with_reducible assumption)
           | (with_reducible refine pan_cells ?_; (repeat' (with_reducible refine pan_set ?_ ne0)); with_reducible assumption))
    (first | (go_at_call 105; (with_reducible refine (T1.out _).mono ?_); rintro e v0 ⟨rfl, hv0⟩; have p1 := pan_below p0 hv0; have y1 := owg_below y0 hv0; have b1 := bstep b0 hv0)
           | (go_at_call 105; (with_reducible refine (T2.out _).mono ?_); rintro e v1 ⟨rfl, hv1⟩; have p2 := pan_below p1 hv1; have y2 := owg_below y1 hv1; have b2 := bstep b1 hv1)
           | (go_at_call 105; (with_reducible refine (T3.out _).mono ?_); rintro e v2 ⟨rfl, hv2⟩; have p3 := pan_below p2 hv2; have y3 := owg_below y2 hv2; have b3 := bstep b2 hv2)
           | (go_at_call 104; (with_reducible refine (groupof_any v2.heap.size 3 3 (P3F (tim k a, tim k b, tim k c)) _ (rwg_new3 v2 (tim k a) (tim k b) (tim k c) _) (by decide) (by decide)).mono ?_); rintro e v3 ⟨rfl, hv3⟩; have p4 := pan_below (pan_alloc p3 _) hv3; have y4 := owg_below (owg_alloc y3 _) hv3; have r4 := ptb_below (ptb_new v2 (tim k a) (tim k b) (tim k c)) hv3; have b4 := bstep (balloc b3 _) hv3; obtain ⟨e0, e1, e2, e3, e4, e5, e6, l0, l1, l2, l3, l4, l5, l6, ly⟩ := id y4))
  all_goals
    have gl := b3.size
    have nr : v2.heap.size ≠ w.heap.size + 1 := by have := y3.2.2.2.2.2.2.2.2.2.2.2.2.2.2; omega
    go_wp2
    refine bodyPost_ret (v := grv v2.heap.size 3 3 (loN (P3F (tim k a, tim k b, tim k c)) 3) (hiN (P3F (tim k a, tim k b, tim k c)) 3)) (by rw [results_cell rfl]; go_simp) rfl ⟨v2.heap.size, rfl, by omega, ?_, ?_⟩
    · repeat' (with_reducible refine ptb_set ?_ nr)
      with_reducible exact r4
    · (repeat' (first | with_reducible exact b4 | (with_reducible refine Below.setCell ?_ (by simp <;> omega) _)))

end Go.Proofs.Ytjigcgpcglfjfaa
