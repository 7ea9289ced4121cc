/-
  The contracts of touches, sign, on, asked and On of the document.
-/
import Derived.Test.YtllonfaogbdbnaaWi4
namespace Go.Proofs.Ytllonfaogbdbnaa
open Go.ChangeShapes Go.WideShapes Go.RowKit
open Sh
theorem nrm_seen (a b c p : P3) : nrm (sub a p) (sub b p) (sub c p) = nrm a b c := by
  unfold nrm vec sub
  simp only [Prod.mk.injEq]
  refine ⟨?_, ?_, ?_⟩ <;> grind
theorem dot_seen0 (n a p : P3) : dot n (sub p a) = -(dot n (sub a p)) := by unfold dot sub; grind
theorem vec_seen (a b p : P3) : vec (sub b a) (sub p a) = vec (sub a p) (sub b p) := by
  unfold vec sub
  simp only [Prod.mk.injEq]
  refine ⟨?_, ?_, ?_⟩ <;> grind
def tchT (p a b c : P3) : Bool := hasB (dot (nrm a b c) (sub p a)) (dot (nrm a b c) (vec (sub b a) (sub p a))) (dot (nrm a b c) (vec (sub c b) (sub p b))) (dot (nrm a b c) (vec (sub a c) (sub p c)))
theorem tch_has (p a b c : P3) : tchT p a b c = hasP p (a, b, c) := by
  unfold tchT hasP hasT
  dsimp only
  rw [nrm_seen, vec_seen a b p, vec_seen b c p, vec_seen c a p, dot_seen0]
  unfold hasB
  have e : decide (-(dot (nrm a b c) (sub a p)) = 0) = decide (dot (nrm a b c) (sub a p) = 0) := decide_eq_decide.2 (by omega)
  rw [e]
/-- what touches has in its regions -/
def TCH (w W : World) (nb : Nat) (a b c p n : P3) : Prop := Pan W w.heap.size a b c ∧ Own W (w.heap.size + 1) p ∧ Own W nb n ∧ Below w.heap.size w W
theorem tch_below {w W v : World} {nb : Nat} {a b c p n : P3} (h : TCH w W nb a b c p n) (hb : Below W.heap.size W v) : TCH w v nb a b c p n := ⟨pan_below h.1 hb, own_below h.2.1 hb, own_below h.2.2.1 hb, bstep h.2.2.2 hb⟩
theorem tch_drew {w W : World} {nb : Nat} {a b c p n : P3} (h : TCH w W nb a b c p n) : TCH w W.drew nb a b c p n := tch_below h (Below.drew (Below.refl _ _))
theorem tch_cells {w W : World} {nb : Nat} {a b c p n : P3} (h : TCH w W nb a b c p n) : (W.cell? ⟨w.heap.size + 1, 0, none⟩ = some (.int .i64 p.1) ∧ W.cell? ⟨w.heap.size + 1, 1, none⟩ = some (.int .i64 p.2.1) ∧ W.cell? ⟨w.heap.size + 1, 2, none⟩ = some (.int .i64 p.2.2)) ∧ (W.cell? ⟨nb, 0, none⟩ = some (.int .i64 n.1) ∧ W.cell? ⟨nb, 1, none⟩ = some (.int .i64 n.2.1) ∧ W.cell? ⟨nb, 2, none⟩ = some (.int .i64 n.2.2)) ∧ W.cell? ⟨w.heap.size, 0, none⟩ = some (.int .i64 a.1) ∧ W.cell? ⟨w.heap.size, 1, none⟩ = some (.int .i64 a.2.1) ∧ W.cell? ⟨w.heap.size, 2, none⟩ = some (.int .i64 a.2.2) ∧ W.cell? ⟨w.heap.size, 3, none⟩ = some (.int .i64 b.1) ∧ W.cell? ⟨w.heap.size, 4, none⟩ = some (.int .i64 b.2.1) ∧ W.cell? ⟨w.heap.size, 5, none⟩ = some (.int .i64 b.2.2) ∧ W.cell? ⟨w.heap.size, 6, none⟩ = some (.int .i64 c.1) ∧ W.cell? ⟨w.heap.size, 7, none⟩ = some (.int .i64 c.2.1) ∧ W.cell? ⟨w.heap.size, 8, none⟩ = some (.int .i64 c.2.2) := ⟨own_cells h.2.1, own_cells h.2.2.1, pan_cells h.1⟩
set_option maxRecDepth 100000 in
set_option maxHeartbeats 4000000 in
theorem tch_0 (a b c p n pa : P3) (d0 : Int) (w : World) (CN : Hid (∀ W, Calls Try.prog 43 #[pnv a b c] W fun e w' => e = .returned (ptv n) ∧ Below W.heap.size W w')) (M0 : Hid (∀ W, Calls Try.prog 40 #[ptv p, ptv a] W fun e w' => e = .returned (ptv pa) ∧ Below W.heap.size W w')) (D0 : Hid (∀ W, Calls Try.prog 42 #[ptv n, ptv pa] W fun e w' => e = .returned (.int .i64 d0) ∧ Below W.heap.size W w')) (h0 : (d0 != 0) = true) : Calls Try.prog 83 #[pnv a b c, ptv p] w fun e w' => e = .returned (.bool false) ∧ Below w.heap.size w w' := by
  go_enter Try.func83, Try.ntmps83
  go_wp2_with fail
  refine (CN.out _).mono ?_
  rintro e w1 ⟨rfl, hb1⟩
  have X := Lib.hid (show TCH w (w1.alloc (ptc n 27)) w1.heap.size a b c p n from ⟨pan_alloc (pan_below (pan_alloc (pan_new w a b c 77) (ptc p 27)) hb1) _, own_alloc (own_below (by have z := own_new (w.alloc (pnc a b c 77)) p 27; simp only [World.size_alloc] at z; exact z) hb1) _, own_new w1 n 27, balloc (bstep (balloc (balloc (Below.refl _ w) _) _) hb1) _⟩)
  clear hb1
  go_wp2
  have X := Lib.hid (tch_drew X.out)
  go_region_held3 (fun w' => (w'.cell? ⟨w.heap.size + 1, 0, none⟩ = some (.int .i64 p.1) ∧ w'.cell? ⟨w.heap.size + 1, 1, none⟩ = some (.int .i64 p.2.1) ∧ w'.cell? ⟨w.heap.size + 1, 2, none⟩ = some (.int .i64 p.2.2)) ∧ (w'.cell? ⟨w1.heap.size, 0, none⟩ = some (.int .i64 n.1) ∧ w'.cell? ⟨w1.heap.size, 1, none⟩ = some (.int .i64 n.2.1) ∧ w'.cell? ⟨w1.heap.size, 2, none⟩ = some (.int .i64 n.2.2)) ∧ w'.cell? ⟨w.heap.size, 0, none⟩ = some (.int .i64 a.1) ∧ w'.cell? ⟨w.heap.size, 1, none⟩ = some (.int .i64 a.2.1) ∧ w'.cell? ⟨w.heap.size, 2, none⟩ = some (.int .i64 a.2.2) ∧ w'.cell? ⟨w.heap.size, 3, none⟩ = some (.int .i64 b.1) ∧ w'.cell? ⟨w.heap.size, 4, none⟩ = some (.int .i64 b.2.1) ∧ w'.cell? ⟨w.heap.size, 5, none⟩ = some (.int .i64 b.2.2) ∧ w'.cell? ⟨w.heap.size, 6, none⟩ = some (.int .i64 c.1) ∧ w'.cell? ⟨w.heap.size, 7, none⟩ = some (.int .i64 c.2.1) ∧ w'.cell? ⟨w.heap.size, 8, none⟩ = some (.int .i64 c.2.2))
    (first | with_reducible exact tch_cells X.out | fail)
    (first | (go_at_call 40; (with_reducible refine (M0.out _).mono ?_); rintro e vv ⟨rfl, hv⟩; have X := Lib.hid (tch_below X.out hv)) | (go_at_call 42; (with_reducible refine (D0.out _).mono ?_); rintro e vv ⟨rfl, hv⟩; have X := Lib.hid (tch_below X.out hv)) | fail)
  all_goals
    go_wp2
    go_ret
    exact ⟨rfl, X.out.2.2.2⟩
set_option maxRecDepth 100000 in
set_option maxHeartbeats 4000000 in
theorem tch_4 (a b c p n pa ba v1 cb pb v2 ac pc v3 : P3) (d0 d1 d2 d3 : Int) (w : World) (CN : Hid (∀ W, Calls Try.prog 43 #[pnv a b c] W fun e w' => e = .returned (ptv n) ∧ Below W.heap.size W w')) (M0 : Hid (∀ W, Calls Try.prog 40 #[ptv p, ptv a] W fun e w' => e = .returned (ptv pa) ∧ Below W.heap.size W w')) (D0 : Hid (∀ W, Calls Try.prog 42 #[ptv n, ptv pa] W fun e w' => e = .returned (.int .i64 d0) ∧ Below W.heap.size W w')) (M1 : Hid (∀ W, Calls Try.prog 40 #[ptv b, ptv a] W fun e w' => e = .returned (ptv ba) ∧ Below W.heap.size W w')) (X1 : Hid (∀ W, Calls Try.prog 44 #[ptv ba, ptv pa] W fun e w' => e = .returned (ptv v1) ∧ Below W.heap.size W w')) (D1 : Hid (∀ W, Calls Try.prog 42 #[ptv n, ptv v1] W fun e w' => e = .returned (.int .i64 d1) ∧ Below W.heap.size W w')) (M2 : Hid (∀ W, Calls Try.prog 40 #[ptv c, ptv b] W fun e w' => e = .returned (ptv cb) ∧ Below W.heap.size W w')) (M3 : Hid (∀ W, Calls Try.prog 40 #[ptv p, ptv b] W fun e w' => e = .returned (ptv pb) ∧ Below W.heap.size W w')) (X2 : Hid (∀ W, Calls Try.prog 44 #[ptv cb, ptv pb] W fun e w' => e = .returned (ptv v2) ∧ Below W.heap.size W w')) (D2 : Hid (∀ W, Calls Try.prog 42 #[ptv n, ptv v2] W fun e w' => e = .returned (.int .i64 d2) ∧ Below W.heap.size W w')) (M4 : Hid (∀ W, Calls Try.prog 40 #[ptv a, ptv c] W fun e w' => e = .returned (ptv ac) ∧ Below W.heap.size W w')) (M5 : Hid (∀ W, Calls Try.prog 40 #[ptv p, ptv c] W fun e w' => e = .returned (ptv pc) ∧ Below W.heap.size W w')) (X3 : Hid (∀ W, Calls Try.prog 44 #[ptv ac, ptv pc] W fun e w' => e = .returned (ptv v3) ∧ Below W.heap.size W w')) (D3 : Hid (∀ W, Calls Try.prog 42 #[ptv n, ptv v3] W fun e w' => e = .returned (.int .i64 d3) ∧ Below W.heap.size W w')) (h0 : (d0 != 0) = false) (z0 : d0 = 0) : Calls Try.prog 83 #[pnv a b c, ptv p] w fun e w' => e = .returned (.bool (hasB d0 d1 d2 d3)) ∧ Below w.heap.size w w' := by
  have Z0 := Lib.hid z0
  clear z0
  go_enter Try.func83, Try.ntmps83
  go_wp2_with fail
  refine (CN.out _).mono ?_
  rintro e w1 ⟨rfl, hb1⟩
  have X := Lib.hid (show TCH w (w1.alloc (ptc n 27)) w1.heap.size a b c p n from ⟨pan_alloc (pan_below (pan_alloc (pan_new w a b c 77) (ptc p 27)) hb1) _, own_alloc (own_below (by have z := own_new (w.alloc (pnc a b c 77)) p 27; simp only [World.size_alloc] at z; exact z) hb1) _, own_new w1 n 27, balloc (bstep (balloc (balloc (Below.refl _ w) _) _) hb1) _⟩)
  clear hb1
  go_wp2
  have X := Lib.hid (tch_drew X.out)
  go_region_held3 (fun w' => (w'.cell? ⟨w.heap.size + 1, 0, none⟩ = some (.int .i64 p.1) ∧ w'.cell? ⟨w.heap.size + 1, 1, none⟩ = some (.int .i64 p.2.1) ∧ w'.cell? ⟨w.heap.size + 1, 2, none⟩ = some (.int .i64 p.2.2)) ∧ (w'.cell? ⟨w1.heap.size, 0, none⟩ = some (.int .i64 n.1) ∧ w'.cell? ⟨w1.heap.size, 1, none⟩ = some (.int .i64 n.2.1) ∧ w'.cell? ⟨w1.heap.size, 2, none⟩ = some (.int .i64 n.2.2)) ∧ w'.cell? ⟨w.heap.size, 0, none⟩ = some (.int .i64 a.1) ∧ w'.cell? ⟨w.heap.size, 1, none⟩ = some (.int .i64 a.2.1) ∧ w'.cell? ⟨w.heap.size, 2, none⟩ = some (.int .i64 a.2.2) ∧ w'.cell? ⟨w.heap.size, 3, none⟩ = some (.int .i64 b.1) ∧ w'.cell? ⟨w.heap.size, 4, none⟩ = some (.int .i64 b.2.1) ∧ w'.cell? ⟨w.heap.size, 5, none⟩ = some (.int .i64 b.2.2) ∧ w'.cell? ⟨w.heap.size, 6, none⟩ = some (.int .i64 c.1) ∧ w'.cell? ⟨w.heap.size, 7, none⟩ = some (.int .i64 c.2.1) ∧ w'.cell? ⟨w.heap.size, 8, none⟩ = some (.int .i64 c.2.2))
    (first | with_reducible exact tch_cells X.out | fail)
    (first | (go_at_call 40; (with_reducible refine (M0.out _).mono ?_); rintro e vv ⟨rfl, hv⟩; have X := Lib.hid (tch_below X.out hv)) | (go_at_call 42; (with_reducible refine (D0.out _).mono ?_); rintro e vv ⟨rfl, hv⟩; have X := Lib.hid (tch_below X.out hv)) | fail)
  go_wp2
  have X := Lib.hid (tch_drew X.out)
  go_region_held3 (fun w' => (w'.cell? ⟨w.heap.size + 1, 0, none⟩ = some (.int .i64 p.1) ∧ w'.cell? ⟨w.heap.size + 1, 1, none⟩ = some (.int .i64 p.2.1) ∧ w'.cell? ⟨w.heap.size + 1, 2, none⟩ = some (.int .i64 p.2.2)) ∧ (w'.cell? ⟨w1.heap.size, 0, none⟩ = some (.int .i64 n.1) ∧ w'.cell? ⟨w1.heap.size, 1, none⟩ = some (.int .i64 n.2.1) ∧ w'.cell? ⟨w1.heap.size, 2, none⟩ = some (.int .i64 n.2.2)) ∧ w'.cell? ⟨w.heap.size, 0, none⟩ = some (.int .i64 a.1) ∧ w'.cell? ⟨w.heap.size, 1, none⟩ = some (.int .i64 a.2.1) ∧ w'.cell? ⟨w.heap.size, 2, none⟩ = some (.int .i64 a.2.2) ∧ w'.cell? ⟨w.heap.size, 3, none⟩ = some (.int .i64 b.1) ∧ w'.cell? ⟨w.heap.size, 4, none⟩ = some (.int .i64 b.2.1) ∧ w'.cell? ⟨w.heap.size, 5, none⟩ = some (.int .i64 b.2.2) ∧ w'.cell? ⟨w.heap.size, 6, none⟩ = some (.int .i64 c.1) ∧ w'.cell? ⟨w.heap.size, 7, none⟩ = some (.int .i64 c.2.1) ∧ w'.cell? ⟨w.heap.size, 8, none⟩ = some (.int .i64 c.2.2))
    (first | with_reducible exact tch_cells X.out | fail)
    (first | (go_at_call 40; (with_reducible refine (M1.out _).mono ?_); rintro e vv ⟨rfl, hv⟩; have X := Lib.hid (tch_below X.out hv)) | (go_at_call 40; (with_reducible refine (M0.out _).mono ?_); rintro e vv ⟨rfl, hv⟩; have X := Lib.hid (tch_below X.out hv)) | (go_at_call 44; (with_reducible refine (X1.out _).mono ?_); rintro e vv ⟨rfl, hv⟩; have X := Lib.hid (tch_below X.out hv)) | (go_at_call 42; (with_reducible refine (D1.out _).mono ?_); rintro e vv ⟨rfl, hv⟩; have X := Lib.hid (tch_below X.out hv)) | fail)
  go_wp2
  have X := Lib.hid (tch_drew X.out)
  go_region_held3 (fun w' => (w'.cell? ⟨w.heap.size + 1, 0, none⟩ = some (.int .i64 p.1) ∧ w'.cell? ⟨w.heap.size + 1, 1, none⟩ = some (.int .i64 p.2.1) ∧ w'.cell? ⟨w.heap.size + 1, 2, none⟩ = some (.int .i64 p.2.2)) ∧ (w'.cell? ⟨w1.heap.size, 0, none⟩ = some (.int .i64 n.1) ∧ w'.cell? ⟨w1.heap.size, 1, none⟩ = some (.int .i64 n.2.1) ∧ w'.cell? ⟨w1.heap.size, 2, none⟩ = some (.int .i64 n.2.2)) ∧ w'.cell? ⟨w.heap.size, 0, none⟩ = some (.int .i64 a.1) ∧ w'.cell? ⟨w.heap.size, 1, none⟩ = some (.int .i64 a.2.1) ∧ w'.cell? ⟨w.heap.size, 2, none⟩ = some (.int .i64 a.2.2) ∧ w'.cell? ⟨w.heap.size, 3, none⟩ = some (.int .i64 b.1) ∧ w'.cell? ⟨w.heap.size, 4, none⟩ = some (.int .i64 b.2.1) ∧ w'.cell? ⟨w.heap.size, 5, none⟩ = some (.int .i64 b.2.2) ∧ w'.cell? ⟨w.heap.size, 6, none⟩ = some (.int .i64 c.1) ∧ w'.cell? ⟨w.heap.size, 7, none⟩ = some (.int .i64 c.2.1) ∧ w'.cell? ⟨w.heap.size, 8, none⟩ = some (.int .i64 c.2.2))
    (first | with_reducible exact tch_cells X.out | fail)
    (first | (go_at_call 40; (with_reducible refine (M2.out _).mono ?_); rintro e vv ⟨rfl, hv⟩; have X := Lib.hid (tch_below X.out hv)) | (go_at_call 40; (with_reducible refine (M3.out _).mono ?_); rintro e vv ⟨rfl, hv⟩; have X := Lib.hid (tch_below X.out hv)) | (go_at_call 44; (with_reducible refine (X2.out _).mono ?_); rintro e vv ⟨rfl, hv⟩; have X := Lib.hid (tch_below X.out hv)) | (go_at_call 42; (with_reducible refine (D2.out _).mono ?_); rintro e vv ⟨rfl, hv⟩; have X := Lib.hid (tch_below X.out hv)) | fail)
  go_wp2
  have X := Lib.hid (tch_drew X.out)
  go_region_held3 (fun w' => (w'.cell? ⟨w.heap.size + 1, 0, none⟩ = some (.int .i64 p.1) ∧ w'.cell? ⟨w.heap.size + 1, 1, none⟩ = some (.int .i64 p.2.1) ∧ w'.cell? ⟨w.heap.size + 1, 2, none⟩ = some (.int .i64 p.2.2)) ∧ (w'.cell? ⟨w1.heap.size, 0, none⟩ = some (.int .i64 n.1) ∧ w'.cell? ⟨w1.heap.size, 1, none⟩ = some (.int .i64 n.2.1) ∧ w'.cell? ⟨w1.heap.size, 2, none⟩ = some (.int .i64 n.2.2)) ∧ w'.cell? ⟨w.heap.size, 0, none⟩ = some (.int .i64 a.1) ∧ w'.cell? ⟨w.heap.size, 1, none⟩ = some (.int .i64 a.2.1) ∧ w'.cell? ⟨w.heap.size, 2, none⟩ = some (.int .i64 a.2.2) ∧ w'.cell? ⟨w.heap.size, 3, none⟩ = some (.int .i64 b.1) ∧ w'.cell? ⟨w.heap.size, 4, none⟩ = some (.int .i64 b.2.1) ∧ w'.cell? ⟨w.heap.size, 5, none⟩ = some (.int .i64 b.2.2) ∧ w'.cell? ⟨w.heap.size, 6, none⟩ = some (.int .i64 c.1) ∧ w'.cell? ⟨w.heap.size, 7, none⟩ = some (.int .i64 c.2.1) ∧ w'.cell? ⟨w.heap.size, 8, none⟩ = some (.int .i64 c.2.2))
    (first | with_reducible exact tch_cells X.out | fail)
    (first | (go_at_call 40; (with_reducible refine (M4.out _).mono ?_); rintro e vv ⟨rfl, hv⟩; have X := Lib.hid (tch_below X.out hv)) | (go_at_call 40; (with_reducible refine (M5.out _).mono ?_); rintro e vv ⟨rfl, hv⟩; have X := Lib.hid (tch_below X.out hv)) | (go_at_call 44; (with_reducible refine (X3.out _).mono ?_); rintro e vv ⟨rfl, hv⟩; have X := Lib.hid (tch_below X.out hv)) | (go_at_call 42; (with_reducible refine (D3.out _).mono ?_); rintro e vv ⟨rfl, hv⟩; have X := Lib.hid (tch_below X.out hv)) | fail)
  cases g1 : decide (0 ≤ d1) with
  | false =>
    have E := Lib.hid (hasB_1 (d0 := d0) (d1 := d1) (d2 := d2) (d3 := d3) (by have := of_decide_eq_false g1; omega))
    go_wp2
    go_ret
    exact ⟨by rw [E.out]; rfl, X.out.2.2.2⟩
  | true =>
    cases g2 : decide (0 ≤ d2) with
    | false =>
      have E := Lib.hid (hasB_2 (d0 := d0) (d1 := d1) (d2 := d2) (d3 := d3) (by have := of_decide_eq_false g2; omega))
      go_wp2
      go_ret
      exact ⟨by rw [E.out]; rfl, X.out.2.2.2⟩
    | true =>
      cases g3 : decide (0 ≤ d3) with
      | false =>
        have E := Lib.hid (hasB_3 (d0 := d0) (d1 := d1) (d2 := d2) (d3 := d3) (by have := of_decide_eq_false g3; omega))
        go_wp2
        go_ret
        exact ⟨by rw [E.out]; rfl, X.out.2.2.2⟩
      | true =>
        have E := Lib.hid (hasB_4 Z0.out (of_decide_eq_true g1) (of_decide_eq_true g2) (of_decide_eq_true g3))
        go_wp2
        go_ret
        exact ⟨by rw [E.out]; rfl, X.out.2.2.2⟩
theorem tch_any (a b c p : P3) (w : World) (ha : BdP 64 a) (hb : BdP 64 b) (hc : BdP 64 c) (hp : BdP 256 p) : Calls Try.prog 83 #[pnv a b c, ptv p] w fun e w' => e = .returned (.bool (hasP p (a, b, c))) ∧ Below w.heap.size w w' := by
  rw [← tch_has]
  have n := nrm_bd ha hb hc
  have sb {x y : P3} (hx : BdP 256 x) (hy : BdP 256 y) : BdP 512 (sub x y) := sub_bd hx hy
  have A := ha.mono (show (64 : Int) ≤ 256 by decide)
  have B := hb.mono (show (64 : Int) ≤ 256 by decide)
  have C := hc.mono (show (64 : Int) ≤ 256 by decide)
  have mn (x y : P3) (hx : BdP 256 x) (hy : BdP 256 y) := Lib.hid fun W => rminus_any x y W ((sb hx hy).mono (by decide))
  have cx (x y : P3) (hx : BdP 512 x) (hy : BdP 512 y) := Lib.hid fun W => cross_any x y W (hx.mono (by decide)) (hy.mono (by decide))
  have dv (x y : P3) (hx : BdP 512 x) (hy : BdP 512 y) := Lib.hid fun W => rdot_any (nrm a b c) (vec x y) W ((pw_bd2 n (vec_bd hx hy)).mono (by decide))
  have CN := Lib.hid fun W => across_any a b c W (ha.mono (by decide)) (hb.mono (by decide)) (hc.mono (by decide))
  have D0 := Lib.hid fun W => rdot_any (nrm a b c) (sub p a) W ((pw_bd2 n (sb hp A)).mono (by decide))
  unfold tchT
  by_cases h0 : dot (nrm a b c) (sub p a) = 0
  · exact tch_4 a b c p _ _ _ _ _ _ _ _ _ _ _ _ _ _ w CN (mn p a hp A) D0 (mn b a B A) (cx _ _ (sb B A) (sb hp A)) (dv _ _ (sb B A) (sb hp A)) (mn c b C B) (mn p b hp B) (cx _ _ (sb C B) (sb hp B)) (dv _ _ (sb C B) (sb hp B)) (mn a c A C) (mn p c hp C) (cx _ _ (sb A C) (sb hp C)) (dv _ _ (sb A C) (sb hp C)) (by rw [h0]; rfl) h0
  · rw [hasB_0 h0]
    exact tch_0 a b c p _ _ _ w CN (mn p a hp A) D0 (bne_iff_ne.2 h0)
theorem sign_any (x : Int) (w : World) : Calls Try.prog 41 #[.int .i64 x] w fun e w' => e = .returned (.int .i64 (sg x)) ∧ w = w' := by
  rcases Int.lt_or_le x 0 with h | h
  · have e : sg x = -1 := by unfold sg Lib.compareInt; rw [if_pos h]
    rw [e]
    clear e
    go_enter Try.func41, Try.ntmps41
    go_wp2
    go_ret
    exact ⟨rfl, rfl⟩
  · rcases Int.lt_or_le 0 x with k | k
    · have e : sg x = 1 := by unfold sg Lib.compareInt; rw [if_neg (by omega), if_pos (by omega)]
      rw [e]
      clear e
      go_enter Try.func41, Try.ntmps41
      go_wp2
      go_ret
      exact ⟨rfl, rfl⟩
    · obtain rfl : x = 0 := by omega
      go_enter Try.func41, Try.ntmps41
      go_wp2
      go_ret
      exact ⟨rfl, rfl⟩

end Go.Proofs.Ytllonfaogbdbnaa
