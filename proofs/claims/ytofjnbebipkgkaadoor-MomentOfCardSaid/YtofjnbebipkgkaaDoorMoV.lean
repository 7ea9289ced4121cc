/-
  The contracts of Validate for moments, in the program and in the document's answer.
-/
import Derived.Test.YtofjnbebipkgkaaDoorMo4
namespace Go.Proofs.YtofjnbebipkgkaaDoor
open Go.ChangeShapes Go.WideShapes Go.RowKit
open Sh
/-- moments as a value, and their block -/
abbrev mov (m : Mo) : Value := .agg #[.int .i64 m.c, .int .i64 m.t, .int .i64 m.d.1, .int .i64 m.d.2.1, .int .i64 m.d.2.2, .int .i64 m.s0, .int .i64 m.s1, .int .i64 m.s2, .int .i64 m.s3, .int .i64 m.s4, .int .i64 m.s5]
abbrev mob (m : Mo) (t : TypeId) : Obj := .cells #[.int .i64 m.c, .int .i64 m.t, .int .i64 m.d.1, .int .i64 m.d.2.1, .int .i64 m.d.2.2, .int .i64 m.s0, .int .i64 m.s1, .int .i64 m.s2, .int .i64 m.s3, .int .i64 m.s4, .int .i64 m.s5] t
/-- block b is the call's own moments, and may be written -/
def OwnMo (w : World) (b : Nat) (m : Mo) : Prop :=
  (w.cell? ⟨b, 0, none⟩ = some (.int .i64 m.c) ∧ w.cell? ⟨b, 1, none⟩ = some (.int .i64 m.t) ∧ w.cell? ⟨b, 2, none⟩ = some (.int .i64 m.d.1) ∧ w.cell? ⟨b, 3, none⟩ = some (.int .i64 m.d.2.1) ∧ w.cell? ⟨b, 4, none⟩ = some (.int .i64 m.d.2.2) ∧ w.cell? ⟨b, 5, none⟩ = some (.int .i64 m.s0) ∧ w.cell? ⟨b, 6, none⟩ = some (.int .i64 m.s1) ∧ w.cell? ⟨b, 7, none⟩ = some (.int .i64 m.s2) ∧ w.cell? ⟨b, 8, none⟩ = some (.int .i64 m.s3) ∧ w.cell? ⟨b, 9, none⟩ = some (.int .i64 m.s4) ∧ w.cell? ⟨b, 10, none⟩ = some (.int .i64 m.s5)) ∧ (w.frozen? ⟨b, 0, none⟩ = false ∧ w.frozen? ⟨b, 1, none⟩ = false ∧ w.frozen? ⟨b, 2, none⟩ = false ∧ w.frozen? ⟨b, 3, none⟩ = false ∧ w.frozen? ⟨b, 4, none⟩ = false ∧ w.frozen? ⟨b, 5, none⟩ = false ∧ w.frozen? ⟨b, 6, none⟩ = false ∧ w.frozen? ⟨b, 7, none⟩ = false ∧ w.frozen? ⟨b, 8, none⟩ = false ∧ w.frozen? ⟨b, 9, none⟩ = false ∧ w.frozen? ⟨b, 10, none⟩ = false) ∧ b < w.heap.size
theorem ownMo_new (w : World) (m : Mo) (t : TypeId) : OwnMo (w.alloc (mob m t)) w.heap.size m := ⟨⟨by go_simp, by go_simp, by go_simp, by go_simp, by go_simp, by go_simp, by go_simp, by go_simp, by go_simp, by go_simp, by go_simp⟩, ⟨by go_simp, by go_simp, by go_simp, by go_simp, by go_simp, by go_simp, by go_simp, by go_simp, by go_simp, by go_simp, by go_simp⟩, by simp⟩
theorem ownMo_below {w w1 : World} {b : Nat} {m : Mo} (h : OwnMo w b m) (hb : Below w.heap.size w w1) : OwnMo w1 b m := by
  obtain ⟨⟨h0, h1, h2, h3, h4, h5, h6, h7, h8, h9, h10⟩, ⟨f0, f1, f2, f3, f4, f5, f6, f7, f8, f9, f10⟩, l⟩ := h
  exact ⟨⟨(hb.cell (p := ⟨b, 0, none⟩) l).trans h0, (hb.cell (p := ⟨b, 1, none⟩) l).trans h1, (hb.cell (p := ⟨b, 2, none⟩) l).trans h2, (hb.cell (p := ⟨b, 3, none⟩) l).trans h3, (hb.cell (p := ⟨b, 4, none⟩) l).trans h4, (hb.cell (p := ⟨b, 5, none⟩) l).trans h5, (hb.cell (p := ⟨b, 6, none⟩) l).trans h6, (hb.cell (p := ⟨b, 7, none⟩) l).trans h7, (hb.cell (p := ⟨b, 8, none⟩) l).trans h8, (hb.cell (p := ⟨b, 9, none⟩) l).trans h9, (hb.cell (p := ⟨b, 10, none⟩) l).trans h10⟩, ⟨(hb.frozen (p := ⟨b, 0, none⟩) l).trans f0, (hb.frozen (p := ⟨b, 1, none⟩) l).trans f1, (hb.frozen (p := ⟨b, 2, none⟩) l).trans f2, (hb.frozen (p := ⟨b, 3, none⟩) l).trans f3, (hb.frozen (p := ⟨b, 4, none⟩) l).trans f4, (hb.frozen (p := ⟨b, 5, none⟩) l).trans f5, (hb.frozen (p := ⟨b, 6, none⟩) l).trans f6, (hb.frozen (p := ⟨b, 7, none⟩) l).trans f7, (hb.frozen (p := ⟨b, 8, none⟩) l).trans f8, (hb.frozen (p := ⟨b, 9, none⟩) l).trans f9, (hb.frozen (p := ⟨b, 10, none⟩) l).trans f10⟩, Nat.lt_of_lt_of_le l hb.size⟩
theorem ownMo_alloc {w : World} {b : Nat} {m : Mo} (h : OwnMo w b m) (o : Obj) : OwnMo (w.alloc o) b m := ownMo_below h ((Below.refl _ _).alloc (Nat.le_refl _) _)
theorem ownMo_drew {w : World} {b : Nat} {m : Mo} (h : OwnMo w b m) : OwnMo w.drew b m := h
theorem ownMo_cells {w : World} {b : Nat} {m : Mo} (h : OwnMo w b m) : w.cell? ⟨b, 0, none⟩ = some (.int .i64 m.c) ∧ w.cell? ⟨b, 1, none⟩ = some (.int .i64 m.t) ∧ w.cell? ⟨b, 2, none⟩ = some (.int .i64 m.d.1) ∧ w.cell? ⟨b, 3, none⟩ = some (.int .i64 m.d.2.1) ∧ w.cell? ⟨b, 4, none⟩ = some (.int .i64 m.d.2.2) ∧ w.cell? ⟨b, 5, none⟩ = some (.int .i64 m.s0) ∧ w.cell? ⟨b, 6, none⟩ = some (.int .i64 m.s1) ∧ w.cell? ⟨b, 7, none⟩ = some (.int .i64 m.s2) ∧ w.cell? ⟨b, 8, none⟩ = some (.int .i64 m.s3) ∧ w.cell? ⟨b, 9, none⟩ = some (.int .i64 m.s4) ∧ w.cell? ⟨b, 10, none⟩ = some (.int .i64 m.s5) := h.1
/-- what Validate answers -/
def MVal (m : Mo) (w : World) (e : Ending) (w' : World) : Prop := e = .returned (.int .i64 (mcode m)) ∧ Below w.heap.size w w'
theorem mval_no {m : Mo} {w w' : World} (h : ¬ mok m) (hb : Below w.heap.size w w') : MVal m w (.returned (.int .i64 1)) w' := ⟨by rw [mcode_not h], hb⟩
theorem mval_yes {m : Mo} {w w' : World} (h : mok m) (hb : Below w.heap.size w w') : MVal m w (.returned (.int .i64 0)) w' := ⟨by rw [mcode_mok h], hb⟩
theorem rng_t {m : Mo} (h : rngB m.t 0 1048576 = false) : ¬ mok m := fun x => rngB_not.1 h x.1
theorem rng_c {m : Mo} (h : rngB m.c (-m.t) m.t = false) : ¬ mok m := fun x => rngB_not.1 h x.2.1
theorem rng_d1 {m : Mo} (h : rngB m.d.1 (-1073741824) 1073741824 = false) : ¬ mok m := fun x => rngB_not.1 h (cor1 x.2.2.1)
theorem rng_d2 {m : Mo} (h : rngB m.d.2.1 (-1073741824) 1073741824 = false) : ¬ mok m := fun x => rngB_not.1 h (cor2 x.2.2.1)
theorem rng_d3 {m : Mo} (h : rngB m.d.2.2 (-1073741824) 1073741824 = false) : ¬ mok m := fun x => rngB_not.1 h (cor3 x.2.2.1)
theorem rng_s0 {m : Mo} (h : rngB m.s0 (-17179869184) 17179869184 = false) : ¬ mok m := fun x => rngB_not.1 h x.2.2.2.1
theorem rng_s1 {m : Mo} (h : rngB m.s1 (-17179869184) 17179869184 = false) : ¬ mok m := fun x => rngB_not.1 h x.2.2.2.2.1
theorem rng_s2 {m : Mo} (h : rngB m.s2 (-17179869184) 17179869184 = false) : ¬ mok m := fun x => rngB_not.1 h x.2.2.2.2.2.1
theorem rng_s3 {m : Mo} (h : rngB m.s3 (-17179869184) 17179869184 = false) : ¬ mok m := fun x => rngB_not.1 h x.2.2.2.2.2.2.1
theorem rng_s4 {m : Mo} (h : rngB m.s4 (-17179869184) 17179869184 = false) : ¬ mok m := fun x => rngB_not.1 h x.2.2.2.2.2.2.2.1
theorem rng_s5 {m : Mo} (h : rngB m.s5 (-17179869184) 17179869184 = false) : ¬ mok m := fun x => rngB_not.1 h x.2.2.2.2.2.2.2.2
theorem rng_all {m : Mo} (h0 : rngB m.t 0 1048576 = true) (h1 : rngB m.c (-m.t) m.t = true) (h2 : rngB m.d.1 (-1073741824) 1073741824 = true) (h3 : rngB m.d.2.1 (-1073741824) 1073741824 = true) (h4 : rngB m.d.2.2 (-1073741824) 1073741824 = true) (h5 : rngB m.s0 (-17179869184) 17179869184 = true) (h6 : rngB m.s1 (-17179869184) 17179869184 = true) (h7 : rngB m.s2 (-17179869184) 17179869184 = true) (h8 : rngB m.s3 (-17179869184) 17179869184 = true) (h9 : rngB m.s4 (-17179869184) 17179869184 = true) (h10 : rngB m.s5 (-17179869184) 17179869184 = true) : mok m := by
  have a := rngB_iff.1 h2
  have b := rngB_iff.1 h3
  have c := rngB_iff.1 h4
  exact ⟨rngB_iff.1 h0, rngB_iff.1 h1, ⟨a.1, a.2, b.1, b.2, c.1, c.2⟩, rngB_iff.1 h5, rngB_iff.1 h6, rngB_iff.1 h7, rngB_iff.1 h8, rngB_iff.1 h9, rngB_iff.1 h10⟩
set_option maxRecDepth 100000 in
set_option maxHeartbeats 2000000 in
theorem mval_any (m : Mo) (w : World) : Calls Tryd.prog 22 #[mov m] w (MVal m w) := by
  have i0 : ∀ w, (Instr.index 42 (.agg #[.int .i64 m.d.1, .int .i64 m.d.2.1, .int .i64 m.d.2.2]) (.int .i64 0)).run Tryd.prog w = .ok (.int .i64 m.d.1) w := fun _ => by kernel_rfl
  have i1 : ∀ w, (Instr.index 42 (.agg #[.int .i64 m.d.1, .int .i64 m.d.2.1, .int .i64 m.d.2.2]) (.int .i64 1)).run Tryd.prog w = .ok (.int .i64 m.d.2.1) w := fun _ => by kernel_rfl
  have i2 : ∀ w, (Instr.index 42 (.agg #[.int .i64 m.d.1, .int .i64 m.d.2.1, .int .i64 m.d.2.2]) (.int .i64 2)).run Tryd.prog w = .ok (.int .i64 m.d.2.2) w := fun _ => by kernel_rfl
  have j0 : ∀ w, (Instr.index 26 (.agg #[.int .i64 m.s0, .int .i64 m.s1, .int .i64 m.s2, .int .i64 m.s3, .int .i64 m.s4, .int .i64 m.s5]) (.int .i64 0)).run Tryd.prog w = .ok (.int .i64 m.s0) w := fun _ => by kernel_rfl
  have j1 : ∀ w, (Instr.index 26 (.agg #[.int .i64 m.s0, .int .i64 m.s1, .int .i64 m.s2, .int .i64 m.s3, .int .i64 m.s4, .int .i64 m.s5]) (.int .i64 1)).run Tryd.prog w = .ok (.int .i64 m.s1) w := fun _ => by kernel_rfl
  have j2 : ∀ w, (Instr.index 26 (.agg #[.int .i64 m.s0, .int .i64 m.s1, .int .i64 m.s2, .int .i64 m.s3, .int .i64 m.s4, .int .i64 m.s5]) (.int .i64 2)).run Tryd.prog w = .ok (.int .i64 m.s2) w := fun _ => by kernel_rfl
  have j3 : ∀ w, (Instr.index 26 (.agg #[.int .i64 m.s0, .int .i64 m.s1, .int .i64 m.s2, .int .i64 m.s3, .int .i64 m.s4, .int .i64 m.s5]) (.int .i64 3)).run Tryd.prog w = .ok (.int .i64 m.s3) w := fun _ => by kernel_rfl
  have j4 : ∀ w, (Instr.index 26 (.agg #[.int .i64 m.s0, .int .i64 m.s1, .int .i64 m.s2, .int .i64 m.s3, .int .i64 m.s4, .int .i64 m.s5]) (.int .i64 4)).run Tryd.prog w = .ok (.int .i64 m.s4) w := fun _ => by kernel_rfl
  have j5 : ∀ w, (Instr.index 26 (.agg #[.int .i64 m.s0, .int .i64 m.s1, .int .i64 m.s2, .int .i64 m.s3, .int .i64 m.s4, .int .i64 m.s5]) (.int .i64 5)).run Tryd.prog w = .ok (.int .i64 m.s5) w := fun _ => by kernel_rfl
  cases h0 : rngB m.t 0 1048576 with
  | false =>
    have N := Lib.hid (rng_t h0)
    have C0 : Hid (∀ W, Calls Tryd.prog 31 #[.int .i64 m.t, .int .i64 0, .int .i64 1048576] W fun e w' => e = .returned (.bool false) ∧ W = w') := Lib.hid (fun W => (h0 ▸ inr_any m.t 0 1048576 W : Calls Tryd.prog 31 #[.int .i64 m.t, .int .i64 0, .int .i64 1048576] W fun e w' => e = .returned (.bool false) ∧ W = w'))
    clear h0
    go_enter Tryd.func22, Tryd.ntmps22
    go_wp2_with fail
    refine (C0.out _).mono ?_
    rintro e w' ⟨rfl, rfl⟩
    clear C0
    go_wp2
    go_ret
    exact mval_no N.out (by (repeat' (first | exact Below.refl _ _ | refine Below.setCell ?_ (by simp <;> omega) _ | refine balloc ?_ _ | refine Below.drew ?_ | refine bdrewN ?_ _)))
  | true =>
    have C0 : Hid (∀ W, Calls Tryd.prog 31 #[.int .i64 m.t, .int .i64 0, .int .i64 1048576] W fun e w' => e = .returned (.bool true) ∧ W = w') := Lib.hid (fun W => (h0 ▸ inr_any m.t 0 1048576 W : Calls Tryd.prog 31 #[.int .i64 m.t, .int .i64 0, .int .i64 1048576] W fun e w' => e = .returned (.bool true) ∧ W = w'))
    have H0 := Lib.hid h0
    
    cases h1 : rngB m.c (-m.t) m.t with
    | false =>
      have N := Lib.hid (rng_c h1)
      have C1 : Hid (∀ W, Calls Tryd.prog 32 #[.int .i64 m.c, .int .i64 m.t] W fun e w' => e = .returned (.bool false) ∧ W = w') := Lib.hid (fun W => (h1 ▸ win_any m.c m.t W (by have := rngB_iff.1 h0; omega) (by have := rngB_iff.1 h0; omega) : Calls Tryd.prog 32 #[.int .i64 m.c, .int .i64 m.t] W fun e w' => e = .returned (.bool false) ∧ W = w'))
      clear h1
      go_enter Tryd.func22, Tryd.ntmps22
      go_wp2_with fail
      refine (C0.out _).mono ?_
      rintro e w' ⟨rfl, rfl⟩
      clear C0
      go_wp2_with fail
      refine (C1.out _).mono ?_
      rintro e w' ⟨rfl, rfl⟩
      clear C1
      go_wp2
      go_ret
      exact mval_no N.out (by (repeat' (first | exact Below.refl _ _ | refine Below.setCell ?_ (by simp <;> omega) _ | refine balloc ?_ _ | refine Below.drew ?_ | refine bdrewN ?_ _)))
    | true =>
      have C1 : Hid (∀ W, Calls Tryd.prog 32 #[.int .i64 m.c, .int .i64 m.t] W fun e w' => e = .returned (.bool true) ∧ W = w') := Lib.hid (fun W => (h1 ▸ win_any m.c m.t W (by have := rngB_iff.1 h0; omega) (by have := rngB_iff.1 h0; omega) : Calls Tryd.prog 32 #[.int .i64 m.c, .int .i64 m.t] W fun e w' => e = .returned (.bool true) ∧ W = w'))
      have H1 := Lib.hid h1
      clear h1
      clear h0
      go_enter Tryd.func22, Tryd.ntmps22
      go_wp2_with fail
      refine (C0.out _).mono ?_
      rintro e w' ⟨rfl, rfl⟩
      clear C0
      go_wp2_with fail
      refine (C1.out _).mono ?_
      rintro e w' ⟨rfl, rfl⟩
      clear C1
      go_wp2_with fail
      refine (vof_any m.d _).mono ?_
      rintro e w1 ⟨rfl, hb1⟩
      have B := Lib.hid (bstep (balloc (Below.refl w.heap.size w) _) hb1)
      have OM := Lib.hid (ownMo_below (ownMo_new w m _) hb1)
      clear hb1
      go_wp2
      refine wp_loop_rounds 4 ?_
      rw [rounds_succ]
      cases h2 : rngB m.d.1 (-1073741824) 1073741824 with
      | false =>
        have N := Lib.hid (rng_d1 h2)
        have C2 : Hid (∀ W, Calls Tryd.prog 32 #[.int .i64 m.d.1, .int .i64 1073741824] W fun e w' => e = .returned (.bool false) ∧ W = w') := Lib.hid (fun W => (h2 ▸ win_any m.d.1 1073741824 W (by decide) (by decide) : Calls Tryd.prog 32 #[.int .i64 m.d.1, .int .i64 1073741824] W fun e w' => e = .returned (.bool false) ∧ W = w'))
        clear h2
        go_wp2_with fail
        refine (C2.out _).mono ?_
        rintro e w' ⟨rfl, rfl⟩
        clear C2
        go_wp2
        go_ret
        exact mval_no N.out (by have hB := B.out; (repeat' (first | exact Below.refl _ _ | refine bstep ?_ hB | refine Below.setCell ?_ (by simp <;> omega) _ | refine balloc ?_ _ | refine Below.drew ?_ | refine bdrewN ?_ _)))
      | true =>
        have C2 : Hid (∀ W, Calls Tryd.prog 32 #[.int .i64 m.d.1, .int .i64 1073741824] W fun e w' => e = .returned (.bool true) ∧ W = w') := Lib.hid (fun W => (h2 ▸ win_any m.d.1 1073741824 W (by decide) (by decide) : Calls Tryd.prog 32 #[.int .i64 m.d.1, .int .i64 1073741824] W fun e w' => e = .returned (.bool true) ∧ W = w'))
        have H2 := Lib.hid h2
        clear h2
        go_wp2_with fail
        refine (C2.out _).mono ?_
        rintro e w' ⟨rfl, rfl⟩
        clear C2
        go_wp2
        rw [rounds_succ]
        cases h3 : rngB m.d.2.1 (-1073741824) 1073741824 with
        | false =>
          have N := Lib.hid (rng_d2 h3)
          have C3 : Hid (∀ W, Calls Tryd.prog 32 #[.int .i64 m.d.2.1, .int .i64 1073741824] W fun e w' => e = .returned (.bool false) ∧ W = w') := Lib.hid (fun W => (h3 ▸ win_any m.d.2.1 1073741824 W (by decide) (by decide) : Calls Tryd.prog 32 #[.int .i64 m.d.2.1, .int .i64 1073741824] W fun e w' => e = .returned (.bool false) ∧ W = w'))
          clear h3
          go_wp2_with fail
          refine (C3.out _).mono ?_
          rintro e w' ⟨rfl, rfl⟩
          clear C3
          go_wp2
          go_ret
          exact mval_no N.out (by have hB := B.out; (repeat' (first | exact Below.refl _ _ | refine bstep ?_ hB | refine Below.setCell ?_ (by simp <;> omega) _ | refine balloc ?_ _ | refine Below.drew ?_ | refine bdrewN ?_ _)))
        | true =>
          have C3 : Hid (∀ W, Calls Tryd.prog 32 #[.int .i64 m.d.2.1, .int .i64 1073741824] W fun e w' => e = .returned (.bool true) ∧ W = w') := Lib.hid (fun W => (h3 ▸ win_any m.d.2.1 1073741824 W (by decide) (by decide) : Calls Tryd.prog 32 #[.int .i64 m.d.2.1, .int .i64 1073741824] W fun e w' => e = .returned (.bool true) ∧ W = w'))
          have H3 := Lib.hid h3
          clear h3
          go_wp2_with fail
          refine (C3.out _).mono ?_
          rintro e w' ⟨rfl, rfl⟩
          clear C3
          go_wp2
          rw [rounds_succ]
          cases h4 : rngB m.d.2.2 (-1073741824) 1073741824 with
          | false =>
            have N := Lib.hid (rng_d3 h4)
            have C4 : Hid (∀ W, Calls Tryd.prog 32 #[.int .i64 m.d.2.2, .int .i64 1073741824] W fun e w' => e = .returned (.bool false) ∧ W = w') := Lib.hid (fun W => (h4 ▸ win_any m.d.2.2 1073741824 W (by decide) (by decide) : Calls Tryd.prog 32 #[.int .i64 m.d.2.2, .int .i64 1073741824] W fun e w' => e = .returned (.bool false) ∧ W = w'))
            clear h4
            go_wp2_with fail
            refine (C4.out _).mono ?_
            rintro e w' ⟨rfl, rfl⟩
            clear C4
            go_wp2
            go_ret
            exact mval_no N.out (by have hB := B.out; (repeat' (first | exact Below.refl _ _ | refine bstep ?_ hB | refine Below.setCell ?_ (by simp <;> omega) _ | refine balloc ?_ _ | refine Below.drew ?_ | refine bdrewN ?_ _)))
          | true =>
            have C4 : Hid (∀ W, Calls Tryd.prog 32 #[.int .i64 m.d.2.2, .int .i64 1073741824] W fun e w' => e = .returned (.bool true) ∧ W = w') := Lib.hid (fun W => (h4 ▸ win_any m.d.2.2 1073741824 W (by decide) (by decide) : Calls Tryd.prog 32 #[.int .i64 m.d.2.2, .int .i64 1073741824] W fun e w' => e = .returned (.bool true) ∧ W = w'))
            have H4 := Lib.hid h4
            clear h4
            go_wp2_with fail
            refine (C4.out _).mono ?_
            rintro e w' ⟨rfl, rfl⟩
            clear C4
            go_wp2
            rw [rounds_succ]
            obtain ⟨⟨x0, x1, x2, x3, x4, x5, x6, x7, x8, x9, x10⟩, _, ll⟩ := OM.out
            go_wp2
            clear x0 x1 x2 x3 x4 x5 x6 x7 x8 x9 x10
            refine wp_loop_rounds 7 ?_
            rw [rounds_succ]
            cases h5 : rngB m.s0 (-17179869184) 17179869184 with
            | false =>
              have N := Lib.hid (rng_s0 h5)
              have C5 : Hid (∀ W, Calls Tryd.prog 32 #[.int .i64 m.s0, .int .i64 17179869184] W fun e w' => e = .returned (.bool false) ∧ W = w') := Lib.hid (fun W => (h5 ▸ win_any m.s0 17179869184 W (by decide) (by decide) : Calls Tryd.prog 32 #[.int .i64 m.s0, .int .i64 17179869184] W fun e w' => e = .returned (.bool false) ∧ W = w'))
              clear h5
              go_wp2_with fail
              refine (C5.out _).mono ?_
              rintro e w' ⟨rfl, rfl⟩
              clear C5
              go_wp2
              go_ret
              exact mval_no N.out (by have hB := B.out; (repeat' (first | exact Below.refl _ _ | refine bstep ?_ hB | refine Below.setCell ?_ (by simp <;> omega) _ | refine balloc ?_ _ | refine Below.drew ?_ | refine bdrewN ?_ _)))
            | true =>
              have C5 : Hid (∀ W, Calls Tryd.prog 32 #[.int .i64 m.s0, .int .i64 17179869184] W fun e w' => e = .returned (.bool true) ∧ W = w') := Lib.hid (fun W => (h5 ▸ win_any m.s0 17179869184 W (by decide) (by decide) : Calls Tryd.prog 32 #[.int .i64 m.s0, .int .i64 17179869184] W fun e w' => e = .returned (.bool true) ∧ W = w'))
              have H5 := Lib.hid h5
              clear h5
              go_wp2_with fail
              refine (C5.out _).mono ?_
              rintro e w' ⟨rfl, rfl⟩
              clear C5
              go_wp2
              rw [rounds_succ]
              cases h6 : rngB m.s1 (-17179869184) 17179869184 with
              | false =>
                have N := Lib.hid (rng_s1 h6)
                have C6 : Hid (∀ W, Calls Tryd.prog 32 #[.int .i64 m.s1, .int .i64 17179869184] W fun e w' => e = .returned (.bool false) ∧ W = w') := Lib.hid (fun W => (h6 ▸ win_any m.s1 17179869184 W (by decide) (by decide) : Calls Tryd.prog 32 #[.int .i64 m.s1, .int .i64 17179869184] W fun e w' => e = .returned (.bool false) ∧ W = w'))
                clear h6
                go_wp2_with fail
                refine (C6.out _).mono ?_
                rintro e w' ⟨rfl, rfl⟩
                clear C6
                go_wp2
                go_ret
                exact mval_no N.out (by have hB := B.out; (repeat' (first | exact Below.refl _ _ | refine bstep ?_ hB | refine Below.setCell ?_ (by simp <;> omega) _ | refine balloc ?_ _ | refine Below.drew ?_ | refine bdrewN ?_ _)))
              | true =>
                have C6 : Hid (∀ W, Calls Tryd.prog 32 #[.int .i64 m.s1, .int .i64 17179869184] W fun e w' => e = .returned (.bool true) ∧ W = w') := Lib.hid (fun W => (h6 ▸ win_any m.s1 17179869184 W (by decide) (by decide) : Calls Tryd.prog 32 #[.int .i64 m.s1, .int .i64 17179869184] W fun e w' => e = .returned (.bool true) ∧ W = w'))
                have H6 := Lib.hid h6
                clear h6
                go_wp2_with fail
                refine (C6.out _).mono ?_
                rintro e w' ⟨rfl, rfl⟩
                clear C6
                go_wp2
                rw [rounds_succ]
                cases h7 : rngB m.s2 (-17179869184) 17179869184 with
                | false =>
                  have N := Lib.hid (rng_s2 h7)
                  have C7 : Hid (∀ W, Calls Tryd.prog 32 #[.int .i64 m.s2, .int .i64 17179869184] W fun e w' => e = .returned (.bool false) ∧ W = w') := Lib.hid (fun W => (h7 ▸ win_any m.s2 17179869184 W (by decide) (by decide) : Calls Tryd.prog 32 #[.int .i64 m.s2, .int .i64 17179869184] W fun e w' => e = .returned (.bool false) ∧ W = w'))
                  clear h7
                  go_wp2_with fail
                  refine (C7.out _).mono ?_
                  rintro e w' ⟨rfl, rfl⟩
                  clear C7
                  go_wp2
                  go_ret
                  exact mval_no N.out (by have hB := B.out; (repeat' (first | exact Below.refl _ _ | refine bstep ?_ hB | refine Below.setCell ?_ (by simp <;> omega) _ | refine balloc ?_ _ | refine Below.drew ?_ | refine bdrewN ?_ _)))
                | true =>
                  have C7 : Hid (∀ W, Calls Tryd.prog 32 #[.int .i64 m.s2, .int .i64 17179869184] W fun e w' => e = .returned (.bool true) ∧ W = w') := Lib.hid (fun W => (h7 ▸ win_any m.s2 17179869184 W (by decide) (by decide) : Calls Tryd.prog 32 #[.int .i64 m.s2, .int .i64 17179869184] W fun e w' => e = .returned (.bool true) ∧ W = w'))
                  have H7 := Lib.hid h7
                  clear h7
                  go_wp2_with fail
                  refine (C7.out _).mono ?_
                  rintro e w' ⟨rfl, rfl⟩
                  clear C7
                  go_wp2
                  rw [rounds_succ]
                  cases h8 : rngB m.s3 (-17179869184) 17179869184 with
                  | false =>
                    have N := Lib.hid (rng_s3 h8)
                    have C8 : Hid (∀ W, Calls Tryd.prog 32 #[.int .i64 m.s3, .int .i64 17179869184] W fun e w' => e = .returned (.bool false) ∧ W = w') := Lib.hid (fun W => (h8 ▸ win_any m.s3 17179869184 W (by decide) (by decide) : Calls Tryd.prog 32 #[.int .i64 m.s3, .int .i64 17179869184] W fun e w' => e = .returned (.bool false) ∧ W = w'))
                    clear h8
                    go_wp2_with fail
                    refine (C8.out _).mono ?_
                    rintro e w' ⟨rfl, rfl⟩
                    clear C8
                    go_wp2
                    go_ret
                    exact mval_no N.out (by have hB := B.out; (repeat' (first | exact Below.refl _ _ | refine bstep ?_ hB | refine Below.setCell ?_ (by simp <;> omega) _ | refine balloc ?_ _ | refine Below.drew ?_ | refine bdrewN ?_ _)))
                  | true =>
                    have C8 : Hid (∀ W, Calls Tryd.prog 32 #[.int .i64 m.s3, .int .i64 17179869184] W fun e w' => e = .returned (.bool true) ∧ W = w') := Lib.hid (fun W => (h8 ▸ win_any m.s3 17179869184 W (by decide) (by decide) : Calls Tryd.prog 32 #[.int .i64 m.s3, .int .i64 17179869184] W fun e w' => e = .returned (.bool true) ∧ W = w'))
                    have H8 := Lib.hid h8
                    clear h8
                    go_wp2_with fail
                    refine (C8.out _).mono ?_
                    rintro e w' ⟨rfl, rfl⟩
                    clear C8
                    go_wp2
                    rw [rounds_succ]
                    cases h9 : rngB m.s4 (-17179869184) 17179869184 with
                    | false =>
                      have N := Lib.hid (rng_s4 h9)
                      have C9 : Hid (∀ W, Calls Tryd.prog 32 #[.int .i64 m.s4, .int .i64 17179869184] W fun e w' => e = .returned (.bool false) ∧ W = w') := Lib.hid (fun W => (h9 ▸ win_any m.s4 17179869184 W (by decide) (by decide) : Calls Tryd.prog 32 #[.int .i64 m.s4, .int .i64 17179869184] W fun e w' => e = .returned (.bool false) ∧ W = w'))
                      clear h9
                      go_wp2_with fail
                      refine (C9.out _).mono ?_
                      rintro e w' ⟨rfl, rfl⟩
                      clear C9
                      go_wp2
                      go_ret
                      exact mval_no N.out (by have hB := B.out; (repeat' (first | exact Below.refl _ _ | refine bstep ?_ hB | refine Below.setCell ?_ (by simp <;> omega) _ | refine balloc ?_ _ | refine Below.drew ?_ | refine bdrewN ?_ _)))
                    | true =>
                      have C9 : Hid (∀ W, Calls Tryd.prog 32 #[.int .i64 m.s4, .int .i64 17179869184] W fun e w' => e = .returned (.bool true) ∧ W = w') := Lib.hid (fun W => (h9 ▸ win_any m.s4 17179869184 W (by decide) (by decide) : Calls Tryd.prog 32 #[.int .i64 m.s4, .int .i64 17179869184] W fun e w' => e = .returned (.bool true) ∧ W = w'))
                      have H9 := Lib.hid h9
                      clear h9
                      go_wp2_with fail
                      refine (C9.out _).mono ?_
                      rintro e w' ⟨rfl, rfl⟩
                      clear C9
                      go_wp2
                      rw [rounds_succ]
                      cases h10 : rngB m.s5 (-17179869184) 17179869184 with
                      | false =>
                        have N := Lib.hid (rng_s5 h10)
                        have C10 : Hid (∀ W, Calls Tryd.prog 32 #[.int .i64 m.s5, .int .i64 17179869184] W fun e w' => e = .returned (.bool false) ∧ W = w') := Lib.hid (fun W => (h10 ▸ win_any m.s5 17179869184 W (by decide) (by decide) : Calls Tryd.prog 32 #[.int .i64 m.s5, .int .i64 17179869184] W fun e w' => e = .returned (.bool false) ∧ W = w'))
                        clear h10
                        go_wp2_with fail
                        refine (C10.out _).mono ?_
                        rintro e w' ⟨rfl, rfl⟩
                        clear C10
                        go_wp2
                        go_ret
                        exact mval_no N.out (by have hB := B.out; (repeat' (first | exact Below.refl _ _ | refine bstep ?_ hB | refine Below.setCell ?_ (by simp <;> omega) _ | refine balloc ?_ _ | refine Below.drew ?_ | refine bdrewN ?_ _)))
                      | true =>
                        have C10 : Hid (∀ W, Calls Tryd.prog 32 #[.int .i64 m.s5, .int .i64 17179869184] W fun e w' => e = .returned (.bool true) ∧ W = w') := Lib.hid (fun W => (h10 ▸ win_any m.s5 17179869184 W (by decide) (by decide) : Calls Tryd.prog 32 #[.int .i64 m.s5, .int .i64 17179869184] W fun e w' => e = .returned (.bool true) ∧ W = w'))
                        have H10 := Lib.hid h10
                        clear h10
                        go_wp2_with fail
                        refine (C10.out _).mono ?_
                        rintro e w' ⟨rfl, rfl⟩
                        clear C10
                        go_wp2
                        rw [rounds_succ]
                        go_wp2
                        go_ret
                        exact mval_yes (rng_all H0.out H1.out H2.out H3.out H4.out H5.out H6.out H7.out H8.out H9.out H10.out) (by have hB := B.out; (repeat' (first | exact Below.refl _ _ | refine bstep ?_ hB | refine Below.setCell ?_ (by simp <;> omega) _ | refine balloc ?_ _ | refine Below.drew ?_ | refine bdrewN ?_ _)))

end Go.Proofs.YtofjnbebipkgkaaDoor
