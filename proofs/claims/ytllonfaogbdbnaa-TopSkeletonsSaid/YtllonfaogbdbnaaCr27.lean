/-
  The contracts of isBound and above, and of the document's IsBound and AtMost.
-/
import Derived.Test.YtllonfaogbdbnaaCr26
import Derived.Laws.Bits64b
namespace Go.Proofs.Ytllonfaogbdbnaa
open Go.ChangeShapes Go.WideShapes Go.RowKit
open Cr
/-- is the fraction a bound? -/
def bndB (p q : Int) : Bool := inr q 1 1000 && inr p 0 1000000 && decide (gI p q = 1)
theorem rat_self {p q : Int} (hq : 1 ≤ q) : ratq p q = (p, q) ↔ gI p q = 1 := by
  rw [ratq_pos (by omega : ¬ q < 0)]
  have g1 := gI_pos (n := p) (d := q) (by omega)
  constructor
  · intro h
    have h2 : q.tdiv (gI p q) = q := (Prod.mk.inj h).2
    rw [Int.tdiv_eq_ediv_of_nonneg (by omega)] at h2
    rcases Int.lt_or_le 1 (gI p q) with hlt | hge
    · exfalso
      have := Int.ediv_lt_self_of_pos_of_ne_one (x := q) (y := gI p q) (by omega) (by omega)
      omega
    · omega
  · intro h
    rw [h, Int.tdiv_one, Int.tdiv_one]
/-- is the one fraction above the other? -/
def abvB (a b : Int × Int) : Bool := decide (b.1 * a.2 < a.1 * b.2)
theorem bndB_1 {p q : Int} (h : inr q 1 1000 = false) : bndB p q = false := by unfold bndB; rw [h]; rfl
theorem bndB_2 {p q : Int} (h : inr p 0 1000000 = false) : bndB p q = false := by unfold bndB; rw [h]; simp
theorem bndB_3 {p q : Int} (h1 : inr q 1 1000 = true) (h2 : inr p 0 1000000 = true) : bndB p q = decide (gI p q = 1) := by unfold bndB; rw [h1, h2]; rfl
set_option maxHeartbeats 1000000 in
theorem isb_any (p q : Int) (w : World) : Calls Try.prog 59 #[rtv (p, q)] w fun e w' => e = .returned (.bool (bndB p q)) ∧ Below w.heap.size w w' := by
  have B0 := Lib.hid (show Below w.heap.size w (w.alloc (rtc (p, q))) from balloc (Below.refl _ _) _)
  cases h1 : inr q 1 1000 with
  | false =>
    have C1 := Lib.hid (fun W => (h1 ▸ inrange_any q 1 1000 W : Calls Try.prog 65 #[.int .i64 q, .int .i64 1, .int .i64 1000] W fun e w' => e = .returned (.bool false) ∧ W = w'))
    rw [bndB_1 h1]
    clear h1
    go_enter Try.func59, Try.ntmps59
    go_wp2_with fail
    with_reducible refine (C1.out _).mono ?_
    rintro e w2 ⟨rfl, rfl⟩
    go_wp2_with fail
    go_ret
    exact ⟨rfl, B0.out⟩
  | true =>
    have C1 := Lib.hid (fun W => (h1 ▸ inrange_any q 1 1000 W : Calls Try.prog 65 #[.int .i64 q, .int .i64 1, .int .i64 1000] W fun e w' => e = .returned (.bool true) ∧ W = w'))
    cases h2 : inr p 0 1000000 with
    | false =>
      have C2 := Lib.hid (fun W => (h2 ▸ inrange_any p 0 1000000 W : Calls Try.prog 65 #[.int .i64 p, .int .i64 0, .int .i64 1000000] W fun e w' => e = .returned (.bool false) ∧ W = w'))
      rw [bndB_2 h2]
      clear h1 h2
      go_enter Try.func59, Try.ntmps59
      go_wp2_with fail
      with_reducible refine (C1.out _).mono ?_
      rintro e w2 ⟨rfl, rfl⟩
      go_wp2_with fail
      with_reducible refine (C2.out _).mono ?_
      rintro e w2 ⟨rfl, rfl⟩
      go_wp2_with fail
      go_ret
      exact ⟨rfl, B0.out⟩
    | true =>
      have C2 := Lib.hid (fun W => (h2 ▸ inrange_any p 0 1000000 W : Calls Try.prog 65 #[.int .i64 p, .int .i64 0, .int .i64 1000000] W fun e w' => e = .returned (.bool true) ∧ W = w'))
      rw [bndB_3 h1 h2]
      have q1 := inr_iff.1 h1
      have p1 := inr_iff.1 h2
      have CD := Lib.hid (fun W => cd_any p q W (by omega) (by omega) (by omega) (by omega))
      clear h1 h2 q1 p1
      generalize gI p q = x at *
      by_cases hx : x = 1
      · have e : decide (x = 1) = true := by simp [hx]
        rw [e]
        subst hx
        clear e
        go_enter Try.func59, Try.ntmps59
        go_wp2_with fail
        with_reducible refine (C1.out _).mono ?_
        rintro e w2 ⟨rfl, rfl⟩
        go_wp2_with fail
        with_reducible refine (C2.out _).mono ?_
        rintro e w2 ⟨rfl, rfl⟩
        go_wp2_with fail
        with_reducible refine (CD.out _).mono ?_
        rintro e w3 ⟨rfl, hb⟩
        have HB := Lib.hid (bstep B0.out hb)
        clear hb
        go_wp2_with fail
        go_ret
        exact ⟨rfl, HB.out⟩
      · have e : decide (x = 1) = false := by simp [hx]
        rw [e]
        have t1 : (x == 1) = false := by simp [hx]
        clear e hx
        go_enter Try.func59, Try.ntmps59
        go_wp2_with fail
        with_reducible refine (C1.out _).mono ?_
        rintro e w2 ⟨rfl, rfl⟩
        go_wp2_with fail
        with_reducible refine (C2.out _).mono ?_
        rintro e w2 ⟨rfl, rfl⟩
        go_wp2_with fail
        with_reducible refine (CD.out _).mono ?_
        rintro e w3 ⟨rfl, hb⟩
        have HB := Lib.hid (bstep B0.out hb)
        clear hb
        go_wp2_with fail
        go_ret
        exact ⟨rfl, HB.out⟩
theorem above_any (a b : Int × Int) (w : World) (h1 : -9000000000000000000 ≤ a.1 * b.2) (h2 : a.1 * b.2 ≤ 9000000000000000000) (h3 : -9000000000000000000 ≤ b.1 * a.2) (h4 : b.1 * a.2 ≤ 9000000000000000000) : Calls Try.prog 61 #[rtv a, rtv b] w fun e w' => e = .returned (.bool (abvB a b)) ∧ Below w.heap.size w w' := by
  obtain ⟨a1, a2⟩ := a
  obtain ⟨b1, b2⟩ := b
  have h1 : -9000000000000000000 ≤ a1 * b2 := h1
  have h2 : a1 * b2 ≤ 9000000000000000000 := h2
  have h3 : -9000000000000000000 ≤ b1 * a2 := h3
  have h4 : b1 * a2 ≤ 9000000000000000000 := h4
  have e0 : abvB (a1, a2) (b1, b2) = decide (b1 * a2 < a1 * b2) := rfl
  rw [e0]
  clear e0
  by_cases c : b1 * a2 < a1 * b2
  · have e : decide (b1 * a2 < a1 * b2) = true := by simpa using c
    rw [e]
    clear e
    go_enter Try.func61, Try.ntmps61
    go_wp2
    go_ret
    exact ⟨rfl, balloc (balloc (Below.refl _ _) _) _⟩
  · have e : decide (b1 * a2 < a1 * b2) = false := by simpa using c
    rw [e]
    clear e
    go_enter Try.func61, Try.ntmps61
    go_wp2
    go_ret
    exact ⟨rfl, balloc (balloc (Below.refl _ _) _) _⟩
def BX (w : World) (p q : Int) (w1 : World) : Prop := w1.cell? ⟨w.heap.size, 0, none⟩ = some (.int .i64 p) ∧ w1.cell? ⟨w.heap.size, 1, none⟩ = some (.int .i64 q) ∧ Below w.heap.size w w1 ∧ w.heap.size < w1.heap.size
theorem bx_s {w : World} {p q : Int} {w1 : World} (h : BX w p q w1) : w1.cell? ⟨w.heap.size, 0, none⟩ = some (.int .i64 p) ∧ w1.cell? ⟨w.heap.size, 1, none⟩ = some (.int .i64 q) ∧ Below w.heap.size w w1 ∧ w.heap.size < w1.heap.size := h
theorem bx_of {w : World} {p q : Int} {w1 : World} (h : w1.cell? ⟨w.heap.size, 0, none⟩ = some (.int .i64 p) ∧ w1.cell? ⟨w.heap.size, 1, none⟩ = some (.int .i64 q) ∧ Below w.heap.size w w1 ∧ w.heap.size < w1.heap.size) : BX w p q w1 := h
theorem bx_drew {w : World} {p q : Int} {w1 : World} (h : BX w p q w1) : BX w p q w1.drew := by
  obtain ⟨h0, h1, hB, b0⟩ := h
  exact ⟨h0, h1, Below.drew hB, b0⟩
theorem bx_drewN {w : World} {p q : Int} {w1 : World} (h : BX w p q w1) (k : Nat) : BX w p q (w1.drewN k) := by
  obtain ⟨h0, h1, hB, b0⟩ := h
  exact ⟨h0, h1, bdrewN hB k, b0⟩
theorem bx_bel {w : World} {p q : Int} {w1 : World} (h : BX w p q w1) : Below w.heap.size w w1 := by
  obtain ⟨h0, h1, hB, b0⟩ := h
  exact hB
theorem bx_below {w : World} {p q : Int} {w1 w2 : World} (h : BX w p q w1) (hb : Below w1.heap.size w1 w2) : BX w p q w2 := by
  obtain ⟨h0, h1, hB, b0⟩ := h
  exact ⟨(hb.cell (p := ⟨w.heap.size, 0, none⟩) b0).trans h0, (hb.cell (p := ⟨w.heap.size, 1, none⟩) b0).trans h1, bstep hB hb, Nat.lt_of_lt_of_le b0 hb.size⟩
theorem bx_new (w : World) (p q : Int) : BX w p q (w.alloc (rtc (p, q))) := ⟨by go_simp, by go_simp, balloc (Below.refl _ _) _, by simp⟩
theorem bndB_4 {p q : Int} (h1 : inr q 1 1000 = true) (h2 : inr p 0 1000000 = true) : bndB p q = decide (ratq p q = (p, q)) := by
  rw [bndB_3 h1 h2]
  have q1 := inr_iff.1 h1
  simp only [rat_self q1.1]
end Go.Proofs.Ytllonfaogbdbnaa
