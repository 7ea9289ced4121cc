/-
  The contracts of isBound and above, and of the document's IsBound and AtMost.
-/
import Derived.Test.YtefmlcojbfiehaaCr26
import Derived.Laws.Bits64b
namespace Go.Proofs.Ytefmlcojbfiehaa
open Go.ChangeShapes Go.WideShapes Go.RowKit
open Cr
/-- is the fraction a bound? -/
def bndB (p q : Int) : Bool := inr q 1 1000 && inr p 0 1000000 && decide (gI p q = 1)
theorem rat_self {p q : Int} (hq : 1 ≤ q) : ratq p q = (p, q) ↔ gI p q = 1 := by
  rw [ratq_pos (by omega : ¬ q < 0)]
  have g1 := gI_pos (n := p) (d := q) (by omega)
  constructor
  · intro h
    have h2 : q.tdiv (gI p q) = q := (Prod.mk.inj h).2
    rw [Int.tdiv_eq_ediv_of_nonneg (by omega)] at h2
    rcases Int.lt_or_le 1 (gI p q) with hlt | hge
    · exfalso
      have := Int.ediv_lt_self_of_pos_of_ne_one (x := q) (y := gI p q) (by omega) (by omega)
      omega
    · omega
  · intro h
    rw [h, Int.tdiv_one, Int.tdiv_one]
/-- is the one fraction above the other? -/
def abvB (a b : Int × Int) : Bool := decide (b.1 * a.2 < a.1 * b.2)
theorem bndB_1 {p q : Int} (h : inr q 1 1000 = false) : bndB p q = false := by unfold bndB; rw [h]; rfl
theorem bndB_2 {p q : Int} (h : inr p 0 1000000 = false) : bndB p q = false := by unfold bndB; rw [h]; simp
theorem bndB_3 {p q : Int} (h1 : inr q 1 1000 = true) (h2 : inr p 0 1000000 = true) : bndB p q = decide (gI p q = 1) := by unfold bndB; rw [h1, h2]; rfl
set_option maxHeartbeats 1000000 in
theorem isb_any (p q : Int) (w : World) : Calls Try.prog 75 #[rtv (p, q)] w fun e w' => e = .returned (.bool (bndB p q)) ∧ Below w.heap.size w w' := by
  have B0 := Lib.hid (show Below w.heap.size w (w.alloc (rtc (p, q))) from balloc (Below.refl _ _) _)
  cases h1 : inr q 1 1000 with
  | false =>
    have C1 := Lib.hid (fun W => (h1 ▸ inrange_any q 1 1000 W : Calls Try.prog 57 #[.int .i64 q, .int .i64 1, .int .i64 1000] W fun e w' => e = .returned (.bool false) ∧ W = w'))
    rw [bndB_1 h1]
    clear h1
    go_enter Try.func75, Try.ntmps75
    go_wp2_with fail
    with_reducible refine (C1.out _).mono ?_
    rintro e w2 ⟨rfl, rfl⟩
    go_wp2_with fail
    go_ret
    exact ⟨rfl, B0.out⟩
  | true =>
    have C1 := Lib.hid (fun W => (h1 ▸ inrange_any q 1 1000 W : Calls Try.prog 57 #[.int .i64 q, .int .i64 1, .int .i64 1000] W fun e w' => e = .returned (.bool true) ∧ W = w'))
    cases h2 : inr p 0 1000000 with
    | false =>
      have C2 := Lib.hid (fun W => (h2 ▸ inrange_any p 0 1000000 W : Calls Try.prog 57 #[.int .i64 p, .int .i64 0, .int .i64 1000000] W fun e w' => e = .returned (.bool false) ∧ W = w'))
      rw [bndB_2 h2]
      clear h1 h2
      go_enter Try.func75, Try.ntmps75
      go_wp2_with fail
      with_reducible refine (C1.out _).mono ?_
      rintro e w2 ⟨rfl, rfl⟩
      go_wp2_with fail
      with_reducible refine (C2.out _).mono ?_
      rintro e w2 ⟨rfl, rfl⟩
      go_wp2_with fail
      go_ret
      exact ⟨rfl, B0.out⟩
    | true =>
      have C2 := Lib.hid (fun W => (h2 ▸ inrange_any p 0 1000000 W : Calls Try.prog 57 #[.int .i64 p, .int .i64 0, .int .i64 1000000] W fun e w' => e = .returned (.bool true) ∧ W = w'))
      rw [bndB_3 h1 h2]
      have q1 := inr_iff.1 h1
      have p1 := inr_iff.1 h2
      have CD := Lib.hid (fun W => cd_any p q W (by omega) (by omega) (by omega) (by omega))
      clear h1 h2 q1 p1
      generalize gI p q = x at *
      by_cases hx : x = 1
      · have e : decide (x = 1) = true := by simp [hx]
        rw [e]
        subst hx
        clear e
        go_enter Try.func75, Try.ntmps75
        go_wp2_with fail
        with_reducible refine (C1.out _).mono ?_
        rintro e w2 ⟨rfl, rfl⟩
        go_wp2_with fail
        with_reducible refine (C2.out _).mono ?_
        rintro e w2 ⟨rfl, rfl⟩
        go_wp2_with fail
        with_reducible refine (CD.out _).mono ?_
        rintro e w3 ⟨rfl, hb⟩
        have HB := Lib.hid (bstep B0.out hb)
        clear hb
        go_wp2_with fail
        go_ret
        exact ⟨rfl, HB.out⟩
      · have e : decide (x = 1) = false := by simp [hx]
        rw [e]
        have t1 : (x == 1) = false := by simp [hx]
        clear e hx
        go_enter Try.func75, Try.ntmps75
        go_wp2_with fail
        with_reducible refine (C1.out _).mono ?_
        rintro e w2 ⟨rfl, rfl⟩
        go_wp2_with fail
        with_reducible refine (C2.out _).mono ?_
        rintro e w2 ⟨rfl, rfl⟩
        go_wp2_with fail
        with_reducible refine (CD.out _).mono ?_
        rintro e w3 ⟨rfl, hb⟩
        have HB := Lib.hid (bstep B0.out hb)
        clear hb
        go_wp2_with fail
        go_ret
        exact ⟨rfl, HB.out⟩
theorem above_any (a b : Int × Int) (w : World) (h1 : -9000000000000000000 ≤ a.1 * b.2) (h2 : a.1 * b.2 ≤ 9000000000000000000) (h3 : -9000000000000000000 ≤ b.1 * a.2) (h4 : b.1 * a.2 ≤ 9000000000000000000) : Calls Try.prog 76 #[rtv a, rtv b] w fun e w' => e = .returned (.bool (abvB a b)) ∧ Below w.heap.size w w' := by
  obtain ⟨a1, a2⟩ := a
  obtain ⟨b1, b2⟩ := b
  have h1 : -9000000000000000000 ≤ a1 * b2 := h1
  have h2 : a1 * b2 ≤ 9000000000000000000 := h2
  have h3 : -9000000000000000000 ≤ b1 * a2 := h3
  have h4 : b1 * a2 ≤ 9000000000000000000 := h4
  have e0 : abvB (a1, a2) (b1, b2) = decide (b1 * a2 < a1 * b2) := rfl
  rw [e0]
  clear e0
  by_cases c : b1 * a2 < a1 * b2
  · have e : decide (b1 * a2 < a1 * b2) = true := by simpa using c
    rw [e]
    clear e
    go_enter Try.func76, Try.ntmps76
    go_wp2
    go_ret
    exact ⟨rfl, balloc (balloc (Below.refl _ _) _) _⟩
  · have e : decide (b1 * a2 < a1 * b2) = false := by simpa using c
    rw [e]
    clear e
    go_enter Try.func76, Try.ntmps76
    go_wp2
    go_ret
    exact ⟨rfl, balloc (balloc (Below.refl _ _) _) _⟩
def BX (w : World) (p q : Int) (w1 : World) : Prop := w1.cell? ⟨w.heap.size, 0, none⟩ = some (.int .i64 p) ∧ w1.cell? ⟨w.heap.size, 1, none⟩ = some (.int .i64 q) ∧ Below w.heap.size w w1 ∧ w.heap.size < w1.heap.size
theorem bx_s {w : World} {p q : Int} {w1 : World} (h : BX w p q w1) : w1.cell? ⟨w.heap.size, 0, none⟩ = some (.int .i64 p) ∧ w1.cell? ⟨w.heap.size, 1, none⟩ = some (.int .i64 q) ∧ Below w.heap.size w w1 ∧ w.heap.size < w1.heap.size := h
theorem bx_of {w : World} {p q : Int} {w1 : World} (h : w1.cell? ⟨w.heap.size, 0, none⟩ = some (.int .i64 p) ∧ w1.cell? ⟨w.heap.size, 1, none⟩ = some (.int .i64 q) ∧ Below w.heap.size w w1 ∧ w.heap.size < w1.heap.size) : BX w p q w1 := h
theorem bx_drew {w : World} {p q : Int} {w1 : World} (h : BX w p q w1) : BX w p q w1.drew := by
  obtain ⟨h0, h1, hB, b0⟩ := h
  exact ⟨h0, h1, Below.drew hB, b0⟩
theorem bx_drewN {w : World} {p q : Int} {w1 : World} (h : BX w p q w1) (k : Nat) : BX w p q (w1.drewN k) := by
  obtain ⟨h0, h1, hB, b0⟩ := h
  exact ⟨h0, h1, bdrewN hB k, b0⟩
theorem bx_bel {w : World} {p q : Int} {w1 : World} (h : BX w p q w1) : Below w.heap.size w w1 := by
  obtain ⟨h0, h1, hB, b0⟩ := h
  exact hB
theorem bx_below {w : World} {p q : Int} {w1 w2 : World} (h : BX w p q w1) (hb : Below w1.heap.size w1 w2) : BX w p q w2 := by
  obtain ⟨h0, h1, hB, b0⟩ := h
  exact ⟨(hb.cell (p := ⟨w.heap.size, 0, none⟩) b0).trans h0, (hb.cell (p := ⟨w.heap.size, 1, none⟩) b0).trans h1, bstep hB hb, Nat.lt_of_lt_of_le b0 hb.size⟩
theorem bx_new (w : World) (p q : Int) : BX w p q (w.alloc (rtc (p, q))) := ⟨by go_simp, by go_simp, balloc (Below.refl _ _) _, by simp⟩
theorem bndB_4 {p q : Int} (h1 : inr q 1 1000 = true) (h2 : inr p 0 1000000 = true) : bndB p q = decide (ratq p q = (p, q)) := by
  rw [bndB_3 h1 h2]
  have q1 := inr_iff.1 h1
  simp only [rat_self q1.1]
set_option maxHeartbeats 1000000 in
theorem risb_any (p q : Int) (w : World) : Calls Try.prog 77 #[rtv (p, q)] w fun e w' => e = .returned (.bool (bndB p q)) ∧ Below w.heap.size w w' := by
  have X0 := Lib.hid (bx_new w p q)
  cases h1 : inr q 1 1000 with
  | false =>
    have C1 := Lib.hid (fun W => (h1 ▸ within6_any q 1 1000 W : Calls Try.prog 59 #[.int .i64 q, .int .i64 1, .int .i64 1000] W fun e w' => e = .returned (.bool false) ∧ W = w'))
    rw [bndB_1 h1]
    clear h1
    go_enter Try.func77, Try.ntmps77
    obtain ⟨x0, x1, _, x2⟩ := bx_s X0.out
    go_wp2_with fail
    go_quiet ((go_at_call 59; exact quiet_pure (C1.out _)))
    go_wp2_with fail
    go_ret
    exact ⟨rfl, bdrewN (bx_bel X0.out) _⟩
  | true =>
    have C1 := Lib.hid (fun W => (h1 ▸ within6_any q 1 1000 W : Calls Try.prog 59 #[.int .i64 q, .int .i64 1, .int .i64 1000] W fun e w' => e = .returned (.bool true) ∧ W = w'))
    cases h2 : inr p 0 1000000 with
    | false =>
      have C2 := Lib.hid (fun W => (h2 ▸ within6_any p 0 1000000 W : Calls Try.prog 59 #[.int .i64 p, .int .i64 0, .int .i64 1000000] W fun e w' => e = .returned (.bool false) ∧ W = w'))
      rw [bndB_2 h2]
      clear h1 h2
      go_enter Try.func77, Try.ntmps77
      obtain ⟨x0, x1, _, x2⟩ := bx_s X0.out
      go_wp2_with fail
      go_quiet ((go_at_call 59; (first | with_reducible exact quiet_pure (C1.out _) | with_reducible exact quiet_pure (C2.out _))))
      go_wp2_with fail
      go_ret
      exact ⟨rfl, bdrewN (bx_bel X0.out) _⟩
    | true =>
      have C2 := Lib.hid (fun W => (h2 ▸ within6_any p 0 1000000 W : Calls Try.prog 59 #[.int .i64 p, .int .i64 0, .int .i64 1000000] W fun e w' => e = .returned (.bool true) ∧ W = w'))
      rw [bndB_4 h1 h2]
      have q1 := inr_iff.1 h1
      have p1 := inr_iff.1 h2
      have QU := Lib.hid (fun W => ratio_any p q W (by omega) (by omega) (by omega) (by omega) (by omega))
      clear h1 h2 q1 p1
      generalize ratq p q = rr at *
      obtain ⟨r1, r2⟩ := rr
      by_cases hx : r1 = p
      · have hx := hx.symm
        subst hx
        by_cases hy : r2 = q
        · have hy := hy.symm
          subst hy
          have e : decide ((p, q) = (p, q)) = true := by simp
          rw [e]
          clear e
          go_enter Try.func77, Try.ntmps77
          go_wp2_with fail
          generalize (w.alloc (rtc (p, q))) = W0 at *
          go_region_held3 (fun w' => w'.cell? ⟨w.heap.size, 0, none⟩ = some (.int .i64 p) ∧ w'.cell? ⟨w.heap.size, 1, none⟩ = some (.int .i64 q) ∧ Below w.heap.size w w' ∧ w.heap.size < w'.heap.size)
            (first | with_reducible exact bx_s (bx_drew X0.out) | with_reducible exact bx_s S1.out | with_reducible assumption | fail)
            (first | (go_at_call 59; (with_reducible refine (C1.out _).mono ?_); rintro e w2 ⟨rfl, rfl⟩) | (go_at_call 59; (with_reducible refine (C2.out _).mono ?_); rintro e w2 ⟨rfl, rfl⟩) | (go_at_call 69; (with_reducible refine (QU.out _).mono ?_); rintro e w3 ⟨rfl, hb⟩; have S1 := Lib.hid (bx_below (bx_of (by assumption)) hb); clear hb) | fail)
          all_goals
            go_wp2_with fail
            go_ret
            exact ⟨rfl, bx_bel S1.out⟩
        · have e : decide ((p, r2) = (p, q)) = false := by simp [hy]
          rw [e]
          clear e
          go_enter Try.func77, Try.ntmps77
          go_wp2_with fail
          generalize (w.alloc (rtc (p, q))) = W0 at *
          go_region_held3 (fun w' => w'.cell? ⟨w.heap.size, 0, none⟩ = some (.int .i64 p) ∧ w'.cell? ⟨w.heap.size, 1, none⟩ = some (.int .i64 q) ∧ Below w.heap.size w w' ∧ w.heap.size < w'.heap.size)
            (first | with_reducible exact bx_s (bx_drew X0.out) | with_reducible exact bx_s S1.out | with_reducible assumption | fail)
            (first | (go_at_call 59; (with_reducible refine (C1.out _).mono ?_); rintro e w2 ⟨rfl, rfl⟩) | (go_at_call 59; (with_reducible refine (C2.out _).mono ?_); rintro e w2 ⟨rfl, rfl⟩) | (go_at_call 69; (with_reducible refine (QU.out _).mono ?_); rintro e w3 ⟨rfl, hb⟩; have S1 := Lib.hid (bx_below (bx_of (by assumption)) hb); clear hb) | fail)
          all_goals
            go_wp2_with fail
            go_ret
            exact ⟨rfl, bx_bel S1.out⟩
      · have e : decide ((r1, r2) = (p, q)) = false := by simp [hx]
        rw [e]
        clear e
        go_enter Try.func77, Try.ntmps77
        go_wp2_with fail
        generalize (w.alloc (rtc (p, q))) = W0 at *
        go_region_held3 (fun w' => w'.cell? ⟨w.heap.size, 0, none⟩ = some (.int .i64 p) ∧ w'.cell? ⟨w.heap.size, 1, none⟩ = some (.int .i64 q) ∧ Below w.heap.size w w' ∧ w.heap.size < w'.heap.size)
          (first | with_reducible exact bx_s (bx_drew X0.out) | with_reducible exact bx_s S1.out | with_reducible assumption | fail)
          (first | (go_at_call 59; (with_reducible refine (C1.out _).mono ?_); rintro e w2 ⟨rfl, rfl⟩) | (go_at_call 59; (with_reducible refine (C2.out _).mono ?_); rintro e w2 ⟨rfl, rfl⟩) | (go_at_call 69; (with_reducible refine (QU.out _).mono ?_); rintro e w3 ⟨rfl, hb⟩; have S1 := Lib.hid (bx_below (bx_of (by assumption)) hb); clear hb) | fail)
        all_goals
          go_wp2_with fail
          go_ret
          exact ⟨rfl, bx_bel S1.out⟩
theorem m64 (x y : Nat) (hx : x < 18446744073709551616) (hy : y < 18446744073709551616) (h : x * y < 18446744073709551616) (w : World) :
    Calls Try.prog 87 #[.int .u64 x, .int .u64 y] w fun e w' => e = .returned (.tuple #[.int .u64 0, .int .u64 ((x * y : Nat) : Int)]) ∧ w = w' := by
  refine (Try.bits_Mul64 x y hx hy w).mono fun e w' ⟨he, hw⟩ => ⟨?_, hw.symm⟩
  rw [he, Nat.div_eq_of_lt h, Nat.mod_eq_of_lt h]
  rfl
theorem atm_any (x y u v : Nat) (w : World) (hx : x ≤ 9000000000000000000) (hy : y ≤ 9000000000000000000) (hu : u ≤ 9000000000000000000) (hv : v ≤ 9000000000000000000) (h1 : x * v ≤ 9000000000000000000) (h2 : u * y ≤ 9000000000000000000) :
    Calls Try.prog 50 #[rtv ((x : Int), (y : Int)), rtv ((u : Int), (v : Int))] w fun e w' => e = .returned (.bool (!abvB ((x : Int), (y : Int)) ((u : Int), (v : Int)))) ∧ Below w.heap.size w w' := by
  have M1 := Lib.hid (fun W => m64 x v (by omega) (by omega) (by omega) W)
  have M2 := Lib.hid (fun W => m64 u y (by omega) (by omega) (by omega) W)
  have e0 : (!abvB ((x : Int), (y : Int)) ((u : Int), (v : Int))) = decide (x * v ≤ u * y) := by
    unfold abvB
    rw [Bool.eq_iff_iff]
    simp only [Bool.not_eq_true', decide_eq_false_iff_not, decide_eq_true_eq, Int.not_lt]
    rw [← Int.natCast_mul, ← Int.natCast_mul]
    omega
  rw [e0]
  clear e0
  have x1 : (x : Int) ≤ 9000000000000000000 := by omega
  have y1 : (y : Int) ≤ 9000000000000000000 := by omega
  have u1 : (u : Int) ≤ 9000000000000000000 := by omega
  have v1 : (v : Int) ≤ 9000000000000000000 := by omega
  have x0 : 0 ≤ (x : Int) := by omega
  have y0 : 0 ≤ (y : Int) := by omega
  have u0 : 0 ≤ (u : Int) := by omega
  have v0 : 0 ≤ (v : Int) := by omega
  clear hx hy hu hv h1 h2
  generalize x * v = a at *
  generalize u * y = b at *
  have B0 := Lib.hid (show Below w.heap.size w ((w.alloc (rtc ((x : Int), (y : Int)))).alloc (rtc ((u : Int), (v : Int)))) from balloc (balloc (Below.refl _ _) _) _)
  go_enter Try.func50, Try.ntmps50
  go_wp2_with fail
  with_reducible refine (M1.out _).mono ?_
  rintro e w2 ⟨rfl, rfl⟩
  go_wp2_with fail
  with_reducible refine (M2.out _).mono ?_
  rintro e w3 ⟨rfl, rfl⟩
  go_wp2_with fail
  go_ret
  exact ⟨rfl, B0.out⟩

end Go.Proofs.Ytefmlcojbfiehaa
