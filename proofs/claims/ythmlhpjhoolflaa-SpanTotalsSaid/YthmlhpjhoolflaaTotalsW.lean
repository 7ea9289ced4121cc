/-
  The law SpanTotals: for every list it answers true.
-/
import Derived.Test.YthmlhpjhoolflaaKnown
import Derived.Test.YthmlhpjhoolflaaMeet
import Derived.Test.YthmlhpjhoolflaaSumm
import Derived.Test.YthmlhpjhoolflaaNumDiv
import Derived.Deep.RegionHeld3
namespace Go.Proofs.Ythmlhpjhoolflaa
open Go.ChangeShapes Go.WideShapes Go.RowKit
theorem pair_set' {w : World} {b : Nat} {x y : Int} (h : Pair w b x y) (u v : Int) : Pair ((w.setCell ⟨b, 0, none⟩ (.int .i64 u)).setCell ⟨b, 1, none⟩ (.int .i64 v)) b u v := by
  obtain ⟨h1, h2, h3, h4, h5⟩ := h
  exact ⟨by go_simp, by go_simp, by go_simp, by go_simp, by simpa using h5⟩
theorem pair_far' {w : World} {b c : Nat} {x y : Int} (h : Pair w b x y) (n : b ≠ c) (u v : Value) : Pair ((w.setCell ⟨c, 0, none⟩ u).setCell ⟨c, 1, none⟩ v) b x y := by
  obtain ⟨h1, h2, h3, h4, h5⟩ := h
  have n' : c ≠ b := n.symm
  exact ⟨by go_simp, by go_simp, by go_simp, by go_simp, by simpa using h5⟩
theorem pair_drew3 {w : World} {b : Nat} {x y : Int} (h : Pair w b x y) : Pair w.drew b x y := h
theorem row_drew3 {w : World} {b off n : Nat} {l h : Nat → Int} (r : Row w b off n l h) : Row w.drew b off n l h := r
theorem held_keep {wr y : World} {b1 b2 b off n k : Nat} {x1 y1 x2 y2 : Int} {l h : Nat → Int} (p : Pair wr b1 x1 y1) (q : Pair wr b2 x2 y2) (r : Row wr b off n l h) (hk : k < n) (hv : Below wr.drew.heap.size wr.drew y) :
    Pair y b1 x1 y1 ∧ Pair y b2 x2 y2 ∧ Row y b off n l h ∧ y.cell? ⟨b1, 0, none⟩ = some (.int .i64 x1) ∧ y.cell? ⟨b1, 1, none⟩ = some (.int .i64 y1) ∧ y.cell? ⟨b, off + k * 2, none⟩ = some (.int .i64 (l k)) ∧ y.cell? ⟨b, off + k * 2 + 1, none⟩ = some (.int .i64 (h k)) := by
  have qh := pair_below (pair_drew3 p) hv
  have qr := row_below (row_drew3 r) hv
  exact ⟨qh, pair_below (pair_drew3 q) hv, qr, qh.1, qh.2.1, (qr.2 k hk).1, (qr.2 k hk).2⟩
theorem held_keep2 {wr y : World} {b1 b2 b off n k : Nat} {x1 y1 x2 y2 : Int} {l h : Nat → Int} {t : TypeId} (p : Pair wr b1 x1 y1) (q : Pair wr b2 x2 y2) (r : Row wr b off n l h) (hk : k < n) (hv : Below (wr.alloc (.cells #[.int .i64 0, .int .i64 0] t)).drew.heap.size (wr.alloc (.cells #[.int .i64 0, .int .i64 0] t)).drew y) :
    Pair y b1 x1 y1 ∧ Pair y b2 x2 y2 ∧ Row y b off n l h ∧ y.cell? ⟨b1, 0, none⟩ = some (.int .i64 x1) ∧ y.cell? ⟨b1, 1, none⟩ = some (.int .i64 y1) ∧ y.cell? ⟨b, off + k * 2, none⟩ = some (.int .i64 (l k)) ∧ y.cell? ⟨b, off + k * 2 + 1, none⟩ = some (.int .i64 (h k)) ∧ Pair y wr.heap.size 0 0 := by
  have qh := pair_below (pair_drew3 (pair_alloc p _)) hv
  have qr := row_below (row_drew3 (row_alloc r _)) hv
  exact ⟨qh, pair_below (pair_drew3 (pair_alloc q _)) hv, qr, qh.1, qh.2.1, (qr.2 k hk).1, (qr.2 k hk).2, pair_below (pair_drew3 (pair_new wr 0 0 _)) hv⟩
theorem held_k1 {wr y : World} {b1 b2 b off n k : Nat} {x1 y1 x2 y2 : Int} {l h : Nat → Int} {Q : Prop} (p : Pair wr b1 x1 y1) (q : Pair wr b2 x2 y2) (r : Row wr b off n l h) (hk : k < n) (hv : Below wr.drew.heap.size wr.drew y)
    (K : Pair y b1 x1 y1 ∧ Pair y b2 x2 y2 ∧ Row y b off n l h ∧ y.cell? ⟨b1, 0, none⟩ = some (.int .i64 x1) ∧ y.cell? ⟨b1, 1, none⟩ = some (.int .i64 y1) ∧ y.cell? ⟨b, off + k * 2, none⟩ = some (.int .i64 (l k)) ∧ y.cell? ⟨b, off + k * 2 + 1, none⟩ = some (.int .i64 (h k)) → Q) : Q := K (held_keep p q r hk hv)
theorem held_k2 {wr y : World} {b1 b2 b off n k : Nat} {x1 y1 x2 y2 : Int} {l h : Nat → Int} {t : TypeId} {Q : Prop} (p : Pair wr b1 x1 y1) (q : Pair wr b2 x2 y2) (r : Row wr b off n l h) (hk : k < n) (hv : Below (wr.alloc (.cells #[.int .i64 0, .int .i64 0] t)).drew.heap.size (wr.alloc (.cells #[.int .i64 0, .int .i64 0] t)).drew y)
    (K : Pair y b1 x1 y1 ∧ Pair y b2 x2 y2 ∧ Row y b off n l h ∧ y.cell? ⟨b1, 0, none⟩ = some (.int .i64 x1) ∧ y.cell? ⟨b1, 1, none⟩ = some (.int .i64 y1) ∧ y.cell? ⟨b, off + k * 2, none⟩ = some (.int .i64 (l k)) ∧ y.cell? ⟨b, off + k * 2 + 1, none⟩ = some (.int .i64 (h k)) ∧ Pair y wr.heap.size 0 0 → Q) : Q := K (held_keep2 p q r hk hv)
/-- the hull of the first k + 1 -/
def HL (l : Nat → Int) : Nat → Int
  | 0 => l 0
  | k + 1 => Sp.mn (HL l k) (l (k + 1))
def HH (h : Nat → Int) : Nat → Int
  | 0 => h 0
  | k + 1 => Sp.mx (HH h k) (h (k + 1))
theorem HL_le (l : Nat → Int) (k : Nat) : ∀ i, i ≤ k → HL l k ≤ l i := by
  induction k with
  | zero => intro i hi; obtain rfl : i = 0 := by omega
            exact Int.le_refl _
  | succ k ih =>
    intro i hi
    have e : HL l (k + 1) = Sp.mn (HL l k) (l (k + 1)) := rfl
    rw [e, Sp.mn_eq]
    by_cases c : i = k + 1
    · subst c; omega
    · have := ih i (by omega); omega
theorem HH_ge (h : Nat → Int) (k : Nat) : ∀ i, i ≤ k → h i ≤ HH h k := by
  induction k with
  | zero => intro i hi; obtain rfl : i = 0 := by omega
            exact Int.le_refl _
  | succ k ih =>
    intro i hi
    have e : HH h (k + 1) = Sp.mx (HH h k) (h (k + 1)) := rfl
    rw [e, Sp.mx_eq]
    by_cases c : i = k + 1
    · subst c; omega
    · have := ih i (by omega); omega
theorem H_vld {l h : Nat → Int} {k : Nat} (v : ∀ i, i ≤ k → Sp.vldB (l i) (h i) = true) : Sp.vldB (HL l k) (HH h k) = true := by
  induction k with
  | zero => exact v 0 (by omega)
  | succ k ih =>
    have a := Sp.vld_iff.1 (ih (fun i hi => v i (by omega)))
    have c := Sp.vld_iff.1 (v (k + 1) (by omega))
    have e1 : HL l (k + 1) = Sp.mn (HL l k) (l (k + 1)) := rfl
    have e2 : HH h (k + 1) = Sp.mx (HH h k) (h (k + 1)) := rfl
    rw [Sp.vld_iff, e1, e2, Sp.mn_eq, Sp.mx_eq]; omega
theorem sm_ge {f : Nat → Int} {m : Int} {k : Nat} (h : ∀ i, i < k → m ≤ f i) : (k : Int) * m ≤ sm f k := by
  induction k with
  | zero => simp [sm]
  | succ k ih =>
    have a := ih (fun i hi => h i (by omega))
    have c := h k (by omega)
    show _ ≤ sm f k + f k
    rw [Int.natCast_add, Int.add_mul]; omega
theorem sm_le {f : Nat → Int} {m : Int} {k : Nat} (h : ∀ i, i < k → f i ≤ m) : sm f k ≤ (k : Int) * m := by
  induction k with
  | zero => simp [sm]
  | succ k ih =>
    have a := ih (fun i hi => h i (by omega))
    have c := h k (by omega)
    show sm f k + f k ≤ _
    rw [Int.natCast_add, Int.add_mul]; omega
/-- a mean lies within the hull -/
theorem mean_in {l h : Nat → Int} {k : Nat} (z : (meanR (sm l (k + 1)) (sm h (k + 1)) 0 (k + 1)).2 = 0) :
    HL l k ≤ (meanR (sm l (k + 1)) (sm h (k + 1)) 0 (k + 1)).1.1 ∧ (meanR (sm l (k + 1)) (sm h (k + 1)) 0 (k + 1)).1.2 ≤ HH h k := by
  unfold meanR at *
  rw [if_pos rfl, if_neg (by omega)] at *
  unfold Sp.told at *
  split at z
  · rename_i v
    rw [if_pos v]
    have a := sm_ge (f := l) (m := HL l k) (k := k + 1) (fun i hi => HL_le l k i (by omega))
    have c := sm_le (f := h) (m := HH h k) (k := k + 1) (fun i hi => HH_ge h k i (by omega))
    constructor
    · show _ ≤ Sp.fl _ _
      rw [Sp.fl_pos (by omega), Int.le_ediv_iff_mul_le (by omega), Int.mul_comm]; exact a
    · show Sp.ce _ _ ≤ _
      unfold Sp.ce
      rw [Sp.fl_pos (by omega)]
      have : -(HH h k) ≤ -sm h (k + 1) / ((k + 1 : Nat) : Int) := by
        rw [Int.le_ediv_iff_mul_le (by omega), Int.neg_mul, Int.mul_comm]; omega
      omega
  · exact absurd z (by decide)
theorem totals_long (a : Option Addr) (n cap : Nat) (w : World) (hn : 20000 < n) (hm : n ≤ 9223372036854775807) :
    Calls Try.prog 9 #[.slice a n cap] w fun e w' => e = .returned (.bool true) ∧ Below w.heap.size w w' := by
  have hn' : (20000 : Int) < (n : Int) := by omega
  have hm' : (n : Int) ≤ 9223372036854775807 := by omega
  go_enter Try.func9, Try.ntmps9
  go_wp2_with fail
  refine (known_any _).mono ?_
  rintro e w1 ⟨rfl, hb⟩
  go_wp2
  go_ret
  exact ⟨rfl, hb⟩
theorem totals_e (a : Option Addr) (n cap : Nat) (lo hi er : Int) (w : World) (T1 : Hid (TotC 75 a n cap lo hi er w)) (T2 : Hid (TotC 76 a n cap lo hi er w)) (M : Hid (n ≤ 20000)) (S1 : Hid (Sm lo n)) (S2 : Hid (Sm hi n)) (z : (meanR lo hi er n).2 ≠ 0) :
    Calls Try.prog 9 #[.slice a n cap] w fun e w' => e = .returned (.bool true) ∧ Below w.heap.size w w' := by
  have z1 : ((meanR lo hi er n).2 != 0) = true := bne_iff_ne.2 z
  have hm' : (n : Int) ≤ 20000 := by have := M.out; omega
  clear z
  go_enter Try.func9, Try.ntmps9
  go_wp2_with fail
  refine (sum_any _ _ _ _ _ _ w _ T1 (by (repeat' (first | exact Below.refl _ _ | refine Below.setCell ?_ (by simp <;> omega) _ | refine balloc ?_ _ | refine Below.drew ?_ | refine bdrewN ?_ _)))).mono ?_
  rintro e w1 ⟨rfl, hb1⟩
  go_wp2_with fail
  refine (rsum_any _ _ _ _ _ _ w _ T2 (by (repeat' (first | exact Below.refl _ _ | refine bstep ?_ hb1 | refine Below.setCell ?_ (by simp <;> omega) _ | refine balloc ?_ _ | refine Below.drew ?_ | refine bdrewN ?_ _)))).mono ?_
  rintro e w2 ⟨rfl, hb2⟩
  have p2_0 := pair_below (pair_new _ (sumR lo hi er).1.1 (sumR lo hi er).1.2 _) hb2
  have c2_0 := p2_0.1
  have d2_0 := p2_0.2.1
  have s2_0 := p2_0.2.2.2.2
  go_wp2_with fail
  refine (mean_any _ _ _ _ _ _ w _ T1 (by (repeat' (first | exact Below.refl _ _ | refine bstep ?_ hb1 | refine bstep ?_ hb2 | refine Below.setCell ?_ (by simp <;> omega) _ | refine balloc ?_ _ | refine Below.drew ?_ | refine bdrewN ?_ _))) M.out S1 S2).mono ?_
  rintro e w3 ⟨rfl, hb3⟩
  have p3_0 := pair_below (pair_alloc p2_0 _) hb3
  have p3_1 := pair_below (pair_new _ (sumR lo hi er).1.1 (sumR lo hi er).1.2 _) hb3
  clear c2_0 d2_0 s2_0 p2_0
  have c3_0 := p3_0.1
  have d3_0 := p3_0.2.1
  have s3_0 := p3_0.2.2.2.2
  have c3_1 := p3_1.1
  have d3_1 := p3_1.2.1
  have s3_1 := p3_1.2.2.2.2
  go_wp2_with fail
  refine (rmean_any _ _ _ _ _ _ w _ T2 (by (repeat' (first | exact Below.refl _ _ | refine bstep ?_ hb1 | refine bstep ?_ hb2 | refine bstep ?_ hb3 | refine Below.setCell ?_ (by simp <;> omega) _ | refine balloc ?_ _ | refine Below.drew ?_ | refine bdrewN ?_ _))) M.out S1 S2).mono ?_
  rintro e w4 ⟨rfl, hb4⟩
  have p4_0 := pair_below (pair_alloc p3_0 _) hb4
  have p4_1 := pair_below (pair_alloc p3_1 _) hb4
  have p4_2 := pair_below (pair_new _ (meanR lo hi er n).1.1 (meanR lo hi er n).1.2 _) hb4
  clear c3_0 d3_0 s3_0 c3_1 d3_1 s3_1 p3_0 p3_1
  have c4_0 := p4_0.1
  have d4_0 := p4_0.2.1
  have s4_0 := p4_0.2.2.2.2
  have c4_1 := p4_1.1
  have d4_1 := p4_1.2.1
  have s4_1 := p4_1.2.2.2.2
  have c4_2 := p4_2.1
  have d4_2 := p4_2.2.1
  have s4_2 := p4_2.2.2.2.2
  go_wp2_with fail
  refine (known_any _).mono ?_
  rintro e w5 ⟨rfl, hb5⟩
  have p5_0 := pair_below (pair_alloc p4_0 _) hb5
  have p5_1 := pair_below (pair_alloc p4_1 _) hb5
  have p5_2 := pair_below (pair_alloc p4_2 _) hb5
  have p5_3 := pair_below (pair_new _ (meanR lo hi er n).1.1 (meanR lo hi er n).1.2 _) hb5
  clear c4_0 d4_0 s4_0 c4_1 d4_1 s4_1 c4_2 d4_2 s4_2 p4_0 p4_1 p4_2
  have c5_0 := p5_0.1
  have d5_0 := p5_0.2.1
  have s5_0 := p5_0.2.2.2.2
  have c5_1 := p5_1.1
  have d5_1 := p5_1.2.1
  have s5_1 := p5_1.2.2.2.2
  have c5_2 := p5_2.1
  have d5_2 := p5_2.2.1
  have s5_2 := p5_2.2.2.2.2
  have c5_3 := p5_3.1
  have d5_3 := p5_3.2.1
  have s5_3 := p5_3.2.2.2.2
  go_wp2
  go_ret
  exact ⟨rfl, by (repeat' (first | exact Below.refl _ _ | refine bstep ?_ hb1 | refine bstep ?_ hb2 | refine bstep ?_ hb3 | refine bstep ?_ hb4 | refine bstep ?_ hb5 | refine Below.setCell ?_ (by simp <;> omega) _ | refine balloc ?_ _ | refine Below.drew ?_ | refine bdrewN ?_ _))⟩

end Go.Proofs.Ythmlhpjhoolflaa
