/-
  The law SpanTotals, at lists of valid spans.
-/
import Derived.Test.YthmlhpjhoolflaaTotalsW
namespace Go.Proofs.Ythmlhpjhoolflaa
open Go.ChangeShapes Go.WideShapes Go.RowKit

set_option maxRecDepth 100000 in
set_option maxHeartbeats 4000000 in
theorem totals_ok (b off m cap : Nat) (l h : Nat → Int) (w : World) (r : Row w b off (m + 1) l h) (v : Hid (∀ k, k < m + 1 → Sp.vldB (l k) (h k) = true)) (T1 : Hid (TotC 75 (some ⟨b, off, none⟩) (m + 1) cap (sm l (m + 1)) (sm h (m + 1)) 0 w)) (T2 : Hid (TotC 76 (some ⟨b, off, none⟩) (m + 1) cap (sm l (m + 1)) (sm h (m + 1)) 0 w)) (M : Hid (m + 1 ≤ 20000)) (S1 : Hid (Sm (sm l (m + 1)) ((m + 1 : Nat) : Int))) (S2 : Hid (Sm (sm h (m + 1)) ((m + 1 : Nat) : Int))) (z : (meanR (sm l (m + 1)) (sm h (m + 1)) 0 (m + 1)).2 = 0) :
    Calls Try.prog 9 #[.slice (some ⟨b, off, none⟩) (m + 1) cap] w fun e w' => e = .returned (.bool true) ∧ Below w.heap.size w w' := by
  have z1 : ((meanR (sm l (m + 1)) (sm h (m + 1)) 0 (m + 1)).2 != 0) = false := by rw [z]; rfl
  have C := Lib.hid (fun W => encl_yes (HL l m) (HH h m) (meanR (sm l (m + 1)) (sm h (m + 1)) 0 (m + 1)).1.1 (meanR (sm l (m + 1)) (sm h (m + 1)) 0 (m + 1)).1.2 W (mean_in z).1 (mean_in z).2)
  have hm' : (m : Int) ≤ 19999 := by have := M.out; omega
  have hb1 : b < w.heap.size := r.1
  have R := Lib.hid r
  clear r z
  go_enter Try.func9, Try.ntmps9
  go_wp2_with fail
  refine (sum_any _ _ _ _ _ _ w _ T1 (by (repeat' (first | exact Below.refl _ _ | refine Below.setCell ?_ (by simp <;> omega) _ | refine balloc ?_ _ | refine Below.drew ?_ | refine bdrewN ?_ _)))).mono ?_
  rintro e w1 ⟨rfl, hb1⟩
  go_wp2_with fail
  refine (rsum_any _ _ _ _ _ _ w _ T2 (by (repeat' (first | exact Below.refl _ _ | refine bstep ?_ hb1 | refine Below.setCell ?_ (by simp <;> omega) _ | refine balloc ?_ _ | refine Below.drew ?_ | refine bdrewN ?_ _)))).mono ?_
  rintro e w2 ⟨rfl, hb2⟩
  have p2_0 := pair_below (pair_new _ (sumR (sm l (m + 1)) (sm h (m + 1)) 0).1.1 (sumR (sm l (m + 1)) (sm h (m + 1)) 0).1.2 _) hb2
  have c2_0 := p2_0.1
  have d2_0 := p2_0.2.1
  have s2_0 := p2_0.2.2.2.2
  go_wp2_with fail
  refine (mean_any _ _ _ _ _ _ w _ T1 (by (repeat' (first | exact Below.refl _ _ | refine bstep ?_ hb1 | refine bstep ?_ hb2 | refine Below.setCell ?_ (by simp <;> omega) _ | refine balloc ?_ _ | refine Below.drew ?_ | refine bdrewN ?_ _))) M.out S1 S2).mono ?_
  rintro e w3 ⟨rfl, hb3⟩
  have p3_0 := pair_below (pair_alloc p2_0 _) hb3
  have p3_1 := pair_below (pair_new _ (sumR (sm l (m + 1)) (sm h (m + 1)) 0).1.1 (sumR (sm l (m + 1)) (sm h (m + 1)) 0).1.2 _) hb3
  clear c2_0 d2_0 s2_0 p2_0
  have c3_0 := p3_0.1
  have d3_0 := p3_0.2.1
  have s3_0 := p3_0.2.2.2.2
  have c3_1 := p3_1.1
  have d3_1 := p3_1.2.1
  have s3_1 := p3_1.2.2.2.2
  go_wp2_with fail
  refine (rmean_any _ _ _ _ _ _ w _ T2 (by (repeat' (first | exact Below.refl _ _ | refine bstep ?_ hb1 | refine bstep ?_ hb2 | refine bstep ?_ hb3 | refine Below.setCell ?_ (by simp <;> omega) _ | refine balloc ?_ _ | refine Below.drew ?_ | refine bdrewN ?_ _))) M.out S1 S2).mono ?_
  rintro e w4 ⟨rfl, hb4⟩
  have p4_0 := pair_below (pair_alloc p3_0 _) hb4
  have p4_1 := pair_below (pair_alloc p3_1 _) hb4
  have p4_2 := pair_below (pair_new _ (meanR (sm l (m + 1)) (sm h (m + 1)) 0 (m + 1)).1.1 (meanR (sm l (m + 1)) (sm h (m + 1)) 0 (m + 1)).1.2 _) hb4
  clear c3_0 d3_0 s3_0 c3_1 d3_1 s3_1 p3_0 p3_1
  have c4_0 := p4_0.1
  have d4_0 := p4_0.2.1
  have s4_0 := p4_0.2.2.2.2
  have c4_1 := p4_1.1
  have d4_1 := p4_1.2.1
  have s4_1 := p4_1.2.2.2.2
  have c4_2 := p4_2.1
  have d4_2 := p4_2.2.1
  have s4_2 := p4_2.2.2.2.2
  have B4 : Below w.heap.size w w4 := by (repeat' (first | exact Below.refl _ _ | refine bstep ?_ hb1 | refine bstep ?_ hb2 | refine bstep ?_ hb3 | refine bstep ?_ hb4 | refine Below.setCell ?_ (by simp <;> omega) _ | refine balloc ?_ _ | refine Below.drew ?_ | refine bdrewN ?_ _))
  have r4 := row_below R.out B4
  have c0 := r4.2 0 (by omega)
  simp only [Nat.zero_mul, Nat.add_zero] at c0
  obtain ⟨c01, c02⟩ := c0
  have r45 := r4.1
  have PU := p4_2
  clear r4
  have U0 : w.heap.size ≤ w4.heap.size := B4.size
  go_wp2
  go_loopw [12] (fun iv wr => ∃ k : Nat, k ≤ m ∧ iv = .int .i64 ((k : Int) + 1) ∧ Pair wr (w4.heap.size + 1) (HL l k) (HH h k) ∧ Pair wr w3.heap.size (meanR (sm l (m + 1)) (sm h (m + 1)) 0 (m + 1)).1.1 (meanR (sm l (m + 1)) (sm h (m + 1)) 0 (m + 1)).1.2 ∧ Below w.heap.size w wr) (fun iv _ => m + 1 - (intOf iv).toNat)
  case atStart => exact ⟨0, Nat.zero_le _, rfl, ⟨by go_simp; rfl, by go_simp; rfl, by go_simp, by go_simp, by simp⟩, pair_alloc (pair_alloc PU _) _, balloc (balloc B4 _) _⟩
  case round =>
    obtain ⟨k, hk, rfl, PH, PU, B⟩ := hrel
    have nU : w3.heap.size ≠ w4.heap.size + 1 := by have := s4_2; omega
    clear c01 c02 r45
    by_cases hlt : k < m
    · have RB := row_below R.out B
      have ck := RB.2 (k + 1) (by omega)
      obtain ⟨c1, c2⟩ := ck
      have h1 := PH.1
      have h2 := PH.2.1
      have hs := PH.2.2.2.2
      have rs := RB.1
      have vv := Lib.hid (H_vld (l := l) (h := h) (k := k) (fun i hi => v.out i (by omega)))
      have vk := Lib.hid (v.out (k + 1) (by omega))
      have hk0 : (0 : Int) ≤ (k : Int) + 1 := by omega
      have hk1 : (k : Int) + 1 < ((m + 1 : Nat) : Int) := by omega
      have hk2 : (k : Int) + 1 < (m : Int) + 1 := by omega
      have hk3 : k + 1 < m + 1 := by omega
      have m1 : ¬ w4.heap.size + 1 = wr.heap.size := by omega
      have m2 : ¬ wr.heap.size = w4.heap.size + 1 := by omega
      have m3 : ¬ b = wr.heap.size := by omega
      have m4 : ¬ wr.heap.size = b := by omega
      have m5 : w3.heap.size ≠ wr.heap.size := by have := PU.2.2.2.2; omega
      have gw : w.heap.size ≤ wr.heap.size := B.size
      go_wp2_with fail
      go_region_held3 (fun w' => w'.cell? ⟨w4.heap.size + 1, 0, none⟩ = some (.int .i64 (HL l k)) ∧ w'.cell? ⟨w4.heap.size + 1, 1, none⟩ = some (.int .i64 (HH h k)) ∧ w'.cell? ⟨b, off + (k + 1) * 2, none⟩ = some (.int .i64 (l (k + 1))) ∧ w'.cell? ⟨b, off + (k + 1) * 2 + 1, none⟩ = some (.int .i64 (h (k + 1))))
        (first | go_keep)
        (first | (go_at_call 42; (refine (hull_yes _ _ _ _ _ vv.out vk.out).mono ?_; rintro e y ⟨rfl, hv⟩; first | (refine held_k1 PH PU RB hk3 hv ?_; rintro ⟨qh, qu, qr, t1, t2, t3, t4⟩) | (refine held_k2 PH PU RB hk3 hv ?_; rintro ⟨qh, qu, qr, t1, t2, t3, t4, ⟨i1, i2, i3, i4, i5⟩⟩))))
      all_goals
        have qh' := qh
        obtain ⟨_, _, f1, f2, f5⟩ := qh'
        go_wp2
        go_roundw
        case rel =>
          refine ⟨k + 1, by omega, by go_num, ?_, ?_, ?_⟩
          · show Pair _ _ (Sp.mn (HL l k) (l (k + 1))) (Sp.mx (HH h k) (h (k + 1)))
            first
              | (with_reducible refine pair_alloc ?_ _; with_reducible exact pair_set' qh _ _)
              | (with_reducible refine pair_set' (x := HL l k) (y := HH h k) ?_ _ _; with_reducible refine pair_far' ?_ m1 _ _; exact qh)
          · first
              | (with_reducible refine pair_alloc ?_ _; with_reducible exact pair_far' qu nU _ _)
              | (with_reducible refine pair_far' ?_ nU _ _; with_reducible refine pair_far' ?_ m5 _ _; exact qu)
          · (repeat' (first | exact B | refine bstep ?_ hv | refine Below.setCell ?_ (by simp <;> omega) _ | refine balloc ?_ _ | refine Below.drew ?_))
        case measure => simp [intOf]; omega
    · obtain rfl : k = m := by omega
      have h1 := PH.1
      have h2 := PH.2.1
      have u1 := PU.1
      have u2 := PU.2.1
      have hge : ¬ ((k : Int) + 1 < (k : Int) + 1) := by omega
      have hge2 : ¬ ((k : Int) + 1 < ((k + 1 : Nat) : Int)) := by omega
      go_wp2_with fail
      refine (C.out _).mono ?_
      rintro e y ⟨rfl, hv⟩
      go_wp2_with fail
      refine (known_any _).mono ?_
      rintro e y2 ⟨rfl, hv2⟩
      go_wp2
      go_ret
      exact ⟨rfl, bstep (bstep B hv) hv2⟩

end Go.Proofs.Ythmlhpjhoolflaa
