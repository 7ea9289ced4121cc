/-
  The walk of CrossVolumes.
-/
import Derived.Test.YtefmlcojbfiehaaCrS8
namespace Go.Proofs.Ytefmlcojbfiehaa
open Go.ChangeShapes Go.WideShapes Go.RowKit
open Cr
/-- what Largest picks is a choice that has the greatest minor -/
theorem lg_of {w : World} {M : List (List Int)} {k : Int} {rv cv : Value} (hz : zcode M k = 0) (h : LG w M k rv cv) :
    ∃ R cr E ce rows cols, rv = .slice R rows.length cr ∧ cv = .slice E cols.length ce ∧ rows.length ≤ cr ∧ cols.length ≤ ce ∧ IL w R rows ∧ IL w E cols ∧ (vlm M k).1 = absI (detR M rows cols) ∧ (rows.length : Int) = k ∧ rows.length ≤ 6 ∧ cols.length ≤ 6 ∧
      mnr M rows cols = (detR M rows cols, 0) ∧ -504000000000000000 ≤ detR M rows cols ∧ detR M rows cols ≤ 504000000000000000 := by
  obtain ⟨hv, k0, kn⟩ := zcode_of hz
  obtain ⟨n, m, q, n1, n6, m1, m6⟩ := sq_of hv
  obtain rfl : M.length = n := q.len
  obtain rfl : (rw_ M 0).length = m := rw_len q (by omega)
  obtain ⟨s1, s2⟩ := sd_le M.length (rw_ M 0).length
  unfold LG at h
  rw [if_pos hz] at h
  have nn := (gv_0 (M := M) n6 m6 (show k.toNat ≤ M.length by omega) (show k.toNat ≤ (rw_ M 0).length by omega)).2
  rcases h with ⟨e, _, _⟩ | ⟨R, cr, E, ce, rows, cols, h1, h2, h3, h4, h5, h6, h7, h8, h9⟩
  · rw [vlm_0 hz] at e
    have e : gv M M.length (rw_ M 0).length k.toNat (-1) = -1 := e
    omega
  · obtain ⟨r1, r2⟩ := sets_mem n6 h1
    obtain ⟨c1, c2⟩ := sets_mem m6 h2
    have ch : chB M rows cols = true := by unfold chB; rw [r2, c2]; simp [r1, c1]
    have kc : kcode M rows cols = 0 := kcode_good hv ch
    have bd := detR_bd q (under_of r2).1 (under_of c2).1 r1 c1
    have fb := fB_le (n := k.toNat) (by omega)
    exact ⟨R, cr, E, ce, rows, cols, h3, h4, h5, h6, h7, h8, h9, by omega, by omega, by omega, if_pos kc, by omega, by omega⟩
set_option maxHeartbeats 4000000 in
theorem volumes_walk (A : Option Addr) (c : Nat) (M : List (List Int)) (k : Int) (w : World) (lM : M.length ≤ c) (cM : c ≤ maxLen) (hM : ML w A M) :
    Calls Try.prog 5 #[.slice A M.length c, .int .i64 k] w fun e w' => e = .returned (.bool true) ∧ Below w.heap.size w w' := by
  have hm0 : M.length ≤ 9223372036854775807 := by unfold maxLen at cM; omega
  have LO := Lib.hid (fun W (B : Below w.heap.size w W) => long_any6 A c M W (ml_in hM B) hm0)
  have KN := Lib.hid (fun W => known6_any W)
  cases hlo : longB M with
  | true =>
    rw [hlo] at LO
    clear lM cM hM hlo hm0
    go_enter Try.func5, Try.ntmps5
    go_wp2_with fail
    with_reducible refine (LO.out _ (Below.refl _ _)).mono ?_
    rintro e w2 ⟨rfl, rfl⟩
    have HB := Lib.hid (Below.refl w.heap.size w)
    go_wp2_with fail
    with_reducible refine (KN.out _).mono ?_
    rintro e w9 ⟨rfl, hb9⟩
    have HB9 := Lib.hid (bstep HB.out hb9)
    clear hb9
    go_wp2_with fail
    go_ret
    exact ⟨rfl, HB9.out⟩
  | false =>
    rw [hlo] at LO
    obtain ⟨ln, wd⟩ := long_no hlo
    have ln' : M.length ≤ 1000 := by omega
    have wd' : ∀ i, i < M.length → (rw_ M i).length ≤ 1000 := fun i hi => by have := wd i hi; omega
    have P1 := Lib.hid (fun W (B : Below w.heap.size w W) => volP_any A c M k W (ml_in hM B) ln' wd')
    have P2 := Lib.hid (fun W (B : Below w.heap.size w W) => rvolP_any A c M k W (ml_in hM B) ln' wd')
    have P3 := Lib.hid (fun W (B : Below w.heap.size w W) => largP_any A c M k W (ml_in hM B) ln' wd')
    by_cases hz : zcode M k = 0
    · have RM := Lib.hid (fun W (B : Below w.heap.size w W) R E cr ce rows cols (h1 : IL W R rows) (h2 : IL W E cols) (l1 : rows.length ≤ 6) (l2 : cols.length ≤ 6) (c1 : rows.length ≤ cr) (c2 : cols.length ≤ ce) =>
        rminor_any A R E c cr ce M rows cols W (arg_of (ml_in hM B) h1 h2 hlo (by omega) (by omega)) c1 c2)
      have e2 : (vlm M k).2 = 0 := by rw [vlm_0 hz]
      have LZ := Lib.hid (fun W rv cv (h : LG W M k rv cv) => lg_of hz h)
      rw [e2] at P1 P2 P3
      clear lM cM hM hlo hm0 ln wd ln' wd' hz e2
      generalize (vlm M k).1 = v at *
      generalize LG = LGG at *
      go_enter Try.func5, Try.ntmps5
      go_wp2_with fail
      with_reducible refine (LO.out _ (Below.refl _ _)).mono ?_
      rintro e w2 ⟨rfl, rfl⟩
      go_wp2_with fail
      with_reducible refine (P1.out _ (Below.refl _ _)).mono ?_
      rintro e w3 ⟨rfl, hb⟩
      have HB3 := Lib.hid hb
      clear hb
      go_wp2_with fail
      with_reducible refine (P2.out _ HB3.out).mono ?_
      rintro e w4 ⟨rfl, hb⟩
      have HB4 := Lib.hid (bstep HB3.out hb)
      clear hb
      go_wp2_with fail
      with_reducible refine (P3.out _ HB4.out).mono ?_
      rintro e w5 ⟨rv, cv, rfl, hp, hb⟩
      obtain ⟨R, cr, E, ce, rows, cols, rfl, rfl, h3, h4, h5, h6, h7, h8, h9, h10, h11, h12, h13⟩ := LZ.out _ _ _ hp
      have HB5 := Lib.hid (bstep HB4.out hb)
      have RMM := Lib.hid (RM.out _ HB5.out R E cr ce rows cols h5 h6 h9 h10 h3 h4)
      rw [h11] at RMM
      have RMQ := Lib.hid (show Calls Try.prog 19 #[.slice A M.length c, .slice R rows.length cr, .slice E cols.length ce] w5 fun e w' => e = .returned (.tuple #[.int .i64 (detR M rows cols), .int .i64 0]) ∧ Below w5.heap.size w5 w' from RMM.out)
      clear RMM
      clear hp hb h3 h4 h5 h6 h9 h10 h11 HB3 HB4
      generalize detR M rows cols = d at *
      by_cases hneg : d < 0
      · have ed : d = -v := by unfold absI at h7; rw [if_pos hneg] at h7; omega
        have v0 : 0 < v := by omega
        have v1 : v ≤ 504000000000000000 := by omega
        subst ed
        clear h7 h12 h13 hneg
        have t1 : (-v == v) = false := by simp; omega
        have WR : IntKind.i64.wrap (-v) = -v := IntWalk.i64_in _ (by omega)
        go_wp2_with fail
        with_reducible refine RMQ.out.mono ?_
        rintro e w6 ⟨rfl, hb⟩
        have HB := Lib.hid (bstep HB5.out hb)
        clear hb
        go_wp2_with fail
        with_reducible refine (KN.out _).mono ?_
        rintro e w9 ⟨rfl, hb9⟩
        have HB9 := Lib.hid (bstep HB.out hb9)
        clear hb9
        go_wp2_with fail
        go_ret
        exact ⟨rfl, HB9.out⟩
      · have ed : d = v := by unfold absI at h7; rw [if_neg hneg] at h7; omega
        subst ed
        clear h7 h12 h13 hneg
        go_wp2_with fail
        with_reducible refine RMQ.out.mono ?_
        rintro e w6 ⟨rfl, hb⟩
        have HB := Lib.hid (bstep HB5.out hb)
        clear hb
        go_wp2_with fail
        with_reducible refine (KN.out _).mono ?_
        rintro e w9 ⟨rfl, hb9⟩
        have HB9 := Lib.hid (bstep HB.out hb9)
        clear hb9
        go_wp2_with fail
        go_ret
        exact ⟨rfl, HB9.out⟩
    · have LZ := Lib.hid (fun W rv cv (h : LG W M k rv cv) => (show rv = .slice none 0 0 ∧ cv = .slice none 0 0 by unfold LG at h; rw [if_neg hz] at h; exact h))
      rw [vlm_1 hz] at P1 P2 P3
      clear lM cM hM hlo hm0 ln wd ln' wd'
      generalize LG = LGG at *
      generalize hzc : zcode M k = e at *
      have t1 : (e != 0) = true := by simp [hz]
      clear hz hzc
      go_enter Try.func5, Try.ntmps5
      go_wp2_with fail
      with_reducible refine (LO.out _ (Below.refl _ _)).mono ?_
      rintro e w2 ⟨rfl, rfl⟩
      go_wp2_with fail
      with_reducible refine (P1.out _ (Below.refl _ _)).mono ?_
      rintro e w3 ⟨rfl, hb⟩
      have HB3 := Lib.hid hb
      clear hb
      go_wp2_with fail
      with_reducible refine (P2.out _ HB3.out).mono ?_
      rintro e w4 ⟨rfl, hb⟩
      have HB4 := Lib.hid (bstep HB3.out hb)
      clear hb
      go_wp2_with fail
      with_reducible refine (P3.out _ HB4.out).mono ?_
      rintro e w5 ⟨rv, cv, rfl, hp, hb⟩
      obtain ⟨rfl, rfl⟩ := LZ.out _ _ _ hp
      have HB := Lib.hid (bstep HB4.out hb)
      clear hp hb HB3 HB4
      go_wp2_with fail
      with_reducible refine (KN.out _).mono ?_
      rintro e w9 ⟨rfl, hb9⟩
      have HB9 := Lib.hid (bstep HB.out hb9)
      clear hb9
      go_wp2_with fail
      go_ret
      exact ⟨rfl, HB9.out⟩

end Go.Proofs.Ytefmlcojbfiehaa
