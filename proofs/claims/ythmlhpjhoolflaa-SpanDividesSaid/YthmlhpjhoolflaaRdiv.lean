/-
  The contracts of the document's quotient of spans.
-/
import Derived.Test.YthmlhpjhoolflaaQuo
import Derived.Test.YthmlhpjhoolflaaNumDiv
import Derived.BigRegion
import Derived.RegionTactic
namespace Go.Proofs.Ythmlhpjhoolflaa
open Go.ChangeShapes Go.WideShapes Go.RowKit
/-- a call that leaves the world alone, in a quiet region -/
theorem q_one' {P : Program} {f : FuncId} {args : Array Value} {w : World} {n : Nat} {v : Value} (h : Calls P f args (w.drewN n) fun e w' => e = .returned v ∧ w.drewN n = w') :
    Calls P f args (w.drewN n) fun e w'' => e = .returned v ∧ ∃ m, w'' = w.drewN m := h.mono fun _ _ ⟨he, hm⟩ => ⟨he, n, hm.symm⟩
theorem q_two' {P : Program} {f : FuncId} {args : Array Value} {w : World} {a n : Nat} {v : Value} (h : Calls P f args (w.drewN (a + n)) fun e w' => e = .returned v ∧ w.drewN (a + n) = w') :
    Calls P f args (w.drewN (a + n)) fun e w'' => e = .returned v ∧ ∃ m, w'' = w.drewN (a + m) := h.mono fun _ _ ⟨he, hm⟩ => ⟨he, n, hm.symm⟩
set_option maxRecDepth 100000 in
set_option maxHeartbeats 1600000 in
theorem rdiv_p0 (al ah bl bh : Int) (w : World) (h : Sp.vldB al ah = true) (k : Sp.vldB bl bh = true) (z : 0 < bl) :
    Calls Try.prog 31 #[spv al ah, spv bl bh] w fun e w' => e = .returned (spr (Sp.told (Sp.mn (Sp.fl (al * 1048576) bl) (Sp.fl (al * 1048576) bh)) (Sp.mx (Sp.ce (ah * 1048576) bl) (Sp.ce (ah * 1048576) bh)))) ∧ Below w.heap.size w w' := by
  obtain ⟨a1, a2, a3⟩ := Sp.vld_iff.1 h
  obtain ⟨b1, b2, b3⟩ := Sp.vld_iff.1 k
  have X0 : Hid (Sm (al * 1048576) bl) := (by unfold Sm; omega : Sm (al * 1048576) bl)
  have X1 : Hid (Sm (al * 1048576) bh) := (by unfold Sm; omega : Sm (al * 1048576) bh)
  have X2 : Hid (Sm (ah * 1048576) bl) := (by unfold Sm; omega : Sm (ah * 1048576) bl)
  have X3 : Hid (Sm (ah * 1048576) bh) := (by unfold Sm; omega : Sm (ah * 1048576) bh)
  have ZL : Hid (0 < bl) := (by omega : 0 < bl)
  have ZH : Hid (0 < bh) := (by omega : 0 < bh)
  unfold Sp.mn Sp.mx
  by_cases c1 : Sp.fl (al * 1048576) bh < Sp.fl (al * 1048576) bl <;> by_cases c2 : Sp.ce (ah * 1048576) bl < Sp.ce (ah * 1048576) bh
  all_goals
    simp only [c1, c2, if_true, if_false]
    go_enter Try.func31, Try.ntmps31
    go_wp2_with fail
    refine (rvalid_yes _ _ _ h).mono ?_
    rintro e w1 ⟨rfl, rfl⟩
    go_wp2_with fail
    refine (rvalid_yes _ _ _ k).mono ?_
    rintro e w1 ⟨rfl, rfl⟩
    go_wp2_with fail
    go_quiet ((first | (go_at_call 62; exact q_one' (rdown_any _ _ _ (by first | exact X0.out | exact X1.out | exact X2.out | exact X3.out) (by first | exact ZL.out | exact ZH.out))) | (go_at_call 63; exact q_one' (rup_any _ _ _ (by first | exact X0.out | exact X1.out | exact X2.out | exact X3.out) (by first | exact ZL.out | exact ZH.out)))))
    go_wp2_with (first | (go_at_call 62; refine (rdown_any _ _ _ (by first | exact X0.out | exact X1.out | exact X2.out | exact X3.out) (by first | exact ZL.out | exact ZH.out)).mono ?_; rintro e w1 ⟨rfl, rfl⟩) | (go_at_call 63; refine (rup_any _ _ _ (by first | exact X0.out | exact X1.out | exact X2.out | exact X3.out) (by first | exact ZL.out | exact ZH.out)).mono ?_; rintro e w1 ⟨rfl, rfl⟩) | (go_at_call 61; fail))
    refine (told_any _ _ _).mono ?_
    rintro e w1 ⟨rfl, hb⟩
    obtain ⟨g1, g2, g3, g4, _⟩ := pair_below (pair_drewN (pair_alloc (pair_alloc (pair_new ((w.alloc _).alloc _) 0 0 _) _) _) _) hb
    simp only [World.size_alloc] at g1 g2 g3 g4
    go_wp2
    refine bodyPost_ret (v := spr (Sp.told _ _)) (by rw [results_cell_tmp rfl]; go_simp) rfl ⟨rfl, ?_⟩
    (repeat' (first | exact Below.refl _ _ | refine bstep ?_ hb | refine Below.setCell ?_ (by simp <;> omega) _ | refine balloc ?_ _ | refine Below.drew ?_ | refine bdrewN ?_ _))
theorem rdiv_no1 (al ah bl bh : Int) (w : World) (h : Sp.vldB al ah = false) :
    Calls Try.prog 31 #[spv al ah, spv bl bh] w fun e w' => e = .returned (spr ((0, 0), 1)) ∧ Below w.heap.size w w' := by
  go_enter Try.func31, Try.ntmps31
  go_wp2_with fail
  refine (rvalid_no _ _ _ h).mono ?_
  rintro e w1 ⟨rfl, rfl⟩
  go_wp2
  refine bodyPost_ret (v := spr ((0, 0), 1)) (by rw [results_cell_tmp rfl]; go_simp) rfl ⟨rfl, ?_⟩
  (repeat' (first | exact Below.refl _ _ | refine Below.setCell ?_ (by simp <;> omega) _ | refine balloc ?_ _ | refine Below.drew ?_ | refine bdrewN ?_ _))
theorem rdiv_no2 (al ah bl bh : Int) (w : World) (h : Sp.vldB al ah = true) (k : Sp.vldB bl bh = false) :
    Calls Try.prog 31 #[spv al ah, spv bl bh] w fun e w' => e = .returned (spr ((0, 0), 1)) ∧ Below w.heap.size w w' := by
  go_enter Try.func31, Try.ntmps31
  go_wp2_with fail
  refine (rvalid_yes _ _ _ h).mono ?_
  rintro e w1 ⟨rfl, rfl⟩
  go_wp2_with fail
  refine (rvalid_no _ _ _ k).mono ?_
  rintro e w1 ⟨rfl, rfl⟩
  go_wp2
  refine bodyPost_ret (v := spr ((0, 0), 1)) (by rw [results_cell_tmp rfl]; go_simp) rfl ⟨rfl, ?_⟩
  (repeat' (first | exact Below.refl _ _ | refine Below.setCell ?_ (by simp <;> omega) _ | refine balloc ?_ _ | refine Below.drew ?_ | refine bdrewN ?_ _))
theorem rdiv_z (al ah bl bh : Int) (w : World) (h : Sp.vldB al ah = true) (k : Sp.vldB bl bh = true) (z1 : bl ≤ 0) (z2 : 0 ≤ bh) :
    Calls Try.prog 31 #[spv al ah, spv bl bh] w fun e w' => e = .returned (spr ((0, 0), 11)) ∧ Below w.heap.size w w' := by
  go_enter Try.func31, Try.ntmps31
  go_wp2_with fail
  refine (rvalid_yes _ _ _ h).mono ?_
  rintro e w1 ⟨rfl, rfl⟩
  go_wp2_with fail
  refine (rvalid_yes _ _ _ k).mono ?_
  rintro e w1 ⟨rfl, rfl⟩
  go_wp2
  refine bodyPost_ret (v := spr ((0, 0), 11)) (by rw [results_cell_tmp rfl]; go_simp) rfl ⟨rfl, ?_⟩
  (repeat' (first | exact Below.refl _ _ | refine Below.setCell ?_ (by simp <;> omega) _ | refine balloc ?_ _ | refine Below.drew ?_ | refine bdrewN ?_ _))

end Go.Proofs.Ythmlhpjhoolflaa
