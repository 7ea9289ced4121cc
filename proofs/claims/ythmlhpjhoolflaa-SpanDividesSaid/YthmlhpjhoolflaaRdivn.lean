/-
  The contracts of the document's quotient of spans.
-/
import Derived.Test.YthmlhpjhoolflaaRdiv
import Derived.BigRegion
import Derived.RegionTactic
namespace Go.Proofs.Ythmlhpjhoolflaa
open Go.ChangeShapes Go.WideShapes Go.RowKit
theorem drew_one (w : World) : w.drew = w.drewN 1 := rfl
set_option maxRecDepth 100000 in
set_option maxHeartbeats 1600000 in
theorem rdiv_n0 (al ah bl bh : Int) (w : World) (h : Sp.vldB al ah = true) (k : Sp.vldB bl bh = true) (z0 : bl ≤ 0) (z : bh < 0) :
    Calls Try.prog 31 #[spv al ah, spv bl bh] w fun e w' => e = .returned (spr (Sp.told (Sp.mn (Sp.fl (-ah * 1048576) (-bh)) (Sp.fl (-ah * 1048576) (-bl))) (Sp.mx (Sp.ce (-al * 1048576) (-bh)) (Sp.ce (-al * 1048576) (-bl))))) ∧ Below w.heap.size w w' := by
  obtain ⟨a1, a2, a3⟩ := Sp.vld_iff.1 h
  obtain ⟨b1, b2, b3⟩ := Sp.vld_iff.1 k
  have X0 : Hid (Sm (-ah * 1048576) (-bh)) := (by unfold Sm; omega : Sm (-ah * 1048576) (-bh))
  have X1 : Hid (Sm (-ah * 1048576) (-bl)) := (by unfold Sm; omega : Sm (-ah * 1048576) (-bl))
  have X2 : Hid (Sm (-al * 1048576) (-bh)) := (by unfold Sm; omega : Sm (-al * 1048576) (-bh))
  have X3 : Hid (Sm (-al * 1048576) (-bl)) := (by unfold Sm; omega : Sm (-al * 1048576) (-bl))
  have ZL : Hid (0 < (-bh)) := (by omega : 0 < (-bh))
  have ZH : Hid (0 < (-bl)) := (by omega : 0 < (-bl))
  have V0 : IntKind.i64.wrap (-ah * 1048576) = -ah * 1048576 := IntWalk.i64_in _ (by omega)
  have V1 : IntKind.i64.wrap (-al * 1048576) = -al * 1048576 := IntWalk.i64_in _ (by omega)
  unfold Sp.mn Sp.mx
  by_cases c1 : Sp.fl (-ah * 1048576) (-bl) < Sp.fl (-ah * 1048576) (-bh) <;> by_cases c2 : Sp.ce (-al * 1048576) (-bh) < Sp.ce (-al * 1048576) (-bl)
  all_goals
    simp only [c1, c2, if_true, if_false]
    go_enter Try.func31, Try.ntmps31
    go_wp2_with fail
    refine (rvalid_yes _ _ _ h).mono ?_
    rintro e w1 ⟨rfl, rfl⟩
    go_wp2_with fail
    refine (rvalid_yes _ _ _ k).mono ?_
    rintro e w1 ⟨rfl, rfl⟩
    go_wp2_with fail
    go_region
    go_wp2_with fail
    simp only [drew_one]
    go_quiet ((first | (go_at_call 62; exact q_two' (rdown_any _ _ _ (by first | exact X0.out | exact X1.out | exact X2.out | exact X3.out) (by first | exact ZL.out | exact ZH.out))) | (go_at_call 63; exact q_two' (rup_any _ _ _ (by first | exact X0.out | exact X1.out | exact X2.out | exact X3.out) (by first | exact ZL.out | exact ZH.out)))))
    go_wp2_with (first | (go_at_call 62; refine (rdown_any _ _ _ (by first | exact X0.out | exact X1.out | exact X2.out | exact X3.out) (by first | exact ZL.out | exact ZH.out)).mono ?_; rintro e w1 ⟨rfl, rfl⟩) | (go_at_call 63; refine (rup_any _ _ _ (by first | exact X0.out | exact X1.out | exact X2.out | exact X3.out) (by first | exact ZL.out | exact ZH.out)).mono ?_; rintro e w1 ⟨rfl, rfl⟩) | (go_at_call 61; fail))
    refine (told_any _ _ _).mono ?_
    rintro e w1 ⟨rfl, hb⟩
    obtain ⟨g1, g2, g3, g4, _⟩ := pair_below (pair_drewN (pair_alloc (pair_alloc (pair_new ((w.alloc _).alloc _) 0 0 _) _) _) _) hb
    simp only [World.size_alloc] at g1 g2 g3 g4
    go_wp2
    refine bodyPost_ret (v := spr (Sp.told _ _)) (by rw [results_cell_tmp rfl]; go_simp) rfl ⟨rfl, ?_⟩
    (repeat' (first | exact Below.refl _ _ | refine bstep ?_ hb | refine Below.setCell ?_ (by simp <;> omega) _ | refine balloc ?_ _ | refine Below.drew ?_ | refine bdrewN ?_ _))
theorem rdiv_any (al ah bl bh : Int) (w : World) :
    Calls Try.prog 31 #[spv al ah, spv bl bh] w fun e w' => e = .returned (spr (Sp.divR al ah bl bh)) ∧ Below w.heap.size w w' := by
  unfold Sp.divR
  cases h : Sp.vldB al ah
  · rw [Sp.ite_no1 rfl]; exact rdiv_no1 _ _ _ _ _ h
  cases k : Sp.vldB bl bh
  · rw [Sp.ite_no2 rfl]; exact rdiv_no2 _ _ _ _ _ h k
  rw [Sp.ite_yes rfl rfl]
  have ha := (Sp.vld_iff.1 h).2.1
  have hb := (Sp.vld_iff.1 k).2.1
  rcases Int.lt_or_le 0 bl with z | z
  · rw [if_neg (by omega), (Sp.div4p ha hb z).1, (Sp.div4p ha hb z).2]; exact rdiv_p0 _ _ _ _ _ h k z
  rcases Int.lt_or_le bh 0 with z2 | z2
  · rw [if_neg (by omega), (Sp.div4n ha hb z2).1, (Sp.div4n ha hb z2).2]; exact rdiv_n0 _ _ _ _ _ h k z z2
  · rw [if_pos ⟨z, z2⟩]; exact rdiv_z _ _ _ _ _ h k z z2

end Go.Proofs.Ythmlhpjhoolflaa
