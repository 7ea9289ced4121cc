/-
  The contracts of operate, Add, Sub, Mul, Div.
-/
import Derived.Test.YtemchbdlckcmkaaOperate
namespace Go.Proofs.Ytemchbdlckcmkaa
open Go.ChangeShapes Go.WideShapes Go.RowKit
attribute [local go_sem high] run_min_mn run_max_mx
attribute [local go_sem] run_min4 run_max4
set_option maxRecDepth 100000 in
set_option maxHeartbeats 1000000 in
theorem op_add (al ah bl bh : Int) (w : World) (h : Sp.vldB al ah = true) (k : Sp.vldB bl bh = true) :
    Calls Try.prog 40 #[.int .i64 0, spv al ah, spv bl bh] w fun e w' => e = .returned (spr (Sp.told (Sp.mn4 (al + bl) (al + bh) (ah + bl) (ah + bh)) (Sp.mx4 (al + bl) (al + bh) (ah + bl) (ah + bh)))) ∧ Below w.heap.size w w' := by
  obtain ⟨a1, a2, a3⟩ := Sp.vld_iff.1 h
  obtain ⟨b1, b2, b3⟩ := Sp.vld_iff.1 k
  have X0 : Hid (Fx al bl) := (by unfold Fx; omega : Fx al bl)
  have X1 : Hid (Fx al bh) := (by unfold Fx; omega : Fx al bh)
  have X2 : Hid (Fx ah bl) := (by unfold Fx; omega : Fx ah bl)
  have X3 : Hid (Fx ah bh) := (by unfold Fx; omega : Fx ah bh)
  have i0 := run_idx0
  unfold opsV at i0
  go_enter Try.func40, Try.ntmps40
  go_wp2_with fail
  refine (valid_yes _ _ _ h).mono ?_
  rintro e w1 ⟨rfl, rfl⟩
  go_wp2_with fail
  refine (valid_yes _ _ _ k).mono ?_
  rintro e w1 ⟨rfl, rfl⟩
  go_wp2_with fail
  refine (ops_any _).mono ?_
  rintro e w1 ⟨rfl, hb⟩
  obtain ⟨x1, x2, x3, x4, x5⟩ := pair_below (pair_alloc (pair_alloc (pair_alloc (pair_alloc (pair_new w al ah _) _) _) _) _) hb
  have y0 := pair_below (pair_alloc (pair_alloc (pair_alloc (pair_new (w.alloc _) bl bh _) _) _) _) hb
  have z0 := pair_below (pair_alloc (pair_alloc (pair_new ((w.alloc _).alloc _) 0 0 _) _) _) hb
  simp only [World.size_alloc] at y0 z0
  obtain ⟨y1, y2, y3, y4, y5⟩ := y0
  have Z := z0
  obtain ⟨z1, z2, z3, z4, z5⟩ := z0
  unfold opsV
  go_wp2_with fail

  go_quiet ((go_at_call 90; exact q_one (k_add _ _ _ (by first | exact X0.out | exact X1.out | exact X2.out | exact X3.out))))
  go_wp2_with fail

  go_quiet ((go_at_call 90; exact q_two (k_add _ _ _ (by first | exact X0.out | exact X1.out | exact X2.out | exact X3.out))))
  go_wp2_with fail
  refine (least_any _ _ _).mono ?_
  rintro e w2 ⟨rfl, hb2⟩
  obtain ⟨g1, g2, g3, g4, g5⟩ := pair_below (pair_drewN (pair_alloc Z _) _) hb2
  go_wp2
  refine bodyPost_ret (v := spr (Sp.told _ _)) (by rw [results_cell_tmp rfl]; go_simp) rfl ⟨rfl, ?_⟩
  (repeat' (first | exact Below.refl _ _ | refine bstep ?_ hb | refine bstep ?_ hb2 | refine Below.setCell ?_ (by simp <;> omega) _ | refine balloc ?_ _ | refine Below.drew ?_ | refine bdrewN ?_ _))

end Go.Proofs.Ytemchbdlckcmkaa
