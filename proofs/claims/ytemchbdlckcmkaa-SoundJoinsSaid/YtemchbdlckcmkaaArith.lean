/-
  The contracts of Add and Sub, in the program and in the document's answer, and of Mul and Div in the program.
-/
import Derived.Test.YtemchbdlckcmkaaOp0
import Derived.Test.YtemchbdlckcmkaaOp1
import Derived.Test.YtemchbdlckcmkaaOp2
import Derived.Test.YtemchbdlckcmkaaOp3
import Derived.Test.YtemchbdlckcmkaaOp4
namespace Go.Proofs.Ytemchbdlckcmkaa
open Go.ChangeShapes Go.WideShapes Go.RowKit
theorem add_yes (al ah bl bh : Int) (w : World) (h : Sp.vldB al ah = true) (k : Sp.vldB bl bh = true) :
    Calls Try.prog 19 #[spv al ah, spv bl bh] w fun e w' => e = .returned (spr (Sp.told (al + bl) (ah + bh))) ∧ Below w.heap.size w w' := by
  have C := fun w => op_add al ah bl bh w h k
  have q := Sp.add4 (Sp.vld_iff.1 h).2.1 (Sp.vld_iff.1 k).2.1
  rw [q.1, q.2] at C
  have K := Lib.hid C
  clear C q
  go_enter Try.func19, Try.ntmps19
  go_wp2_with fail
  refine (K.out _).mono ?_
  rintro e w1 ⟨rfl, hb⟩
  obtain ⟨c1, c2, c3, c4, _⟩ := pair_below (pair_new ((w.alloc _).alloc _) 0 0 _) hb
  simp only [World.size_alloc] at c1 c2 c3 c4
  go_wp2
  refine bodyPost_ret (v := spr (Sp.told _ _)) (by rw [results_cell_tmp rfl]; go_simp) rfl ⟨rfl, ?_⟩
  (repeat' (first | exact Below.refl _ _ | refine bstep ?_ hb | refine Below.setCell ?_ (by simp <;> omega) _ | refine balloc ?_ _ | refine Below.drew ?_ | refine bdrewN ?_ _))
theorem add_no1 (al ah bl bh : Int) (w : World) (h : Sp.vldB al ah = false) :
    Calls Try.prog 19 #[spv al ah, spv bl bh] w fun e w' => e = .returned (spr ((0, 0), 1)) ∧ Below w.heap.size w w' := by
  go_enter Try.func19, Try.ntmps19
  go_wp2_with fail
  refine (op_no1 0 _ _ _ _ _ h).mono ?_
  rintro e w1 ⟨rfl, hb⟩
  obtain ⟨c1, c2, c3, c4, _⟩ := pair_below (pair_new ((w.alloc _).alloc _) 0 0 _) hb
  simp only [World.size_alloc] at c1 c2 c3 c4
  go_wp2
  refine bodyPost_ret (v := spr _) (by rw [results_cell_tmp rfl]; go_simp) rfl ⟨rfl, ?_⟩
  (repeat' (first | exact Below.refl _ _ | refine bstep ?_ hb | refine Below.setCell ?_ (by simp <;> omega) _ | refine balloc ?_ _ | refine Below.drew ?_ | refine bdrewN ?_ _))
theorem add_no2 (al ah bl bh : Int) (w : World) (h : Sp.vldB al ah = true) (k : Sp.vldB bl bh = false) :
    Calls Try.prog 19 #[spv al ah, spv bl bh] w fun e w' => e = .returned (spr ((0, 0), 1)) ∧ Below w.heap.size w w' := by
  go_enter Try.func19, Try.ntmps19
  go_wp2_with fail
  refine (op_no2 0 _ _ _ _ _ h k).mono ?_
  rintro e w1 ⟨rfl, hb⟩
  obtain ⟨c1, c2, c3, c4, _⟩ := pair_below (pair_new ((w.alloc _).alloc _) 0 0 _) hb
  simp only [World.size_alloc] at c1 c2 c3 c4
  go_wp2
  refine bodyPost_ret (v := spr _) (by rw [results_cell_tmp rfl]; go_simp) rfl ⟨rfl, ?_⟩
  (repeat' (first | exact Below.refl _ _ | refine bstep ?_ hb | refine Below.setCell ?_ (by simp <;> omega) _ | refine balloc ?_ _ | refine Below.drew ?_ | refine bdrewN ?_ _))
theorem add_any (al ah bl bh : Int) (w : World) :
    Calls Try.prog 19 #[spv al ah, spv bl bh] w fun e w' => e = .returned (spr (Sp.addR al ah bl bh)) ∧ Below w.heap.size w w' := by
  unfold Sp.addR
  cases h : Sp.vldB al ah
  · rw [Sp.ite_no1 rfl]; exact add_no1 _ _ _ _ _ h
  cases k : Sp.vldB bl bh
  · rw [Sp.ite_no2 rfl]; exact add_no2 _ _ _ _ _ h k
  rw [Sp.ite_yes rfl rfl]
  exact add_yes _ _ _ _ _ h k
end Go.Proofs.Ytemchbdlckcmkaa
