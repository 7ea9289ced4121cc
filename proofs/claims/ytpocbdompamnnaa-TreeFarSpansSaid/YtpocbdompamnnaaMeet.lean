import Derived.Test.YtpocbdompamnnaaBase
namespace Go.Proofs.Ytpocbdompamnnaa
open Go.ChangeShapes Go.WideShapes Go.RowKit
attribute [local go_sem high] run_min_mn run_max_mx
theorem hull_yes (al ah bl bh:Int) (w:World) (h:Sp.vldB al ah=true) (k:Sp.vldB bl bh=true) :
    Calls Try.prog 39 #[spv al ah,spv bl bh] w fun e w'=>e=.returned (spr ((Sp.mn al bl,Sp.mx ah bh),0))∧Below w.heap.size w w':=by
  obtain ⟨a1,a2,a3⟩:=Sp.vld_iff.1 h
  obtain ⟨b1,b2,b3⟩:=Sp.vld_iff.1 k
  have hv:Sp.vldB (Sp.mn al bl) (Sp.mx ah bh)=true:=by
    rw [Sp.vld_iff,Sp.mn_eq,Sp.mx_eq];omega
  clear a1 a2 a3 b1 b2 b3
  go_enter Try.func39,Try.ntmps39
  go_wp2_with fail
  refine (valid_yes _ _ _ h).mono ?_
  rintro e w1 ⟨rfl,rfl⟩
  go_wp2_with fail
  refine (valid_yes _ _ _ k).mono ?_
  rintro e w1 ⟨rfl,rfl⟩
  go_wp2_with fail
  refine (least_yes _ _ _ hv).mono ?_
  rintro e w1 ⟨rfl,hb⟩
  obtain ⟨c1,c2,c3,c4,_⟩:=pair_below (pair_alloc (pair_alloc (pair_new _ _ _ _) _) _) hb
  simp only [World.size_alloc] at c1 c2 c3 c4
  go_wp2
  refine bodyPost_ret (v:=spr ((Sp.mn al bl,Sp.mx ah bh),0)) (by rw [results_cell_tmp rfl];go_simp) rfl ⟨rfl,?_⟩
  (repeat' (first | exact Below.refl _ _ | refine bstep ?_ hb | refine Below.setCell ?_ (by simp <;> omega) _ | refine balloc ?_ _ | refine Below.drew ?_ | refine bdrewN ?_ _))
theorem hull_no1 (al ah bl bh:Int) (w:World) (h:Sp.vldB al ah=false) :
    Calls Try.prog 39 #[spv al ah,spv bl bh] w fun e w'=>e=.returned (spr ((0,0),1))∧Below w.heap.size w w':=by
  go_enter Try.func39,Try.ntmps39
  go_wp2_with fail
  refine (valid_no _ _ _ h).mono ?_
  rintro e w1 ⟨rfl,rfl⟩
  go_wp2
  refine bodyPost_ret (v:=spr ((0,0),1)) (by rw [results_cell_tmp rfl];go_simp) rfl ⟨rfl,?_⟩
  (repeat' (first | exact Below.refl _ _ | refine Below.setCell ?_ (by simp <;> omega) _ | refine balloc ?_ _ | refine Below.drew ?_ | refine bdrewN ?_ _))
theorem hull_no2 (al ah bl bh:Int) (w:World) (h:Sp.vldB al ah=true) (k:Sp.vldB bl bh=false) :
    Calls Try.prog 39 #[spv al ah,spv bl bh] w fun e w'=>e=.returned (spr ((0,0),1))∧Below w.heap.size w w':=by
  go_enter Try.func39,Try.ntmps39
  go_wp2_with fail
  refine (valid_yes _ _ _ h).mono ?_
  rintro e w1 ⟨rfl,rfl⟩
  go_wp2_with fail
  refine (valid_no _ _ _ k).mono ?_
  rintro e w1 ⟨rfl,rfl⟩
  go_wp2
  refine bodyPost_ret (v:=spr ((0,0),1)) (by rw [results_cell_tmp rfl];go_simp) rfl ⟨rfl,?_⟩
  (repeat' (first | exact Below.refl _ _ | refine Below.setCell ?_ (by simp <;> omega) _ | refine balloc ?_ _ | refine Below.drew ?_ | refine bdrewN ?_ _))
end Go.Proofs.Ytpocbdompamnnaa
