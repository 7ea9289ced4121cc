import Derived.Test.YtgchcnpgjfoadaaGreatBase
namespace Go.Proofs.YtgchcnpgjfoadaaGreat
open Go.ChangeShapes Go.WideShapes Go.RowKit
attribute [local go_sem high] run_min_mn run_max_mx
theorem compare_lt (al ah bl bh:Int) (w:World) (h:Sp.vldB al ah=true) (k:Sp.vldB bl bh=true) (c1:ah < bl) :
    Calls Tryz.prog 56 #[spv al ah,spv bl bh] w fun e w'=>e=.returned (.tuple #[.int .i64 (-1),.int .i64 0])∧Below w.heap.size w w':=by
  go_enter Tryz.func56,Tryz.ntmps56
  go_wp2_with fail
  refine (valid_yes _ _ _ h).mono ?_
  rintro e w1 ⟨rfl,rfl⟩
  go_wp2_with fail
  refine (valid_yes _ _ _ k).mono ?_
  rintro e w1 ⟨rfl,rfl⟩
  go_wp2
  go_ret2
  exact ⟨rfl,by (repeat' (first | exact Below.refl _ _ | refine Below.setCell ?_ (by simp <;> omega) _ | refine balloc ?_ _ | refine Below.drew ?_ | refine bdrewN ?_ _))⟩
theorem compare_gt (al ah bl bh:Int) (w:World) (h:Sp.vldB al ah=true) (k:Sp.vldB bl bh=true) (c1:bl≤ah) (c2:bh < al) :
    Calls Tryz.prog 56 #[spv al ah,spv bl bh] w fun e w'=>e=.returned (.tuple #[.int .i64 1,.int .i64 0])∧Below w.heap.size w w':=by
  go_enter Tryz.func56,Tryz.ntmps56
  go_wp2_with fail
  refine (valid_yes _ _ _ h).mono ?_
  rintro e w1 ⟨rfl,rfl⟩
  go_wp2_with fail
  refine (valid_yes _ _ _ k).mono ?_
  rintro e w1 ⟨rfl,rfl⟩
  go_wp2
  go_ret2
  exact ⟨rfl,by (repeat' (first | exact Below.refl _ _ | refine Below.setCell ?_ (by simp <;> omega) _ | refine balloc ?_ _ | refine Below.drew ?_ | refine bdrewN ?_ _))⟩
theorem compare_eq (al ah bl bh:Int) (w:World) (h:Sp.vldB al ah=true) (k:Sp.vldB bl bh=true) (c1:bl≤ah) (c2:al≤bh) :
    Calls Tryz.prog 56 #[spv al ah,spv bl bh] w fun e w'=>e=.returned (.tuple #[.int .i64 0,.int .i64 0])∧Below w.heap.size w w':=by
  go_enter Tryz.func56,Tryz.ntmps56
  go_wp2_with fail
  refine (valid_yes _ _ _ h).mono ?_
  rintro e w1 ⟨rfl,rfl⟩
  go_wp2_with fail
  refine (valid_yes _ _ _ k).mono ?_
  rintro e w1 ⟨rfl,rfl⟩
  go_wp2
  go_ret2
  exact ⟨rfl,by (repeat' (first | exact Below.refl _ _ | refine Below.setCell ?_ (by simp <;> omega) _ | refine balloc ?_ _ | refine Below.drew ?_ | refine bdrewN ?_ _))⟩
theorem compare_no1 (al ah bl bh:Int) (w:World) (h:Sp.vldB al ah=false) :
    Calls Tryz.prog 56 #[spv al ah,spv bl bh] w fun e w'=>e=.returned (.tuple #[.int .i64 0,.int .i64 1])∧Below w.heap.size w w':=by
  go_enter Tryz.func56,Tryz.ntmps56
  go_wp2_with fail
  refine (valid_no _ _ _ h).mono ?_
  rintro e w1 ⟨rfl,rfl⟩
  go_wp2
  go_ret2
  exact ⟨rfl,by (repeat' (first | exact Below.refl _ _ | refine Below.setCell ?_ (by simp <;> omega) _ | refine balloc ?_ _ | refine Below.drew ?_ | refine bdrewN ?_ _))⟩
theorem compare_no2 (al ah bl bh:Int) (w:World) (h:Sp.vldB al ah=true) (k:Sp.vldB bl bh=false) :
    Calls Tryz.prog 56 #[spv al ah,spv bl bh] w fun e w'=>e=.returned (.tuple #[.int .i64 0,.int .i64 1])∧Below w.heap.size w w':=by
  go_enter Tryz.func56,Tryz.ntmps56
  go_wp2_with fail
  refine (valid_yes _ _ _ h).mono ?_
  rintro e w1 ⟨rfl,rfl⟩
  go_wp2_with fail
  refine (valid_no _ _ _ k).mono ?_
  rintro e w1 ⟨rfl,rfl⟩
  go_wp2
  go_ret2
  exact ⟨rfl,by (repeat' (first | exact Below.refl _ _ | refine Below.setCell ?_ (by simp <;> omega) _ | refine balloc ?_ _ | refine Below.drew ?_ | refine bdrewN ?_ _))⟩
theorem meet_yes (al ah bl bh:Int) (w:World) (h:Sp.vldB al ah=true) (k:Sp.vldB bl bh=true) (c1:bl≤ah) (c2:al≤bh) :
    Calls Tryz.prog 34 #[spv al ah,spv bl bh] w fun e w'=>e=.returned (.tuple #[spv (Sp.mx al bl) (Sp.mn ah bh),.bool true,.int .i64 0])∧Below w.heap.size w w':=by
  go_enter Tryz.func34,Tryz.ntmps34
  go_wp2_with fail
  refine (compare_eq _ _ _ _ _ h k c1 c2).mono ?_
  rintro e w1 ⟨rfl,hb⟩
  obtain ⟨x1,x2,x3,x4,_⟩:=pair_below (pair_alloc (pair_alloc (pair_new w al ah _) _) _) hb
  obtain ⟨y1,y2,y3,y4,_⟩:=pair_below (pair_alloc (pair_new (w.alloc _) bl bh _) _) hb
  obtain ⟨c1,c2,c3,c4,_⟩:=pair_below (pair_new ((w.alloc _).alloc _) _ _ _) hb
  simp only [World.size_alloc] at y1 y2 y3 y4 c1 c2 c3 c4
  go_wp2
  refine bodyPost_ret (v:=.tuple #[spv (Sp.mx al bl) (Sp.mn ah bh),.bool true,.int .i64 0]) (by rw [results_cell_tmp2 rfl];go_simp) rfl ⟨rfl,?_⟩
  (repeat' (first | exact Below.refl _ _ | refine bstep ?_ hb | refine Below.setCell ?_ (by simp <;> omega) _ | refine balloc ?_ _ | refine Below.drew ?_ | refine bdrewN ?_ _))
theorem meet_lt (al ah bl bh:Int) (w:World) (h:Sp.vldB al ah=true) (k:Sp.vldB bl bh=true) (c1:ah < bl) :
    Calls Tryz.prog 34 #[spv al ah,spv bl bh] w fun e w'=>e=.returned (.tuple #[spv 0 0,.bool false,.int .i64 0])∧Below w.heap.size w w':=by
  go_enter Tryz.func34,Tryz.ntmps34
  go_wp2_with fail
  refine (compare_lt _ _ _ _ _ h k c1).mono ?_
  rintro e w1 ⟨rfl,hb⟩
  obtain ⟨x1,x2,x3,x4,_⟩:=pair_below (pair_alloc (pair_alloc (pair_new w al ah _) _) _) hb
  obtain ⟨y1,y2,y3,y4,_⟩:=pair_below (pair_alloc (pair_new (w.alloc _) bl bh _) _) hb
  obtain ⟨c1,c2,c3,c4,_⟩:=pair_below (pair_new ((w.alloc _).alloc _) _ _ _) hb
  simp only [World.size_alloc] at y1 y2 y3 y4 c1 c2 c3 c4
  go_wp2
  refine bodyPost_ret (v:=.tuple #[spv 0 0,.bool false,.int .i64 0]) (by rw [results_cell_tmp2 rfl];go_simp) rfl ⟨rfl,?_⟩
  (repeat' (first | exact Below.refl _ _ | refine bstep ?_ hb | refine Below.setCell ?_ (by simp <;> omega) _ | refine balloc ?_ _ | refine Below.drew ?_ | refine bdrewN ?_ _))
theorem meet_gt (al ah bl bh:Int) (w:World) (h:Sp.vldB al ah=true) (k:Sp.vldB bl bh=true) (c1:bl≤ah) (c2:bh < al) :
    Calls Tryz.prog 34 #[spv al ah,spv bl bh] w fun e w'=>e=.returned (.tuple #[spv 0 0,.bool false,.int .i64 0])∧Below w.heap.size w w':=by
  go_enter Tryz.func34,Tryz.ntmps34
  go_wp2_with fail
  refine (compare_gt _ _ _ _ _ h k c1 c2).mono ?_
  rintro e w1 ⟨rfl,hb⟩
  obtain ⟨x1,x2,x3,x4,_⟩:=pair_below (pair_alloc (pair_alloc (pair_new w al ah _) _) _) hb
  obtain ⟨y1,y2,y3,y4,_⟩:=pair_below (pair_alloc (pair_new (w.alloc _) bl bh _) _) hb
  obtain ⟨c1,c2,c3,c4,_⟩:=pair_below (pair_new ((w.alloc _).alloc _) _ _ _) hb
  simp only [World.size_alloc] at y1 y2 y3 y4 c1 c2 c3 c4
  go_wp2
  refine bodyPost_ret (v:=.tuple #[spv 0 0,.bool false,.int .i64 0]) (by rw [results_cell_tmp2 rfl];go_simp) rfl ⟨rfl,?_⟩
  (repeat' (first | exact Below.refl _ _ | refine bstep ?_ hb | refine Below.setCell ?_ (by simp <;> omega) _ | refine balloc ?_ _ | refine Below.drew ?_ | refine bdrewN ?_ _))
theorem meet_no1 (al ah bl bh:Int) (w:World) (h:Sp.vldB al ah=false) :
    Calls Tryz.prog 34 #[spv al ah,spv bl bh] w fun e w'=>e=.returned (.tuple #[spv 0 0,.bool false,.int .i64 1])∧Below w.heap.size w w':=by
  go_enter Tryz.func34,Tryz.ntmps34
  go_wp2_with fail
  refine (compare_no1 _ _ _ _ _ h).mono ?_
  rintro e w1 ⟨rfl,hb⟩
  obtain ⟨x1,x2,x3,x4,_⟩:=pair_below (pair_alloc (pair_alloc (pair_new w al ah _) _) _) hb
  obtain ⟨y1,y2,y3,y4,_⟩:=pair_below (pair_alloc (pair_new (w.alloc _) bl bh _) _) hb
  obtain ⟨c1,c2,c3,c4,_⟩:=pair_below (pair_new ((w.alloc _).alloc _) _ _ _) hb
  simp only [World.size_alloc] at y1 y2 y3 y4 c1 c2 c3 c4
  go_wp2
  refine bodyPost_ret (v:=.tuple #[spv 0 0,.bool false,.int .i64 1]) (by rw [results_cell_tmp2 rfl];go_simp) rfl ⟨rfl,?_⟩
  (repeat' (first | exact Below.refl _ _ | refine bstep ?_ hb | refine Below.setCell ?_ (by simp <;> omega) _ | refine balloc ?_ _ | refine Below.drew ?_ | refine bdrewN ?_ _))
theorem meet_no2 (al ah bl bh:Int) (w:World) (h:Sp.vldB al ah=true) (k:Sp.vldB bl bh=false) :
    Calls Tryz.prog 34 #[spv al ah,spv bl bh] w fun e w'=>e=.returned (.tuple #[spv 0 0,.bool false,.int .i64 1])∧Below w.heap.size w w':=by
  go_enter Tryz.func34,Tryz.ntmps34
  go_wp2_with fail
  refine (compare_no2 _ _ _ _ _ h k).mono ?_
  rintro e w1 ⟨rfl,hb⟩
  obtain ⟨x1,x2,x3,x4,_⟩:=pair_below (pair_alloc (pair_alloc (pair_new w al ah _) _) _) hb
  obtain ⟨y1,y2,y3,y4,_⟩:=pair_below (pair_alloc (pair_new (w.alloc _) bl bh _) _) hb
  obtain ⟨c1,c2,c3,c4,_⟩:=pair_below (pair_new ((w.alloc _).alloc _) _ _ _) hb
  simp only [World.size_alloc] at y1 y2 y3 y4 c1 c2 c3 c4
  go_wp2
  refine bodyPost_ret (v:=.tuple #[spv 0 0,.bool false,.int .i64 1]) (by rw [results_cell_tmp2 rfl];go_simp) rfl ⟨rfl,?_⟩
  (repeat' (first | exact Below.refl _ _ | refine bstep ?_ hb | refine Below.setCell ?_ (by simp <;> omega) _ | refine balloc ?_ _ | refine Below.drew ?_ | refine bdrewN ?_ _))
end Go.Proofs.YtgchcnpgjfoadaaGreat
