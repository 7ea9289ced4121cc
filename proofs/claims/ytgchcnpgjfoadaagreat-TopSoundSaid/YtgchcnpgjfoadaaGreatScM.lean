import Derived.Test.YtgchcnpgjfoadaaGreatMulRef
import Derived.StillTailTactics
import Derived.Deep.RegionHeld3
namespace Go.Proofs.YtgchcnpgjfoadaaGreat
open Go.ChangeShapes Go.WideShapes Go.RowKit
attribute [local go_sem 1000000] run_min_mn run_max_mx
theorem run_max3 (P:Program) (w:World) (ts:Array TypeId) (t:TypeId) (x y z:Int):(Builtin.max_ ts t #[.int .i64 x,.int .i64 y,.int .i64 z]).run P w=.ok (.int .i64 (Sp.mx (Sp.mx x y) z)) w:=by
  unfold Sp.mx;simp [Builtin.max_,Builtin.max2]
attribute [local go_sem high] run_max3
set_option maxRecDepth 100000 in
theorem sizes_any (lo hi:Int) (w:World) (h1:-1099511627776≤lo) (h2:lo≤1099511627776) (h3:-1099511627776≤hi) (h4:hi≤1099511627776) :
    Calls Tryz.prog 46 #[spv lo hi] w fun e w'=>e=.returned (.tuple #[.int .i64 (Sp.mx (Sp.mx 0 lo) (-hi)),.int .i64 (Sp.mx (-lo) hi)])∧Below w.heap.size w w':=by
  have V0:IntKind.i64.wrap (-lo)=-lo:=IntWalk.i64_in _ (by omega)
  have V1:IntKind.i64.wrap (-hi)=-hi:=IntWalk.i64_in _ (by omega)
  go_enter Tryz.func46,Tryz.ntmps46
  go_wp2
  go_quiet (fail)
  go_wp2
  go_ret2
  exact ⟨rfl,by (repeat' (first | exact Below.refl _ _ | refine Below.setCell ?_ (by simp <;> omega) _ | refine balloc ?_ _ | refine Below.drew ?_ | refine bdrewN ?_ _))⟩
end Go.Proofs.YtgchcnpgjfoadaaGreat
namespace Go.Proofs.YtgchcnpgjfoadaaGreat
open Go.ChangeShapes Go.WideShapes Go.RowKit
attribute [local go_sem 1000000] run_min_mn run_max_mx
def scaleR (lo hi n:Int):Sp.R:=if Sp.vldB lo hi=true∧-1099511627776≤n∧n≤1099511627776 then Sp.told (Sp.mn (lo * n) (hi * n)) (Sp.mx (lo * n) (hi * n)) else ((0,0),1)
end Go.Proofs.YtgchcnpgjfoadaaGreat
namespace Go.Proofs.YtgchcnpgjfoadaaGreat
open Go.ChangeShapes Go.WideShapes Go.RowKit
attribute [local go_sem 1000000] run_min_mn run_max_mx
theorem scale_in {lo hi n F:Int} (hf:F=Sp.mx (-lo) hi) (h0:lo≤hi) (hn:Sp.mx n (-n) * F≤1099511627776) (hF:0≤F) :
    -1099511627776≤lo * n∧lo * n≤1099511627776∧-1099511627776≤hi * n∧hi * n≤1099511627776:=by
  rw [Sp.mx_eq] at hf hn
  have a:=Sp.mul_bd (x:=lo) (y:=n) (A:=F) (B:=max n (-n)) (by omega) (by omega) (by omega) (by omega)
  have b:=Sp.mul_bd (x:=hi) (y:=n) (A:=F) (B:=max n (-n)) (by omega) (by omega) (by omega) (by omega)
  rw [Int.mul_comm] at hn
  omega
theorem scale_out {lo hi n F:Int} (hf:F=Sp.mx (-lo) hi) (_h0:lo≤hi) (hn:1099511627776 < Sp.mx n (-n) * F) (_hF:0≤F) :
    Sp.told (Sp.mn (lo * n) (hi * n)) (Sp.mx (lo * n) (hi * n))=((0,0),4):=by
  apply Sp.told_no
  rw [Sp.vld_not]
  intro ⟨c1,c2,c3⟩
  simp only [Sp.mn_eq,Sp.mx_eq] at *
  rcases Int.lt_or_le n 0 with k | k
  · rw [show max n (-n)=-n by omega] at hn
    by_cases q:-lo≤hi
    · rw [hf,show max (-lo) hi=hi by omega,Int.neg_mul,Int.mul_comm n hi] at hn;omega
    · rw [hf,show max (-lo) hi=-lo by omega,Int.neg_mul_neg,Int.mul_comm n lo] at hn;omega
  · rw [show max n (-n)=n by omega] at hn
    by_cases q:-lo≤hi
    · rw [hf,show max (-lo) hi=hi by omega,Int.mul_comm n hi] at hn;omega
    · rw [hf,show max (-lo) hi=-lo by omega,Int.mul_neg,Int.mul_comm n lo] at hn;omega
theorem div_test {a F:Int} (hF:0 < F):(1099511627776 / F < a ↔ 1099511627776 < a * F):=Int.ediv_lt_iff_lt_mul hF
set_option maxRecDepth 100000 in
set_option maxHeartbeats 800000 in
theorem scale_s0 (lo hi n:Int) (w:World) (h:Sp.vldB lo hi=true) (h1:-1099511627776≤n) (h2:n≤1099511627776) (t:(Sp.mx (-lo) hi)≤0) (p:-1099511627776≤lo * n∧lo * n≤1099511627776∧-1099511627776≤hi * n∧hi * n≤1099511627776) :
    Calls Tryz.prog 23 #[spv lo hi,.int .i64 n] w fun e w'=>e=.returned (spr (Sp.told (Sp.mn (lo * n) (hi * n)) (Sp.mx (lo * n) (hi * n))))∧Below w.heap.size w w':=by
  have q:=Sp.vld_iff.1 h
  have b1:Hid (-1099511627776≤lo):=(by omega:-1099511627776≤lo)
  have b2:Hid (lo≤1099511627776):=(by omega:lo≤1099511627776)
  have b3:Hid (-1099511627776≤hi):=(by omega:-1099511627776≤hi)
  have b4:Hid (hi≤1099511627776):=(by omega:hi≤1099511627776)
  have V0:IntKind.i64.wrap (lo * n)=lo * n:=IntWalk.i64_in _ (by omega)
  have V1:IntKind.i64.wrap (hi * n)=hi * n:=IntWalk.i64_in _ (by omega)
  clear q p
  go_enter Tryz.func23,Tryz.ntmps23
  go_wp2_with fail
  refine (valid_yes _ _ _ h).mono ?_
  rintro e w1 ⟨rfl,rfl⟩
  go_wp2_with fail
  refine (betw_yes _ _ _ _ h1 h2).mono ?_
  rintro e w1 ⟨rfl,rfl⟩
  go_wp2_with fail
  refine (sizes_any _ _ _ b1.out b2.out b3.out b4.out).mono ?_
  rintro e w1 ⟨rfl,hb⟩
  obtain ⟨x1,x2,x3,x4,x5⟩:=pair_below (pair_alloc (pair_alloc (pair_new w lo hi _) _) _) hb
  have z0:=pair_below (pair_alloc (pair_new (w.alloc _) 0 0 _) _) hb
  simp only [World.size_alloc] at z0
  have Z:=z0
  obtain ⟨z1,z2,z3,z4,z5⟩:=z0
  go_wp2_with fail
  go_quiet (fail)
  go_wp2_with fail
  refine (least_any _ _ _).mono ?_
  rintro e w2 ⟨rfl,hb2⟩
  obtain ⟨g1,g2,g3,g4,g5⟩:=pair_below (pair_drewN Z _) hb2
  go_wp2
  refine bodyPost_ret (v:=spr (Sp.told _ _)) (by rw [results_cell_tmp rfl];go_simp) rfl ⟨rfl,?_⟩
  (repeat' (first | exact Below.refl _ _ | refine bstep ?_ hb | refine bstep ?_ hb2 | refine Below.setCell ?_ (by simp <;> omega) _ | refine balloc ?_ _ | refine Below.drew ?_ | refine bdrewN ?_ _))
set_option maxRecDepth 100000 in
set_option maxHeartbeats 800000 in
theorem scale_s1 (lo hi n:Int) (w:World) (h:Sp.vldB lo hi=true) (h1:-1099511627776≤n) (h2:n≤1099511627776) (t:1≤(Sp.mx (-lo) hi)) (tt:(Sp.mx (-lo) hi)≤1099511627776) (u:Sp.mx n (-n)≤1099511627776 / (Sp.mx (-lo) hi)) (p:-1099511627776≤lo * n∧lo * n≤1099511627776∧-1099511627776≤hi * n∧hi * n≤1099511627776) :
    Calls Tryz.prog 23 #[spv lo hi,.int .i64 n] w fun e w'=>e=.returned (spr (Sp.told (Sp.mn (lo * n) (hi * n)) (Sp.mx (lo * n) (hi * n))))∧Below w.heap.size w w':=by
  have q:=Sp.vld_iff.1 h
  have b1:Hid (-1099511627776≤lo):=(by omega:-1099511627776≤lo)
  have b2:Hid (lo≤1099511627776):=(by omega:lo≤1099511627776)
  have b3:Hid (-1099511627776≤hi):=(by omega:-1099511627776≤hi)
  have b4:Hid (hi≤1099511627776):=(by omega:hi≤1099511627776)
  have V0:IntKind.i64.wrap (lo * n)=lo * n:=IntWalk.i64_in _ (by omega)
  have V1:IntKind.i64.wrap (hi * n)=hi * n:=IntWalk.i64_in _ (by omega)
  clear q p
  go_enter Tryz.func23,Tryz.ntmps23
  go_wp2_with fail
  refine (valid_yes _ _ _ h).mono ?_
  rintro e w1 ⟨rfl,rfl⟩
  go_wp2_with fail
  refine (betw_yes _ _ _ _ h1 h2).mono ?_
  rintro e w1 ⟨rfl,rfl⟩
  go_wp2_with fail
  refine (sizes_any _ _ _ b1.out b2.out b3.out b4.out).mono ?_
  rintro e w1 ⟨rfl,hb⟩
  obtain ⟨x1,x2,x3,x4,x5⟩:=pair_below (pair_alloc (pair_alloc (pair_new w lo hi _) _) _) hb
  have z0:=pair_below (pair_alloc (pair_new (w.alloc _) 0 0 _) _) hb
  simp only [World.size_alloc] at z0
  have Z:=z0
  obtain ⟨z1,z2,z3,z4,z5⟩:=z0
  go_wp2_with fail
  go_quiet (fail)
  go_wp2_with fail
  refine (least_any _ _ _).mono ?_
  rintro e w2 ⟨rfl,hb2⟩
  obtain ⟨g1,g2,g3,g4,g5⟩:=pair_below (pair_drewN Z _) hb2
  go_wp2
  refine bodyPost_ret (v:=spr (Sp.told _ _)) (by rw [results_cell_tmp rfl];go_simp) rfl ⟨rfl,?_⟩
  (repeat' (first | exact Below.refl _ _ | refine bstep ?_ hb | refine bstep ?_ hb2 | refine Below.setCell ?_ (by simp <;> omega) _ | refine balloc ?_ _ | refine Below.drew ?_ | refine bdrewN ?_ _))
set_option maxRecDepth 100000 in
set_option maxHeartbeats 800000 in
theorem scale_s2 (lo hi n:Int) (w:World) (h:Sp.vldB lo hi=true) (h1:-1099511627776≤n) (h2:n≤1099511627776) (t:1≤(Sp.mx (-lo) hi)) (tt:(Sp.mx (-lo) hi)≤1099511627776) (u:1099511627776 / (Sp.mx (-lo) hi) < Sp.mx n (-n)) :
    Calls Tryz.prog 23 #[spv lo hi,.int .i64 n] w fun e w'=>e=.returned (spr ((0,0),4))∧Below w.heap.size w w':=by
  have q:=Sp.vld_iff.1 h
  have b1:Hid (-1099511627776≤lo):=(by omega:-1099511627776≤lo)
  have b2:Hid (lo≤1099511627776):=(by omega:lo≤1099511627776)
  have b3:Hid (-1099511627776≤hi):=(by omega:-1099511627776≤hi)
  have b4:Hid (hi≤1099511627776):=(by omega:hi≤1099511627776)
  clear q
  go_enter Tryz.func23,Tryz.ntmps23
  go_wp2_with fail
  refine (valid_yes _ _ _ h).mono ?_
  rintro e w1 ⟨rfl,rfl⟩
  go_wp2_with fail
  refine (betw_yes _ _ _ _ h1 h2).mono ?_
  rintro e w1 ⟨rfl,rfl⟩
  go_wp2_with fail
  refine (sizes_any _ _ _ b1.out b2.out b3.out b4.out).mono ?_
  rintro e w1 ⟨rfl,hb⟩
  obtain ⟨x1,x2,x3,x4,x5⟩:=pair_below (pair_alloc (pair_alloc (pair_new w lo hi _) _) _) hb
  have z0:=pair_below (pair_alloc (pair_new (w.alloc _) 0 0 _) _) hb
  simp only [World.size_alloc] at z0
  have Z:=z0
  obtain ⟨z1,z2,z3,z4,z5⟩:=z0
  go_wp2
  refine bodyPost_ret (v:=spr ((0,0),4)) (by rw [results_cell_tmp rfl];go_simp) rfl ⟨rfl,?_⟩
  (repeat' (first | exact Below.refl _ _ | refine bstep ?_ hb | refine Below.setCell ?_ (by simp <;> omega) _ | refine balloc ?_ _ | refine Below.drew ?_ | refine bdrewN ?_ _))
theorem scale_yes (lo hi n:Int) (w:World) (h:Sp.vldB lo hi=true) (h1:-1099511627776≤n) (h2:n≤1099511627776) :
    Calls Tryz.prog 23 #[spv lo hi,.int .i64 n] w fun e w'=>e=.returned (spr (Sp.told (Sp.mn (lo * n) (hi * n)) (Sp.mx (lo * n) (hi * n))))∧Below w.heap.size w w':=by
  have q:=Sp.vld_iff.1 h
  have e1:=Sp.mx_eq (-lo) hi
  have e2:=Sp.mx_eq n (-n)
  rcases Int.lt_or_le 0 (Sp.mx (-lo) hi) with t | t
  · rcases Int.lt_or_le (1099511627776 / (Sp.mx (-lo) hi)) (Sp.mx n (-n)) with u | u
    · rw [scale_out rfl q.2.1 ((div_test t).1 u) (by omega)]
      exact scale_s2 lo hi n w h h1 h2 t (by omega) u
    · exact scale_s1 lo hi n w h h1 h2 t (by omega) u (scale_in rfl q.2.1 (by have:=div_test (a:=Sp.mx n (-n)) t;omega) (by omega))
  · refine scale_s0 lo hi n w h h1 h2 t ?_
    obtain rfl:lo=0:=by omega
    obtain rfl:hi=0:=by omega
    simp
theorem scale_no1 (lo hi n:Int) (w:World) (h:Sp.vldB lo hi=false) :
    Calls Tryz.prog 23 #[spv lo hi,.int .i64 n] w fun e w'=>e=.returned (spr ((0,0),1))∧Below w.heap.size w w':=by
  go_enter Tryz.func23,Tryz.ntmps23
  go_wp2_with fail
  refine (valid_no _ _ _ h).mono ?_
  rintro e w1 ⟨rfl,rfl⟩
  go_wp2
  refine bodyPost_ret (v:=spr ((0,0),1)) (by rw [results_cell_tmp rfl];go_simp) rfl ⟨rfl,?_⟩
  (repeat' (first | exact Below.refl _ _ | refine Below.setCell ?_ (by simp <;> omega) _ | refine balloc ?_ _ | refine Below.drew ?_ | refine bdrewN ?_ _))
theorem scale_no2 (lo hi n:Int) (w:World) (h:Sp.vldB lo hi=true) (k:¬ (-1099511627776≤n∧n≤1099511627776)) :
    Calls Tryz.prog 23 #[spv lo hi,.int .i64 n] w fun e w'=>e=.returned (spr ((0,0),1))∧Below w.heap.size w w':=by
  rcases Int.lt_or_le n (-1099511627776) with h1 | h1
  · clear k
    go_enter Tryz.func23,Tryz.ntmps23
    go_wp2_with fail
    refine (valid_yes _ _ _ h).mono ?_
    rintro e w1 ⟨rfl,rfl⟩
    go_wp2
    refine bodyPost_ret (v:=spr ((0,0),1)) (by rw [results_cell_tmp rfl];go_simp) rfl ⟨rfl,?_⟩
    (repeat' (first | exact Below.refl _ _ | refine Below.setCell ?_ (by simp <;> omega) _ | refine balloc ?_ _ | refine Below.drew ?_ | refine bdrewN ?_ _))
  · have h2:decide (n≤1099511627776)=false:=decide_eq_false (by omega)
    clear k
    go_enter Tryz.func23,Tryz.ntmps23
    go_wp2_with fail
    refine (valid_yes _ _ _ h).mono ?_
    rintro e w1 ⟨rfl,rfl⟩
    go_wp2
    refine bodyPost_ret (v:=spr ((0,0),1)) (by rw [results_cell_tmp rfl];go_simp) rfl ⟨rfl,?_⟩
    (repeat' (first | exact Below.refl _ _ | refine Below.setCell ?_ (by simp <;> omega) _ | refine balloc ?_ _ | refine Below.drew ?_ | refine bdrewN ?_ _))
theorem scale_any (lo hi n:Int) (w:World) :
    Calls Tryz.prog 23 #[spv lo hi,.int .i64 n] w fun e w'=>e=.returned (spr (scaleR lo hi n))∧Below w.heap.size w w':=by
  unfold scaleR
  split
  · rename_i q;exact scale_yes _ _ _ _ q.1 q.2.1 q.2.2
  · rename_i q
    cases h:Sp.vldB lo hi
    · exact scale_no1 _ _ _ _ h
    · exact scale_no2 _ _ _ _ h (fun k=>q ⟨h,k⟩)
end Go.Proofs.YtgchcnpgjfoadaaGreat
