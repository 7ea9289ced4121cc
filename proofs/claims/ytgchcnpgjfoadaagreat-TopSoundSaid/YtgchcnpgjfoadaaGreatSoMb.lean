import Derived.Test.YtgchcnpgjfoadaaGreatSoMa
import Derived.Test.YtgchcnpgjfoadaaGreatInvM
import Derived.Test.YtgchcnpgjfoadaaGreatSumM
import Derived.Test.YtgchcnpgjfoadaaGreatFiCo
import Derived.Deep.DeepCutAuto
import Derived.Test.YtgchcnpgjfoadaaGreatScM
namespace Go.Proofs.YtgchcnpgjfoadaaGreat
open Go.ChangeShapes Go.WideShapes Go.RowKit
open Sh
attribute [local go_sem 1000000] run_min_mn run_max_mx
theorem results_cell8 {fn:Func} {p:Tmp} {ty:TypeId} (h:fn.results=#[.cell p ty]) (tmps:Array Value) (P:Program) (w:World) :
    (results fn tmps).run P w =
      ((asAddr (tmps.getD p undef)).run P w).andThen fun a w₁=>(loadVar ty a).run P w₁:=by
  simp only [results,h]
  simp [Sem.run_bind,Result.andThen]
abbrev shv (c:P3) (i o k:Int):Value:=.agg #[.int .i64 c.1,.int .i64 c.2.1,.int .i64 c.2.2,.int .i64 i,.int .i64 o,.int .i64 k]
abbrev shb (c:P3) (i o k:Int) (t:TypeId):Obj:=.cells #[.int .i64 c.1,.int .i64 c.2.1,.int .i64 c.2.2,.int .i64 i,.int .i64 o,.int .i64 k] t
def OwnSh (w:World) (b:Nat) (c:P3) (i o k:Int):Prop:=(w.cell? ⟨b,0,none⟩=some (.int .i64 c.1)∧w.cell? ⟨b,1,none⟩=some (.int .i64 c.2.1)∧w.cell? ⟨b,2,none⟩=some (.int .i64 c.2.2)∧w.cell? ⟨b,3,none⟩=some (.int .i64 i)∧w.cell? ⟨b,4,none⟩=some (.int .i64 o)∧w.cell? ⟨b,5,none⟩=some (.int .i64 k))∧b < w.heap.size
theorem ownSh_new (w:World) (c:P3) (i o k:Int) (t:TypeId):OwnSh (w.alloc (shb c i o k t)) w.heap.size c i o k:=⟨⟨by go_simp,by go_simp,by go_simp,by go_simp,by go_simp,by go_simp⟩,by simp⟩
theorem ownSh_in {w w1:World} {b B:Nat} {c:P3} {i o k:Int} (h:OwnSh w b c i o k) (hb:Below B w w1) (l:b < B):OwnSh w1 b c i o k:=by
  obtain ⟨⟨h0,h1,h2,h3,h4,h5⟩,l2⟩:=h
  exact ⟨⟨(hb.cell (p:=⟨b,0,none⟩) l).trans h0,(hb.cell (p:=⟨b,1,none⟩) l).trans h1,(hb.cell (p:=⟨b,2,none⟩) l).trans h2,(hb.cell (p:=⟨b,3,none⟩) l).trans h3,(hb.cell (p:=⟨b,4,none⟩) l).trans h4,(hb.cell (p:=⟨b,5,none⟩) l).trans h5⟩,Nat.lt_of_lt_of_le l2 hb.size⟩
theorem ownSh_below {w w1:World} {b:Nat} {c:P3} {i o k:Int} (h:OwnSh w b c i o k) (hb:Below w.heap.size w w1):OwnSh w1 b c i o k:=ownSh_in h hb h.2
theorem ownSh_alloc {w:World} {b:Nat} {c:P3} {i o k:Int} (h:OwnSh w b c i o k) (ob:Obj):OwnSh (w.alloc ob) b c i o k:=ownSh_below h ((Below.refl _ _).alloc (Nat.le_refl _) _)
theorem ownSh_drew {w:World} {b:Nat} {c:P3} {i o k:Int} (h:OwnSh w b c i o k):OwnSh w.drew b c i o k:=h
theorem pair_drew' {w:World} {b:Nat} {x y:Int} (h:Pair w b x y):Pair w.drew b x y:=h
theorem below_put6 {N:Nat} {u w:World} {b:Nat} {v0 v1 v2 v3 v4 v5:Value} (h:Below N u w) (k:N≤b):Below N u ((((((w.setCell ⟨b,0,none⟩ v0).setCell ⟨b,1,none⟩ v1).setCell ⟨b,2,none⟩ v2).setCell ⟨b,3,none⟩ v3).setCell ⟨b,4,none⟩ v4).setCell ⟨b,5,none⟩ v5) :=
  (Below.setCell (Below.setCell (Below.setCell (Below.setCell (Below.setCell (Below.setCell h k _) k _) k _) k _) k _) k _)
def scl (d:Int):Int:=2 ^ d.toNat
def inn (s d q:Int):Int:=scl d * s * (q - 1) * (scl d * s * (q - 1))
def out8 (s d q:Int):Int:=scl d * s * q * (scl d * s * q)
theorem sh_bd {K s q:Int} (k1:1≤K) (k2:K≤8) (s1:1≤s) (s2:s≤16) (q1:1≤q) (q2:q≤2000):(1≤K * s∧K * s≤128)∧(0≤K * s * (q - 1)∧K * s * (q - 1)≤256000)∧(0≤K * s * q∧K * s * q≤256000)∧(0≤K * s * (q - 1) * (K * s * (q - 1))∧K * s * (q - 1) * (K * s * (q - 1))≤65536000000)∧(0≤K * s * q * (K * s * q)∧K * s * q * (K * s * q)≤65536000000):=by
  have a:=mul_bd (x:=K) (y:=s) (A:=8) (B:=16) (by omega) k2 (by omega) s2
  have a1:1 * 1≤K * s:=Int.mul_le_mul k1 s1 (by decide) (by omega)
  have b:=mul_bd (x:=K * s) (y:=q - 1) (A:=128) (B:=2000) (by omega) (by omega) (by omega) (by omega)
  have b1:0≤K * s * (q - 1):=Int.mul_nonneg (by omega) (by omega)
  have c:=mul_bd (x:=K * s) (y:=q) (A:=128) (B:=2000) (by omega) (by omega) (by omega) (by omega)
  have c1:0≤K * s * q:=Int.mul_nonneg (by omega) (by omega)
  have e:=mul_bd (x:=K * s * (q - 1)) (y:=K * s * (q - 1)) (A:=256000) (B:=256000) (by omega) (by omega) (by omega) (by omega)
  have f:=mul_bd (x:=K * s * q) (y:=K * s * q) (A:=256000) (B:=256000) (by omega) (by omega) (by omega) (by omega)
  exact ⟨⟨by omega,by omega⟩,⟨b1,by omega⟩,⟨c1,by omega⟩,⟨sq_pos' _,by omega⟩,⟨sq_pos' _,by omega⟩⟩
def giR (c:P3) (i o k:Int) (t:P9):Sp.R :=
  if farN t c≤i∨o < nearN t c then ((0,0),0) else
  if Sp.mx (nearN t c) i=0 then ((0,0),10) else
  if nearN t c≤i∨o < farN t c then ((0,(invR (Sp.mx (nearN t c) i) k).1.2),0) else (((invR (farN t c) k).1.1,(invR (Sp.mx (nearN t c) i) k).1.2),0)
theorem sg_keep {W:World} {b0 b1:Nat} {c:P3} {i o k:Int} {x y z:P3} (h:OwnSh W b0 c i o k) (g:Pan W b1 x y z):W.cell? ⟨b0,0,none⟩=some (.int .i64 c.1)∧W.cell? ⟨b0,1,none⟩=some (.int .i64 c.2.1)∧W.cell? ⟨b0,2,none⟩=some (.int .i64 c.2.2)∧W.cell? ⟨b1,0,none⟩=some (.int .i64 x.1)∧W.cell? ⟨b1,1,none⟩=some (.int .i64 x.2.1)∧W.cell? ⟨b1,2,none⟩=some (.int .i64 x.2.2)∧W.cell? ⟨b1,3,none⟩=some (.int .i64 y.1)∧W.cell? ⟨b1,4,none⟩=some (.int .i64 y.2.1)∧W.cell? ⟨b1,5,none⟩=some (.int .i64 y.2.2)∧W.cell? ⟨b1,6,none⟩=some (.int .i64 z.1)∧W.cell? ⟨b1,7,none⟩=some (.int .i64 z.2.1)∧W.cell? ⟨b1,8,none⟩=some (.int .i64 z.2.2):=by
  obtain ⟨⟨h0,h1,h2,h3,h4,h5⟩,_⟩:=h
  obtain ⟨k0,k1,k2,k3,k4,k5,k6,k7,k8,_⟩:=g
  exact ⟨h0,h1,h2,k0,k1,k2,k3,k4,k5,k6,k7,k8⟩
set_option maxRecDepth 100000 in
set_option maxHeartbeats 2000000 in
theorem giv_1 (c:P3) (i o k:Int) (x y z:P3) (n f:Int) (w:World) (NN:Hid (∀ W,Calls Tryz.prog 47 #[pnv x y z,ptv c] W fun e w'=>e=.returned (.int .i64 n)∧Below W.heap.size W w')) (FF:Hid (∀ W,Calls Tryz.prog 48 #[pnv x y z,ptv c] W fun e w'=>e=.returned (.int .i64 f)∧Below W.heap.size W w')) (h1:f≤i):Calls Tryz.prog 115 #[shv c i o k,pnv x y z] w fun e w'=>e=.returned (spr ((0,0),0))∧Below w.heap.size w w':=by
  go_enter Tryz.func115,Tryz.ntmps115
  go_wp2_with fail
  have i0:=ownSh_drew (ownSh_alloc (ownSh_alloc (ownSh_new w c i o k 117) (pnc x y z 59)) (.cells #[.int .i64 0,.int .i64 0] 34))
  have i1:=pan_drew (pan_alloc (pan_new (w.alloc (shb c i o k 117)) x y z 59) (.cells #[.int .i64 0,.int .i64 0] 34))
  have i2:=pair_drew' (pair_new ((w.alloc (shb c i o k 117)).alloc (pnc x y z 59)) 0 0 34)
  simp only [World.size_alloc] at i1 i2
  go_region_held3 (fun w'=>w'.cell? ⟨w.heap.size,0,none⟩=some (.int .i64 c.1)∧w'.cell? ⟨w.heap.size,1,none⟩=some (.int .i64 c.2.1)∧w'.cell? ⟨w.heap.size,2,none⟩=some (.int .i64 c.2.2)∧w'.cell? ⟨w.heap.size + 1,0,none⟩=some (.int .i64 x.1)∧w'.cell? ⟨w.heap.size + 1,1,none⟩=some (.int .i64 x.2.1)∧w'.cell? ⟨w.heap.size + 1,2,none⟩=some (.int .i64 x.2.2)∧w'.cell? ⟨w.heap.size + 1,3,none⟩=some (.int .i64 y.1)∧w'.cell? ⟨w.heap.size + 1,4,none⟩=some (.int .i64 y.2.1)∧w'.cell? ⟨w.heap.size + 1,5,none⟩=some (.int .i64 y.2.2)∧w'.cell? ⟨w.heap.size + 1,6,none⟩=some (.int .i64 z.1)∧w'.cell? ⟨w.heap.size + 1,7,none⟩=some (.int .i64 z.2.1)∧w'.cell? ⟨w.heap.size + 1,8,none⟩=some (.int .i64 z.2.2))
    (first | (refine sg_keep i0 i1) | (refine sg_keep q0 q1) | (refine sg_keep r0 r1))
    (first | (go_at_call 47;(with_reducible refine (NN.out _).mono ?_);rintro e v0 ⟨rfl,hv0⟩;have q0:=ownSh_below i0 hv0;have q1:=pan_below i1 hv0;have q2:=pair_below i2 hv0) | (go_at_call 48;(with_reducible refine (FF.out _).mono ?_);rintro e v1 ⟨rfl,hv1⟩;have r0:=ownSh_below q0 hv1;have r1:=pan_below q1 hv1;have r2:=pair_below q2 hv1))
  have BB:=Lib.hid (show Below w.heap.size w v1 by (repeat' (first | exact Below.refl _ _ | refine bstep ?_ hv1 | refine bstep ?_ hv0 | refine Below.setCell ?_ (by simp <;> omega) _ | refine balloc ?_ _ | refine Below.drew ?_ | refine bdrewN ?_ _)))
  have R0:=Lib.hid r0
  have R2:=Lib.hid r2
  clear i0 i1 i2 q0 q1 q2 r0 r1 r2 hv0 hv1 NN FF
  obtain ⟨⟨c0,c1,c2,c3,c4,c5⟩,cl⟩:=R0.out
  obtain ⟨g0,g1,g2,g3,gl⟩:=R2.out
  go_wp2
  refine bodyPost_ret (v:=spr ((0,0),0)) (by rw [results_cell_tmp rfl];go_simp) rfl ⟨rfl,?_⟩
  have hB:=BB.out
  (repeat' (first | exact Below.refl _ _ | refine bstep ?_ hB | refine Below.setCell ?_ (by simp <;> omega) _ | refine balloc ?_ _ | refine Below.drew ?_ | refine bdrewN ?_ _))
set_option maxRecDepth 100000 in
set_option maxHeartbeats 2000000 in
theorem giv_2 (c:P3) (i o k:Int) (x y z:P3) (n f:Int) (w:World) (NN:Hid (∀ W,Calls Tryz.prog 47 #[pnv x y z,ptv c] W fun e w'=>e=.returned (.int .i64 n)∧Below W.heap.size W w')) (FF:Hid (∀ W,Calls Tryz.prog 48 #[pnv x y z,ptv c] W fun e w'=>e=.returned (.int .i64 f)∧Below W.heap.size W w')) (h1:decide (f≤i)=false) (h2:o < n):Calls Tryz.prog 115 #[shv c i o k,pnv x y z] w fun e w'=>e=.returned (spr ((0,0),0))∧Below w.heap.size w w':=by
  go_enter Tryz.func115,Tryz.ntmps115
  go_wp2_with fail
  have i0:=ownSh_drew (ownSh_alloc (ownSh_alloc (ownSh_new w c i o k 117) (pnc x y z 59)) (.cells #[.int .i64 0,.int .i64 0] 34))
  have i1:=pan_drew (pan_alloc (pan_new (w.alloc (shb c i o k 117)) x y z 59) (.cells #[.int .i64 0,.int .i64 0] 34))
  have i2:=pair_drew' (pair_new ((w.alloc (shb c i o k 117)).alloc (pnc x y z 59)) 0 0 34)
  simp only [World.size_alloc] at i1 i2
  go_region_held3 (fun w'=>w'.cell? ⟨w.heap.size,0,none⟩=some (.int .i64 c.1)∧w'.cell? ⟨w.heap.size,1,none⟩=some (.int .i64 c.2.1)∧w'.cell? ⟨w.heap.size,2,none⟩=some (.int .i64 c.2.2)∧w'.cell? ⟨w.heap.size + 1,0,none⟩=some (.int .i64 x.1)∧w'.cell? ⟨w.heap.size + 1,1,none⟩=some (.int .i64 x.2.1)∧w'.cell? ⟨w.heap.size + 1,2,none⟩=some (.int .i64 x.2.2)∧w'.cell? ⟨w.heap.size + 1,3,none⟩=some (.int .i64 y.1)∧w'.cell? ⟨w.heap.size + 1,4,none⟩=some (.int .i64 y.2.1)∧w'.cell? ⟨w.heap.size + 1,5,none⟩=some (.int .i64 y.2.2)∧w'.cell? ⟨w.heap.size + 1,6,none⟩=some (.int .i64 z.1)∧w'.cell? ⟨w.heap.size + 1,7,none⟩=some (.int .i64 z.2.1)∧w'.cell? ⟨w.heap.size + 1,8,none⟩=some (.int .i64 z.2.2))
    (first | (refine sg_keep i0 i1) | (refine sg_keep q0 q1) | (refine sg_keep r0 r1))
    (first | (go_at_call 47;(with_reducible refine (NN.out _).mono ?_);rintro e v0 ⟨rfl,hv0⟩;have q0:=ownSh_below i0 hv0;have q1:=pan_below i1 hv0;have q2:=pair_below i2 hv0) | (go_at_call 48;(with_reducible refine (FF.out _).mono ?_);rintro e v1 ⟨rfl,hv1⟩;have r0:=ownSh_below q0 hv1;have r1:=pan_below q1 hv1;have r2:=pair_below q2 hv1))
  have BB:=Lib.hid (show Below w.heap.size w v1 by (repeat' (first | exact Below.refl _ _ | refine bstep ?_ hv1 | refine bstep ?_ hv0 | refine Below.setCell ?_ (by simp <;> omega) _ | refine balloc ?_ _ | refine Below.drew ?_ | refine bdrewN ?_ _)))
  have R0:=Lib.hid r0
  have R2:=Lib.hid r2
  clear i0 i1 i2 q0 q1 q2 r0 r1 r2 hv0 hv1 NN FF
  obtain ⟨⟨c0,c1,c2,c3,c4,c5⟩,cl⟩:=R0.out
  obtain ⟨g0,g1,g2,g3,gl⟩:=R2.out
  go_wp2
  refine bodyPost_ret (v:=spr ((0,0),0)) (by rw [results_cell_tmp rfl];go_simp) rfl ⟨rfl,?_⟩
  have hB:=BB.out
  (repeat' (first | exact Below.refl _ _ | refine bstep ?_ hB | refine Below.setCell ?_ (by simp <;> omega) _ | refine balloc ?_ _ | refine Below.drew ?_ | refine bdrewN ?_ _))
set_option maxRecDepth 100000 in
set_option maxHeartbeats 2000000 in
theorem giv_3 (c:P3) (i o k:Int) (x y z:P3) (n f:Int) (w:World) (NN:Hid (∀ W,Calls Tryz.prog 47 #[pnv x y z,ptv c] W fun e w'=>e=.returned (.int .i64 n)∧Below W.heap.size W w')) (FF:Hid (∀ W,Calls Tryz.prog 48 #[pnv x y z,ptv c] W fun e w'=>e=.returned (.int .i64 f)∧Below W.heap.size W w')) (h1:decide (f≤i)=false) (h2:decide (o < n)=false) (h3:Sp.mx n i=0):Calls Tryz.prog 115 #[shv c i o k,pnv x y z] w fun e w'=>e=.returned (spr ((0,0),10))∧Below w.heap.size w w':=by
  go_enter Tryz.func115,Tryz.ntmps115
  go_wp2_with fail
  have i0:=ownSh_drew (ownSh_alloc (ownSh_alloc (ownSh_new w c i o k 117) (pnc x y z 59)) (.cells #[.int .i64 0,.int .i64 0] 34))
  have i1:=pan_drew (pan_alloc (pan_new (w.alloc (shb c i o k 117)) x y z 59) (.cells #[.int .i64 0,.int .i64 0] 34))
  have i2:=pair_drew' (pair_new ((w.alloc (shb c i o k 117)).alloc (pnc x y z 59)) 0 0 34)
  simp only [World.size_alloc] at i1 i2
  go_region_held3 (fun w'=>w'.cell? ⟨w.heap.size,0,none⟩=some (.int .i64 c.1)∧w'.cell? ⟨w.heap.size,1,none⟩=some (.int .i64 c.2.1)∧w'.cell? ⟨w.heap.size,2,none⟩=some (.int .i64 c.2.2)∧w'.cell? ⟨w.heap.size + 1,0,none⟩=some (.int .i64 x.1)∧w'.cell? ⟨w.heap.size + 1,1,none⟩=some (.int .i64 x.2.1)∧w'.cell? ⟨w.heap.size + 1,2,none⟩=some (.int .i64 x.2.2)∧w'.cell? ⟨w.heap.size + 1,3,none⟩=some (.int .i64 y.1)∧w'.cell? ⟨w.heap.size + 1,4,none⟩=some (.int .i64 y.2.1)∧w'.cell? ⟨w.heap.size + 1,5,none⟩=some (.int .i64 y.2.2)∧w'.cell? ⟨w.heap.size + 1,6,none⟩=some (.int .i64 z.1)∧w'.cell? ⟨w.heap.size + 1,7,none⟩=some (.int .i64 z.2.1)∧w'.cell? ⟨w.heap.size + 1,8,none⟩=some (.int .i64 z.2.2))
    (first | (refine sg_keep i0 i1) | (refine sg_keep q0 q1) | (refine sg_keep r0 r1))
    (first | (go_at_call 47;(with_reducible refine (NN.out _).mono ?_);rintro e v0 ⟨rfl,hv0⟩;have q0:=ownSh_below i0 hv0;have q1:=pan_below i1 hv0;have q2:=pair_below i2 hv0) | (go_at_call 48;(with_reducible refine (FF.out _).mono ?_);rintro e v1 ⟨rfl,hv1⟩;have r0:=ownSh_below q0 hv1;have r1:=pan_below q1 hv1;have r2:=pair_below q2 hv1))
  have BB:=Lib.hid (show Below w.heap.size w v1 by (repeat' (first | exact Below.refl _ _ | refine bstep ?_ hv1 | refine bstep ?_ hv0 | refine Below.setCell ?_ (by simp <;> omega) _ | refine balloc ?_ _ | refine Below.drew ?_ | refine bdrewN ?_ _)))
  have R0:=Lib.hid r0
  have R2:=Lib.hid r2
  clear i0 i1 i2 q0 q1 q2 r0 r1 r2 hv0 hv1 NN FF
  obtain ⟨⟨c0,c1,c2,c3,c4,c5⟩,cl⟩:=R0.out
  obtain ⟨g0,g1,g2,g3,gl⟩:=R2.out
  go_wp2
  refine bodyPost_ret (v:=spr ((0,0),10)) (by rw [results_cell_tmp rfl];go_simp) rfl ⟨rfl,?_⟩
  have hB:=BB.out
  (repeat' (first | exact Below.refl _ _ | refine bstep ?_ hB | refine Below.setCell ?_ (by simp <;> omega) _ | refine balloc ?_ _ | refine Below.drew ?_ | refine bdrewN ?_ _))
set_option maxRecDepth 100000 in
set_option maxHeartbeats 2000000 in
theorem giv_4 (c:P3) (i o k:Int) (x y z:P3) (n f:Int) (w:World) (NN:Hid (∀ W,Calls Tryz.prog 47 #[pnv x y z,ptv c] W fun e w'=>e=.returned (.int .i64 n)∧Below W.heap.size W w')) (FF:Hid (∀ W,Calls Tryz.prog 48 #[pnv x y z,ptv c] W fun e w'=>e=.returned (.int .i64 f)∧Below W.heap.size W w')) (m:Int) (r1:Sp.R) (h1:decide (f≤i)=false) (h2:decide (o < n)=false) (h3:(m == 0)=false) (hm:Sp.mx n i=m) (V1:Hid (∀ W,Calls Tryz.prog 76 #[.int .i64 m,.int .i64 k] W fun e w'=>e=.returned (spr r1)∧Below W.heap.size W w')) (h4:n≤i):Calls Tryz.prog 115 #[shv c i o k,pnv x y z] w fun e w'=>e=.returned (spr ((0,r1.1.2),0))∧Below w.heap.size w w':=by
  go_enter Tryz.func115,Tryz.ntmps115
  go_wp2_with fail
  have i0:=ownSh_drew (ownSh_alloc (ownSh_alloc (ownSh_new w c i o k 117) (pnc x y z 59)) (.cells #[.int .i64 0,.int .i64 0] 34))
  have i1:=pan_drew (pan_alloc (pan_new (w.alloc (shb c i o k 117)) x y z 59) (.cells #[.int .i64 0,.int .i64 0] 34))
  have i2:=pair_drew' (pair_new ((w.alloc (shb c i o k 117)).alloc (pnc x y z 59)) 0 0 34)
  simp only [World.size_alloc] at i1 i2
  go_region_held3 (fun w'=>w'.cell? ⟨w.heap.size,0,none⟩=some (.int .i64 c.1)∧w'.cell? ⟨w.heap.size,1,none⟩=some (.int .i64 c.2.1)∧w'.cell? ⟨w.heap.size,2,none⟩=some (.int .i64 c.2.2)∧w'.cell? ⟨w.heap.size + 1,0,none⟩=some (.int .i64 x.1)∧w'.cell? ⟨w.heap.size + 1,1,none⟩=some (.int .i64 x.2.1)∧w'.cell? ⟨w.heap.size + 1,2,none⟩=some (.int .i64 x.2.2)∧w'.cell? ⟨w.heap.size + 1,3,none⟩=some (.int .i64 y.1)∧w'.cell? ⟨w.heap.size + 1,4,none⟩=some (.int .i64 y.2.1)∧w'.cell? ⟨w.heap.size + 1,5,none⟩=some (.int .i64 y.2.2)∧w'.cell? ⟨w.heap.size + 1,6,none⟩=some (.int .i64 z.1)∧w'.cell? ⟨w.heap.size + 1,7,none⟩=some (.int .i64 z.2.1)∧w'.cell? ⟨w.heap.size + 1,8,none⟩=some (.int .i64 z.2.2))
    (first | (refine sg_keep i0 i1) | (refine sg_keep q0 q1) | (refine sg_keep r0 r1))
    (first | (go_at_call 47;(with_reducible refine (NN.out _).mono ?_);rintro e v0 ⟨rfl,hv0⟩;have q0:=ownSh_below i0 hv0;have q1:=pan_below i1 hv0;have q2:=pair_below i2 hv0) | (go_at_call 48;(with_reducible refine (FF.out _).mono ?_);rintro e v1 ⟨rfl,hv1⟩;have r0:=ownSh_below q0 hv1;have r1:=pan_below q1 hv1;have r2:=pair_below q2 hv1))
  have BB:=Lib.hid (show Below w.heap.size w v1 by (repeat' (first | exact Below.refl _ _ | refine bstep ?_ hv1 | refine bstep ?_ hv0 | refine Below.setCell ?_ (by simp <;> omega) _ | refine balloc ?_ _ | refine Below.drew ?_ | refine bdrewN ?_ _)))
  have R0:=Lib.hid r0
  have R2:=Lib.hid r2
  clear i0 i1 i2 q0 q1 q2 r0 r1 r2 hv0 hv1 NN FF
  obtain ⟨⟨c0,c1,c2,c3,c4,c5⟩,cl⟩:=R0.out
  obtain ⟨g0,g1,g2,g3,gl⟩:=R2.out
  go_wp2_with fail
  refine (V1.out _).mono ?_
  rintro e w2 ⟨rfl,hb2⟩
  have R3:=Lib.hid (ownSh_below R0.out hb2)
  have R4:=Lib.hid (pair_below R2.out hb2)
  clear c0 c1 c2 c3 c4 c5 cl g0 g1 g2 g3 gl
  obtain ⟨⟨c0,c1,c2,c3,c4,c5⟩,cl⟩:=R3.out
  obtain ⟨g0,g1,g2,g3,gl⟩:=R4.out
  go_wp2
  refine bodyPost_ret (v:=spr ((0,r1.1.2),0)) (by rw [results_cell_tmp rfl];go_simp) rfl ⟨rfl,?_⟩
  have hB:=BB.out
  (repeat' (first | exact Below.refl _ _ | refine bstep ?_ hb2 | refine bstep ?_ hB | refine Below.setCell ?_ (by simp <;> omega) _ | refine balloc ?_ _ | refine Below.drew ?_ | refine bdrewN ?_ _))
set_option maxRecDepth 100000 in
set_option maxHeartbeats 2000000 in
theorem giv_5 (c:P3) (i o k:Int) (x y z:P3) (n f:Int) (w:World) (NN:Hid (∀ W,Calls Tryz.prog 47 #[pnv x y z,ptv c] W fun e w'=>e=.returned (.int .i64 n)∧Below W.heap.size W w')) (FF:Hid (∀ W,Calls Tryz.prog 48 #[pnv x y z,ptv c] W fun e w'=>e=.returned (.int .i64 f)∧Below W.heap.size W w')) (m:Int) (r1:Sp.R) (h1:decide (f≤i)=false) (h2:decide (o < n)=false) (h3:(m == 0)=false) (hm:Sp.mx n i=m) (V1:Hid (∀ W,Calls Tryz.prog 76 #[.int .i64 m,.int .i64 k] W fun e w'=>e=.returned (spr r1)∧Below W.heap.size W w')) (h4:decide (n≤i)=false) (h5:o < f):Calls Tryz.prog 115 #[shv c i o k,pnv x y z] w fun e w'=>e=.returned (spr ((0,r1.1.2),0))∧Below w.heap.size w w':=by
  go_enter Tryz.func115,Tryz.ntmps115
  go_wp2_with fail
  have i0:=ownSh_drew (ownSh_alloc (ownSh_alloc (ownSh_new w c i o k 117) (pnc x y z 59)) (.cells #[.int .i64 0,.int .i64 0] 34))
  have i1:=pan_drew (pan_alloc (pan_new (w.alloc (shb c i o k 117)) x y z 59) (.cells #[.int .i64 0,.int .i64 0] 34))
  have i2:=pair_drew' (pair_new ((w.alloc (shb c i o k 117)).alloc (pnc x y z 59)) 0 0 34)
  simp only [World.size_alloc] at i1 i2
  go_region_held3 (fun w'=>w'.cell? ⟨w.heap.size,0,none⟩=some (.int .i64 c.1)∧w'.cell? ⟨w.heap.size,1,none⟩=some (.int .i64 c.2.1)∧w'.cell? ⟨w.heap.size,2,none⟩=some (.int .i64 c.2.2)∧w'.cell? ⟨w.heap.size + 1,0,none⟩=some (.int .i64 x.1)∧w'.cell? ⟨w.heap.size + 1,1,none⟩=some (.int .i64 x.2.1)∧w'.cell? ⟨w.heap.size + 1,2,none⟩=some (.int .i64 x.2.2)∧w'.cell? ⟨w.heap.size + 1,3,none⟩=some (.int .i64 y.1)∧w'.cell? ⟨w.heap.size + 1,4,none⟩=some (.int .i64 y.2.1)∧w'.cell? ⟨w.heap.size + 1,5,none⟩=some (.int .i64 y.2.2)∧w'.cell? ⟨w.heap.size + 1,6,none⟩=some (.int .i64 z.1)∧w'.cell? ⟨w.heap.size + 1,7,none⟩=some (.int .i64 z.2.1)∧w'.cell? ⟨w.heap.size + 1,8,none⟩=some (.int .i64 z.2.2))
    (first | (refine sg_keep i0 i1) | (refine sg_keep q0 q1) | (refine sg_keep r0 r1))
    (first | (go_at_call 47;(with_reducible refine (NN.out _).mono ?_);rintro e v0 ⟨rfl,hv0⟩;have q0:=ownSh_below i0 hv0;have q1:=pan_below i1 hv0;have q2:=pair_below i2 hv0) | (go_at_call 48;(with_reducible refine (FF.out _).mono ?_);rintro e v1 ⟨rfl,hv1⟩;have r0:=ownSh_below q0 hv1;have r1:=pan_below q1 hv1;have r2:=pair_below q2 hv1))
  have BB:=Lib.hid (show Below w.heap.size w v1 by (repeat' (first | exact Below.refl _ _ | refine bstep ?_ hv1 | refine bstep ?_ hv0 | refine Below.setCell ?_ (by simp <;> omega) _ | refine balloc ?_ _ | refine Below.drew ?_ | refine bdrewN ?_ _)))
  have R0:=Lib.hid r0
  have R2:=Lib.hid r2
  clear i0 i1 i2 q0 q1 q2 r0 r1 r2 hv0 hv1 NN FF
  obtain ⟨⟨c0,c1,c2,c3,c4,c5⟩,cl⟩:=R0.out
  obtain ⟨g0,g1,g2,g3,gl⟩:=R2.out
  go_wp2_with fail
  refine (V1.out _).mono ?_
  rintro e w2 ⟨rfl,hb2⟩
  have R3:=Lib.hid (ownSh_below R0.out hb2)
  have R4:=Lib.hid (pair_below R2.out hb2)
  clear c0 c1 c2 c3 c4 c5 cl g0 g1 g2 g3 gl
  obtain ⟨⟨c0,c1,c2,c3,c4,c5⟩,cl⟩:=R3.out
  obtain ⟨g0,g1,g2,g3,gl⟩:=R4.out
  go_wp2
  refine bodyPost_ret (v:=spr ((0,r1.1.2),0)) (by rw [results_cell_tmp rfl];go_simp) rfl ⟨rfl,?_⟩
  have hB:=BB.out
  (repeat' (first | exact Below.refl _ _ | refine bstep ?_ hb2 | refine bstep ?_ hB | refine Below.setCell ?_ (by simp <;> omega) _ | refine balloc ?_ _ | refine Below.drew ?_ | refine bdrewN ?_ _))
set_option maxRecDepth 100000 in
set_option maxHeartbeats 2000000 in
theorem giv_6 (c:P3) (i o k:Int) (x y z:P3) (n f:Int) (w:World) (NN:Hid (∀ W,Calls Tryz.prog 47 #[pnv x y z,ptv c] W fun e w'=>e=.returned (.int .i64 n)∧Below W.heap.size W w')) (FF:Hid (∀ W,Calls Tryz.prog 48 #[pnv x y z,ptv c] W fun e w'=>e=.returned (.int .i64 f)∧Below W.heap.size W w')) (m:Int) (r1 r2:Sp.R) (h1:decide (f≤i)=false) (h2:decide (o < n)=false) (h3:(m == 0)=false) (hm:Sp.mx n i=m) (V1:Hid (∀ W,Calls Tryz.prog 76 #[.int .i64 m,.int .i64 k] W fun e w'=>e=.returned (spr r1)∧Below W.heap.size W w')) (V2:Hid (∀ W,Calls Tryz.prog 76 #[.int .i64 f,.int .i64 k] W fun e w'=>e=.returned (spr r2)∧Below W.heap.size W w')) (h4:decide (n≤i)=false) (h5:decide (o < f)=false):Calls Tryz.prog 115 #[shv c i o k,pnv x y z] w fun e w'=>e=.returned (spr ((r2.1.1,r1.1.2),0))∧Below w.heap.size w w':=by
  go_enter Tryz.func115,Tryz.ntmps115
  go_wp2_with fail
  have i0:=ownSh_drew (ownSh_alloc (ownSh_alloc (ownSh_new w c i o k 117) (pnc x y z 59)) (.cells #[.int .i64 0,.int .i64 0] 34))
  have i1:=pan_drew (pan_alloc (pan_new (w.alloc (shb c i o k 117)) x y z 59) (.cells #[.int .i64 0,.int .i64 0] 34))
  have i2:=pair_drew' (pair_new ((w.alloc (shb c i o k 117)).alloc (pnc x y z 59)) 0 0 34)
  simp only [World.size_alloc] at i1 i2
  go_region_held3 (fun w'=>w'.cell? ⟨w.heap.size,0,none⟩=some (.int .i64 c.1)∧w'.cell? ⟨w.heap.size,1,none⟩=some (.int .i64 c.2.1)∧w'.cell? ⟨w.heap.size,2,none⟩=some (.int .i64 c.2.2)∧w'.cell? ⟨w.heap.size + 1,0,none⟩=some (.int .i64 x.1)∧w'.cell? ⟨w.heap.size + 1,1,none⟩=some (.int .i64 x.2.1)∧w'.cell? ⟨w.heap.size + 1,2,none⟩=some (.int .i64 x.2.2)∧w'.cell? ⟨w.heap.size + 1,3,none⟩=some (.int .i64 y.1)∧w'.cell? ⟨w.heap.size + 1,4,none⟩=some (.int .i64 y.2.1)∧w'.cell? ⟨w.heap.size + 1,5,none⟩=some (.int .i64 y.2.2)∧w'.cell? ⟨w.heap.size + 1,6,none⟩=some (.int .i64 z.1)∧w'.cell? ⟨w.heap.size + 1,7,none⟩=some (.int .i64 z.2.1)∧w'.cell? ⟨w.heap.size + 1,8,none⟩=some (.int .i64 z.2.2))
    (first | (refine sg_keep i0 i1) | (refine sg_keep q0 q1) | (refine sg_keep r0 r1))
    (first | (go_at_call 47;(with_reducible refine (NN.out _).mono ?_);rintro e v0 ⟨rfl,hv0⟩;have q0:=ownSh_below i0 hv0;have q1:=pan_below i1 hv0;have q2:=pair_below i2 hv0) | (go_at_call 48;(with_reducible refine (FF.out _).mono ?_);rintro e v1 ⟨rfl,hv1⟩;have r0:=ownSh_below q0 hv1;have r1:=pan_below q1 hv1;have r2:=pair_below q2 hv1))
  have BB:=Lib.hid (show Below w.heap.size w v1 by (repeat' (first | exact Below.refl _ _ | refine bstep ?_ hv1 | refine bstep ?_ hv0 | refine Below.setCell ?_ (by simp <;> omega) _ | refine balloc ?_ _ | refine Below.drew ?_ | refine bdrewN ?_ _)))
  have R0:=Lib.hid r0
  have R2:=Lib.hid r2
  clear i0 i1 i2 q0 q1 q2 r0 r1 r2 hv0 hv1 NN FF
  obtain ⟨⟨c0,c1,c2,c3,c4,c5⟩,cl⟩:=R0.out
  obtain ⟨g0,g1,g2,g3,gl⟩:=R2.out
  go_wp2_with fail
  refine (V1.out _).mono ?_
  rintro e w2 ⟨rfl,hb2⟩
  have R3:=Lib.hid (ownSh_below R0.out hb2)
  have R4:=Lib.hid (pair_below R2.out hb2)
  clear c0 c1 c2 c3 c4 c5 cl g0 g1 g2 g3 gl
  obtain ⟨⟨c0,c1,c2,c3,c4,c5⟩,cl⟩:=R3.out
  obtain ⟨g0,g1,g2,g3,gl⟩:=R4.out
  go_wp2_with fail
  refine (V2.out _).mono ?_
  rintro e w3 ⟨rfl,hb3⟩
  have R5:=Lib.hid (pair_below (pair_alloc R4.out (.cells #[.int .i64 r1.1.1,.int .i64 r1.1.2] 34)) hb3)
  have R6:=Lib.hid (pair_below (pair_new w2 r1.1.1 r1.1.2 34) hb3)
  clear c0 c1 c2 c3 c4 c5 cl g0 g1 g2 g3 gl
  obtain ⟨g0,g1,g2,g3,gl⟩:=R5.out
  obtain ⟨e0,e1,e2,e3,el⟩:=R6.out
  go_wp2
  refine bodyPost_ret (v:=spr ((r2.1.1,r1.1.2),0)) (by rw [results_cell_tmp rfl];go_simp) rfl ⟨rfl,?_⟩
  have hB:=BB.out
  (repeat' (first | exact Below.refl _ _ | refine bstep ?_ hb3 | refine bstep ?_ hb2 | refine bstep ?_ hB | refine Below.setCell ?_ (by simp <;> omega) _ | refine balloc ?_ _ | refine Below.drew ?_ | refine bdrewN ?_ _))
theorem given_any (c:P3) (i o k:Int) (t:P9) (w:World) (h:BdT 500000000 t) (g:BdP 500000000 c):Calls Tryz.prog 115 #[shv c i o k,p9w t] w fun e w'=>e=.returned (spr (giR c i o k t))∧Below w.heap.size w w':=by
  obtain ⟨x,y,z⟩:=t
  have NN:=Lib.hid (fun W=>snear_any (x,y,z) c W h g)
  have FF:=Lib.hid (fun W=>sfar_any (x,y,z) c W h g)
  unfold giR
  by_cases h1:farN (x,y,z) c≤i
  · rw [if_pos (Or.inl h1)]
    exact giv_1 c i o k x y z _ _ w NN FF h1
  by_cases h2:o < nearN (x,y,z) c
  · rw [if_pos (Or.inr h2)]
    exact giv_2 c i o k x y z _ _ w NN FF (decide_eq_false h1) h2
  rw [if_neg (fun e=>e.elim h1 h2)]
  by_cases h3:Sp.mx (nearN (x,y,z) c) i=0
  · rw [if_pos h3]
    exact giv_3 c i o k x y z _ _ w NN FF (decide_eq_false h1) (decide_eq_false h2) h3
  rw [if_neg h3]
  have V1:=Lib.hid (fun W=>inv_any (Sp.mx (nearN (x,y,z) c) i) k W)
  by_cases h4:nearN (x,y,z) c≤i
  · rw [if_pos (Or.inl h4)]
    exact giv_4 c i o k x y z _ _ w NN FF _ _ (decide_eq_false h1) (decide_eq_false h2) (beq_eq_false_iff_ne.2 h3) rfl V1 h4
  by_cases h5:o < farN (x,y,z) c
  · rw [if_pos (Or.inr h5)]
    exact giv_5 c i o k x y z _ _ w NN FF _ _ (decide_eq_false h1) (decide_eq_false h2) (beq_eq_false_iff_ne.2 h3) rfl V1 (decide_eq_false h4) h5
  rw [if_neg (fun e=>e.elim h4 h5)]
  exact giv_6 c i o k x y z _ _ w NN FF _ _ _ (decide_eq_false h1) (decide_eq_false h2) (beq_eq_false_iff_ne.2 h3) rfl V1 (Lib.hid fun W=>inv_any (farN (x,y,z) c) k W) (decide_eq_false h4) (decide_eq_false h5)
end Go.Proofs.YtgchcnpgjfoadaaGreat
namespace Go.Proofs.YtgchcnpgjfoadaaGreat
open Go.ChangeShapes Go.WideShapes Go.RowKit
open Sh
set_option maxHeartbeats 1000000 in
theorem shell_0 (x:P3) (s q I O:Int) (w:World) (b1:1≤s) (b2:s≤128) (b3:0≤s * (q - 1)) (b4:s * (q - 1)≤256000) (b5:0≤s * q) (b6:s * q≤256000) (q1:1≤q) (q2:q≤2000)
    (TM:Hid (∀ W,Calls Tryz.prog 114 #[.int .i64 1,ptv x] W fun e w'=>e=.returned (ptv (tim 1 x))∧Below W.heap.size W w'))
    (Q1:Hid (∀ W,Calls Tryz.prog 35 #[.int .i64 (s * (q - 1))] W fun e w'=>e=.returned (.int .i64 I)∧W=w'))
    (Q2:Hid (∀ W,Calls Tryz.prog 35 #[.int .i64 (s * q)] W fun e w'=>e=.returned (.int .i64 O)∧W=w')) :
    Calls Tryz.prog 78 #[micv x s 0,.int .i64 q] w fun e w'=>e=.returned (shv (tim 1 x) I O 1)∧Below w.heap.size w w':=by
  generalize tim 1 x=y at *
  go_enter Tryz.func78,Tryz.ntmps78
  go_wp2_with fail
  refine (TM.out _).mono ?_
  rintro e w1 ⟨rfl,hb1⟩
  go_wp2_with fail
  refine (Q1.out _).mono ?_
  rintro e w2 ⟨rfl,rfl⟩
  go_wp2_with fail
  refine (Q2.out _).mono ?_
  rintro e w3 ⟨rfl,rfl⟩
  have HB:=Lib.hid hb1
  have z0:=(hb1.cell (p:=⟨w.heap.size + 1,0,none⟩) (by simp)).trans (show ((w.alloc (micb x s 0 55)).alloc (shb (0,0,0) 0 0 0 117)).cell? ⟨w.heap.size + 1,0,none⟩=some (.int .i64 0) by go_simp)
  have y0:=(hb1.frozen (p:=⟨w.heap.size + 1,0,none⟩) (by simp)).trans (show ((w.alloc (micb x s 0 55)).alloc (shb (0,0,0) 0 0 0 117)).frozen? ⟨w.heap.size + 1,0,none⟩=false by go_simp)
  have z1:=(hb1.cell (p:=⟨w.heap.size + 1,1,none⟩) (by simp)).trans (show ((w.alloc (micb x s 0 55)).alloc (shb (0,0,0) 0 0 0 117)).cell? ⟨w.heap.size + 1,1,none⟩=some (.int .i64 0) by go_simp)
  have y1:=(hb1.frozen (p:=⟨w.heap.size + 1,1,none⟩) (by simp)).trans (show ((w.alloc (micb x s 0 55)).alloc (shb (0,0,0) 0 0 0 117)).frozen? ⟨w.heap.size + 1,1,none⟩=false by go_simp)
  have z2:=(hb1.cell (p:=⟨w.heap.size + 1,2,none⟩) (by simp)).trans (show ((w.alloc (micb x s 0 55)).alloc (shb (0,0,0) 0 0 0 117)).cell? ⟨w.heap.size + 1,2,none⟩=some (.int .i64 0) by go_simp)
  have y2:=(hb1.frozen (p:=⟨w.heap.size + 1,2,none⟩) (by simp)).trans (show ((w.alloc (micb x s 0 55)).alloc (shb (0,0,0) 0 0 0 117)).frozen? ⟨w.heap.size + 1,2,none⟩=false by go_simp)
  have z3:=(hb1.cell (p:=⟨w.heap.size + 1,3,none⟩) (by simp)).trans (show ((w.alloc (micb x s 0 55)).alloc (shb (0,0,0) 0 0 0 117)).cell? ⟨w.heap.size + 1,3,none⟩=some (.int .i64 0) by go_simp)
  have y3:=(hb1.frozen (p:=⟨w.heap.size + 1,3,none⟩) (by simp)).trans (show ((w.alloc (micb x s 0 55)).alloc (shb (0,0,0) 0 0 0 117)).frozen? ⟨w.heap.size + 1,3,none⟩=false by go_simp)
  have z4:=(hb1.cell (p:=⟨w.heap.size + 1,4,none⟩) (by simp)).trans (show ((w.alloc (micb x s 0 55)).alloc (shb (0,0,0) 0 0 0 117)).cell? ⟨w.heap.size + 1,4,none⟩=some (.int .i64 0) by go_simp)
  have y4:=(hb1.frozen (p:=⟨w.heap.size + 1,4,none⟩) (by simp)).trans (show ((w.alloc (micb x s 0 55)).alloc (shb (0,0,0) 0 0 0 117)).frozen? ⟨w.heap.size + 1,4,none⟩=false by go_simp)
  have z5:=(hb1.cell (p:=⟨w.heap.size + 1,5,none⟩) (by simp)).trans (show ((w.alloc (micb x s 0 55)).alloc (shb (0,0,0) 0 0 0 117)).cell? ⟨w.heap.size + 1,5,none⟩=some (.int .i64 0) by go_simp)
  have y5:=(hb1.frozen (p:=⟨w.heap.size + 1,5,none⟩) (by simp)).trans (show ((w.alloc (micb x s 0 55)).alloc (shb (0,0,0) 0 0 0 117)).frozen? ⟨w.heap.size + 1,5,none⟩=false by go_simp)
  have ml:=Nat.lt_of_lt_of_le (show w.heap.size < ((w.alloc (micb x s 0 55)).alloc (shb (0,0,0) 0 0 0 117)).heap.size by simp;omega) hb1.size
  have zl:=Nat.lt_of_lt_of_le (show w.heap.size + 1 < ((w.alloc (micb x s 0 55)).alloc (shb (0,0,0) 0 0 0 117)).heap.size by simp) hb1.size
  clear hb1 b1 b2 b3 b4 b5 b6 TM Q1 Q2
  go_wp2
  refine bodyPost_ret (v:=shv y I O 1) (by rw [results_cell8 rfl];go_simp) rfl ⟨rfl,?_⟩
  have hb1:=HB.out
  exact below_put6 ((balloc (balloc (Below.refl _ w) _) _).trans (hb1.mono (by simp;omega))) (by omega)
set_option maxHeartbeats 1000000 in
theorem shell_1 (x:P3) (s q I O:Int) (w:World) (b1:1≤2 * s) (b2:2 * s≤128) (b3:0≤2 * s * (q - 1)) (b4:2 * s * (q - 1)≤256000) (b5:0≤2 * s * q) (b6:2 * s * q≤256000) (q1:1≤q) (q2:q≤2000)
    (TM:Hid (∀ W,Calls Tryz.prog 114 #[.int .i64 2,ptv x] W fun e w'=>e=.returned (ptv (tim 2 x))∧Below W.heap.size W w'))
    (Q1:Hid (∀ W,Calls Tryz.prog 35 #[.int .i64 (2 * s * (q - 1))] W fun e w'=>e=.returned (.int .i64 I)∧W=w'))
    (Q2:Hid (∀ W,Calls Tryz.prog 35 #[.int .i64 (2 * s * q)] W fun e w'=>e=.returned (.int .i64 O)∧W=w')) :
    Calls Tryz.prog 78 #[micv x s 1,.int .i64 q] w fun e w'=>e=.returned (shv (tim 2 x) I O 2)∧Below w.heap.size w w':=by
  generalize tim 2 x=y at *
  go_enter Tryz.func78,Tryz.ntmps78
  go_wp2_with fail
  refine (TM.out _).mono ?_
  rintro e w1 ⟨rfl,hb1⟩
  go_wp2_with fail
  refine (Q1.out _).mono ?_
  rintro e w2 ⟨rfl,rfl⟩
  go_wp2_with fail
  refine (Q2.out _).mono ?_
  rintro e w3 ⟨rfl,rfl⟩
  have HB:=Lib.hid hb1
  have z0:=(hb1.cell (p:=⟨w.heap.size + 1,0,none⟩) (by simp)).trans (show ((w.alloc (micb x s 1 55)).alloc (shb (0,0,0) 0 0 0 117)).cell? ⟨w.heap.size + 1,0,none⟩=some (.int .i64 0) by go_simp)
  have y0:=(hb1.frozen (p:=⟨w.heap.size + 1,0,none⟩) (by simp)).trans (show ((w.alloc (micb x s 1 55)).alloc (shb (0,0,0) 0 0 0 117)).frozen? ⟨w.heap.size + 1,0,none⟩=false by go_simp)
  have z1:=(hb1.cell (p:=⟨w.heap.size + 1,1,none⟩) (by simp)).trans (show ((w.alloc (micb x s 1 55)).alloc (shb (0,0,0) 0 0 0 117)).cell? ⟨w.heap.size + 1,1,none⟩=some (.int .i64 0) by go_simp)
  have y1:=(hb1.frozen (p:=⟨w.heap.size + 1,1,none⟩) (by simp)).trans (show ((w.alloc (micb x s 1 55)).alloc (shb (0,0,0) 0 0 0 117)).frozen? ⟨w.heap.size + 1,1,none⟩=false by go_simp)
  have z2:=(hb1.cell (p:=⟨w.heap.size + 1,2,none⟩) (by simp)).trans (show ((w.alloc (micb x s 1 55)).alloc (shb (0,0,0) 0 0 0 117)).cell? ⟨w.heap.size + 1,2,none⟩=some (.int .i64 0) by go_simp)
  have y2:=(hb1.frozen (p:=⟨w.heap.size + 1,2,none⟩) (by simp)).trans (show ((w.alloc (micb x s 1 55)).alloc (shb (0,0,0) 0 0 0 117)).frozen? ⟨w.heap.size + 1,2,none⟩=false by go_simp)
  have z3:=(hb1.cell (p:=⟨w.heap.size + 1,3,none⟩) (by simp)).trans (show ((w.alloc (micb x s 1 55)).alloc (shb (0,0,0) 0 0 0 117)).cell? ⟨w.heap.size + 1,3,none⟩=some (.int .i64 0) by go_simp)
  have y3:=(hb1.frozen (p:=⟨w.heap.size + 1,3,none⟩) (by simp)).trans (show ((w.alloc (micb x s 1 55)).alloc (shb (0,0,0) 0 0 0 117)).frozen? ⟨w.heap.size + 1,3,none⟩=false by go_simp)
  have z4:=(hb1.cell (p:=⟨w.heap.size + 1,4,none⟩) (by simp)).trans (show ((w.alloc (micb x s 1 55)).alloc (shb (0,0,0) 0 0 0 117)).cell? ⟨w.heap.size + 1,4,none⟩=some (.int .i64 0) by go_simp)
  have y4:=(hb1.frozen (p:=⟨w.heap.size + 1,4,none⟩) (by simp)).trans (show ((w.alloc (micb x s 1 55)).alloc (shb (0,0,0) 0 0 0 117)).frozen? ⟨w.heap.size + 1,4,none⟩=false by go_simp)
  have z5:=(hb1.cell (p:=⟨w.heap.size + 1,5,none⟩) (by simp)).trans (show ((w.alloc (micb x s 1 55)).alloc (shb (0,0,0) 0 0 0 117)).cell? ⟨w.heap.size + 1,5,none⟩=some (.int .i64 0) by go_simp)
  have y5:=(hb1.frozen (p:=⟨w.heap.size + 1,5,none⟩) (by simp)).trans (show ((w.alloc (micb x s 1 55)).alloc (shb (0,0,0) 0 0 0 117)).frozen? ⟨w.heap.size + 1,5,none⟩=false by go_simp)
  have ml:=Nat.lt_of_lt_of_le (show w.heap.size < ((w.alloc (micb x s 1 55)).alloc (shb (0,0,0) 0 0 0 117)).heap.size by simp;omega) hb1.size
  have zl:=Nat.lt_of_lt_of_le (show w.heap.size + 1 < ((w.alloc (micb x s 1 55)).alloc (shb (0,0,0) 0 0 0 117)).heap.size by simp) hb1.size
  clear hb1 b1 b2 b3 b4 b5 b6 TM Q1 Q2
  go_wp2
  refine bodyPost_ret (v:=shv y I O 2) (by rw [results_cell8 rfl];go_simp) rfl ⟨rfl,?_⟩
  have hb1:=HB.out
  exact below_put6 ((balloc (balloc (Below.refl _ w) _) _).trans (hb1.mono (by simp;omega))) (by omega)
set_option maxHeartbeats 1000000 in
theorem shell_2 (x:P3) (s q I O:Int) (w:World) (b1:1≤4 * s) (b2:4 * s≤128) (b3:0≤4 * s * (q - 1)) (b4:4 * s * (q - 1)≤256000) (b5:0≤4 * s * q) (b6:4 * s * q≤256000) (q1:1≤q) (q2:q≤2000)
    (TM:Hid (∀ W,Calls Tryz.prog 114 #[.int .i64 4,ptv x] W fun e w'=>e=.returned (ptv (tim 4 x))∧Below W.heap.size W w'))
    (Q1:Hid (∀ W,Calls Tryz.prog 35 #[.int .i64 (4 * s * (q - 1))] W fun e w'=>e=.returned (.int .i64 I)∧W=w'))
    (Q2:Hid (∀ W,Calls Tryz.prog 35 #[.int .i64 (4 * s * q)] W fun e w'=>e=.returned (.int .i64 O)∧W=w')) :
    Calls Tryz.prog 78 #[micv x s 2,.int .i64 q] w fun e w'=>e=.returned (shv (tim 4 x) I O 4)∧Below w.heap.size w w':=by
  generalize tim 4 x=y at *
  go_enter Tryz.func78,Tryz.ntmps78
  go_wp2_with fail
  refine (TM.out _).mono ?_
  rintro e w1 ⟨rfl,hb1⟩
  go_wp2_with fail
  refine (Q1.out _).mono ?_
  rintro e w2 ⟨rfl,rfl⟩
  go_wp2_with fail
  refine (Q2.out _).mono ?_
  rintro e w3 ⟨rfl,rfl⟩
  have HB:=Lib.hid hb1
  have z0:=(hb1.cell (p:=⟨w.heap.size + 1,0,none⟩) (by simp)).trans (show ((w.alloc (micb x s 2 55)).alloc (shb (0,0,0) 0 0 0 117)).cell? ⟨w.heap.size + 1,0,none⟩=some (.int .i64 0) by go_simp)
  have y0:=(hb1.frozen (p:=⟨w.heap.size + 1,0,none⟩) (by simp)).trans (show ((w.alloc (micb x s 2 55)).alloc (shb (0,0,0) 0 0 0 117)).frozen? ⟨w.heap.size + 1,0,none⟩=false by go_simp)
  have z1:=(hb1.cell (p:=⟨w.heap.size + 1,1,none⟩) (by simp)).trans (show ((w.alloc (micb x s 2 55)).alloc (shb (0,0,0) 0 0 0 117)).cell? ⟨w.heap.size + 1,1,none⟩=some (.int .i64 0) by go_simp)
  have y1:=(hb1.frozen (p:=⟨w.heap.size + 1,1,none⟩) (by simp)).trans (show ((w.alloc (micb x s 2 55)).alloc (shb (0,0,0) 0 0 0 117)).frozen? ⟨w.heap.size + 1,1,none⟩=false by go_simp)
  have z2:=(hb1.cell (p:=⟨w.heap.size + 1,2,none⟩) (by simp)).trans (show ((w.alloc (micb x s 2 55)).alloc (shb (0,0,0) 0 0 0 117)).cell? ⟨w.heap.size + 1,2,none⟩=some (.int .i64 0) by go_simp)
  have y2:=(hb1.frozen (p:=⟨w.heap.size + 1,2,none⟩) (by simp)).trans (show ((w.alloc (micb x s 2 55)).alloc (shb (0,0,0) 0 0 0 117)).frozen? ⟨w.heap.size + 1,2,none⟩=false by go_simp)
  have z3:=(hb1.cell (p:=⟨w.heap.size + 1,3,none⟩) (by simp)).trans (show ((w.alloc (micb x s 2 55)).alloc (shb (0,0,0) 0 0 0 117)).cell? ⟨w.heap.size + 1,3,none⟩=some (.int .i64 0) by go_simp)
  have y3:=(hb1.frozen (p:=⟨w.heap.size + 1,3,none⟩) (by simp)).trans (show ((w.alloc (micb x s 2 55)).alloc (shb (0,0,0) 0 0 0 117)).frozen? ⟨w.heap.size + 1,3,none⟩=false by go_simp)
  have z4:=(hb1.cell (p:=⟨w.heap.size + 1,4,none⟩) (by simp)).trans (show ((w.alloc (micb x s 2 55)).alloc (shb (0,0,0) 0 0 0 117)).cell? ⟨w.heap.size + 1,4,none⟩=some (.int .i64 0) by go_simp)
  have y4:=(hb1.frozen (p:=⟨w.heap.size + 1,4,none⟩) (by simp)).trans (show ((w.alloc (micb x s 2 55)).alloc (shb (0,0,0) 0 0 0 117)).frozen? ⟨w.heap.size + 1,4,none⟩=false by go_simp)
  have z5:=(hb1.cell (p:=⟨w.heap.size + 1,5,none⟩) (by simp)).trans (show ((w.alloc (micb x s 2 55)).alloc (shb (0,0,0) 0 0 0 117)).cell? ⟨w.heap.size + 1,5,none⟩=some (.int .i64 0) by go_simp)
  have y5:=(hb1.frozen (p:=⟨w.heap.size + 1,5,none⟩) (by simp)).trans (show ((w.alloc (micb x s 2 55)).alloc (shb (0,0,0) 0 0 0 117)).frozen? ⟨w.heap.size + 1,5,none⟩=false by go_simp)
  have ml:=Nat.lt_of_lt_of_le (show w.heap.size < ((w.alloc (micb x s 2 55)).alloc (shb (0,0,0) 0 0 0 117)).heap.size by simp;omega) hb1.size
  have zl:=Nat.lt_of_lt_of_le (show w.heap.size + 1 < ((w.alloc (micb x s 2 55)).alloc (shb (0,0,0) 0 0 0 117)).heap.size by simp) hb1.size
  clear hb1 b1 b2 b3 b4 b5 b6 TM Q1 Q2
  go_wp2
  refine bodyPost_ret (v:=shv y I O 4) (by rw [results_cell8 rfl];go_simp) rfl ⟨rfl,?_⟩
  have hb1:=HB.out
  exact below_put6 ((balloc (balloc (Below.refl _ w) _) _).trans (hb1.mono (by simp;omega))) (by omega)
set_option maxHeartbeats 1000000 in
theorem shell_3 (x:P3) (s q I O:Int) (w:World) (b1:1≤8 * s) (b2:8 * s≤128) (b3:0≤8 * s * (q - 1)) (b4:8 * s * (q - 1)≤256000) (b5:0≤8 * s * q) (b6:8 * s * q≤256000) (q1:1≤q) (q2:q≤2000)
    (TM:Hid (∀ W,Calls Tryz.prog 114 #[.int .i64 8,ptv x] W fun e w'=>e=.returned (ptv (tim 8 x))∧Below W.heap.size W w'))
    (Q1:Hid (∀ W,Calls Tryz.prog 35 #[.int .i64 (8 * s * (q - 1))] W fun e w'=>e=.returned (.int .i64 I)∧W=w'))
    (Q2:Hid (∀ W,Calls Tryz.prog 35 #[.int .i64 (8 * s * q)] W fun e w'=>e=.returned (.int .i64 O)∧W=w')) :
    Calls Tryz.prog 78 #[micv x s 3,.int .i64 q] w fun e w'=>e=.returned (shv (tim 8 x) I O 8)∧Below w.heap.size w w':=by
  generalize tim 8 x=y at *
  go_enter Tryz.func78,Tryz.ntmps78
  go_wp2_with fail
  refine (TM.out _).mono ?_
  rintro e w1 ⟨rfl,hb1⟩
  go_wp2_with fail
  refine (Q1.out _).mono ?_
  rintro e w2 ⟨rfl,rfl⟩
  go_wp2_with fail
  refine (Q2.out _).mono ?_
  rintro e w3 ⟨rfl,rfl⟩
  have HB:=Lib.hid hb1
  have z0:=(hb1.cell (p:=⟨w.heap.size + 1,0,none⟩) (by simp)).trans (show ((w.alloc (micb x s 3 55)).alloc (shb (0,0,0) 0 0 0 117)).cell? ⟨w.heap.size + 1,0,none⟩=some (.int .i64 0) by go_simp)
  have y0:=(hb1.frozen (p:=⟨w.heap.size + 1,0,none⟩) (by simp)).trans (show ((w.alloc (micb x s 3 55)).alloc (shb (0,0,0) 0 0 0 117)).frozen? ⟨w.heap.size + 1,0,none⟩=false by go_simp)
  have z1:=(hb1.cell (p:=⟨w.heap.size + 1,1,none⟩) (by simp)).trans (show ((w.alloc (micb x s 3 55)).alloc (shb (0,0,0) 0 0 0 117)).cell? ⟨w.heap.size + 1,1,none⟩=some (.int .i64 0) by go_simp)
  have y1:=(hb1.frozen (p:=⟨w.heap.size + 1,1,none⟩) (by simp)).trans (show ((w.alloc (micb x s 3 55)).alloc (shb (0,0,0) 0 0 0 117)).frozen? ⟨w.heap.size + 1,1,none⟩=false by go_simp)
  have z2:=(hb1.cell (p:=⟨w.heap.size + 1,2,none⟩) (by simp)).trans (show ((w.alloc (micb x s 3 55)).alloc (shb (0,0,0) 0 0 0 117)).cell? ⟨w.heap.size + 1,2,none⟩=some (.int .i64 0) by go_simp)
  have y2:=(hb1.frozen (p:=⟨w.heap.size + 1,2,none⟩) (by simp)).trans (show ((w.alloc (micb x s 3 55)).alloc (shb (0,0,0) 0 0 0 117)).frozen? ⟨w.heap.size + 1,2,none⟩=false by go_simp)
  have z3:=(hb1.cell (p:=⟨w.heap.size + 1,3,none⟩) (by simp)).trans (show ((w.alloc (micb x s 3 55)).alloc (shb (0,0,0) 0 0 0 117)).cell? ⟨w.heap.size + 1,3,none⟩=some (.int .i64 0) by go_simp)
  have y3:=(hb1.frozen (p:=⟨w.heap.size + 1,3,none⟩) (by simp)).trans (show ((w.alloc (micb x s 3 55)).alloc (shb (0,0,0) 0 0 0 117)).frozen? ⟨w.heap.size + 1,3,none⟩=false by go_simp)
  have z4:=(hb1.cell (p:=⟨w.heap.size + 1,4,none⟩) (by simp)).trans (show ((w.alloc (micb x s 3 55)).alloc (shb (0,0,0) 0 0 0 117)).cell? ⟨w.heap.size + 1,4,none⟩=some (.int .i64 0) by go_simp)
  have y4:=(hb1.frozen (p:=⟨w.heap.size + 1,4,none⟩) (by simp)).trans (show ((w.alloc (micb x s 3 55)).alloc (shb (0,0,0) 0 0 0 117)).frozen? ⟨w.heap.size + 1,4,none⟩=false by go_simp)
  have z5:=(hb1.cell (p:=⟨w.heap.size + 1,5,none⟩) (by simp)).trans (show ((w.alloc (micb x s 3 55)).alloc (shb (0,0,0) 0 0 0 117)).cell? ⟨w.heap.size + 1,5,none⟩=some (.int .i64 0) by go_simp)
  have y5:=(hb1.frozen (p:=⟨w.heap.size + 1,5,none⟩) (by simp)).trans (show ((w.alloc (micb x s 3 55)).alloc (shb (0,0,0) 0 0 0 117)).frozen? ⟨w.heap.size + 1,5,none⟩=false by go_simp)
  have ml:=Nat.lt_of_lt_of_le (show w.heap.size < ((w.alloc (micb x s 3 55)).alloc (shb (0,0,0) 0 0 0 117)).heap.size by simp;omega) hb1.size
  have zl:=Nat.lt_of_lt_of_le (show w.heap.size + 1 < ((w.alloc (micb x s 3 55)).alloc (shb (0,0,0) 0 0 0 117)).heap.size by simp) hb1.size
  clear hb1 b1 b2 b3 b4 b5 b6 TM Q1 Q2
  go_wp2
  refine bodyPost_ret (v:=shv y I O 8) (by rw [results_cell8 rfl];go_simp) rfl ⟨rfl,?_⟩
  have hb1:=HB.out
  exact below_put6 ((balloc (balloc (Below.refl _ w) _) _).trans (hb1.mono (by simp;omega))) (by omega)
theorem shell_any (x:P3) (s d q:Int) (w:World) (hx:BdP 256 x) (s1:1≤s) (s2:s≤16) (d1:0≤d) (d2:d≤3) (q1:1≤q) (q2:q≤2000) :
    Calls Tryz.prog 78 #[micv x s d,.int .i64 q] w fun e w'=>e=.returned (shv (tim (scl d) x) (inn s d q) (out8 s d q) (scl d))∧Below w.heap.size w w':=by
  have:d=0∨d=1∨d=2∨d=3:=by omega
  rcases this with rfl | rfl | rfl | rfl
  · have TM:=Lib.hid (fun W=>stm_any 1 x W ((tim_bd (K:=8) (by decide) (by decide) hx).mono (by decide)))
    have bb:=sh_bd (K:=1) (by decide) (by decide) s1 s2 q1 q2
    rw [Int.one_mul] at bb
    rw [show inn s 0 q=s * (q - 1) * (s * (q - 1)) by show 1 * s * (q - 1) * (1 * s * (q - 1))=_;rw [Int.one_mul],show out8 s 0 q=s * q * (s * q) by show 1 * s * q * (1 * s * q)=_;rw [Int.one_mul]]
    exact shell_0 x s q _ _ w bb.1.1 bb.1.2 bb.2.1.1 bb.2.1.2 bb.2.2.1.1 bb.2.2.1.2 q1 q2 TM (Lib.hid (fun W=>sqr_any (s * (q - 1)) W ⟨by omega,by omega⟩)) (Lib.hid (fun W=>sqr_any (s * q) W ⟨by omega,by omega⟩))
  · have TM:=Lib.hid (fun W=>stm_any 2 x W ((tim_bd (K:=8) (by decide) (by decide) hx).mono (by decide)))
    have bb:=sh_bd (K:=2) (by decide) (by decide) s1 s2 q1 q2
    exact shell_1 x s q _ _ w bb.1.1 bb.1.2 bb.2.1.1 bb.2.1.2 bb.2.2.1.1 bb.2.2.1.2 q1 q2 TM (Lib.hid (fun W=>sqr_any (2 * s * (q - 1)) W ⟨by omega,by omega⟩)) (Lib.hid (fun W=>sqr_any (2 * s * q) W ⟨by omega,by omega⟩))
  · have TM:=Lib.hid (fun W=>stm_any 4 x W ((tim_bd (K:=8) (by decide) (by decide) hx).mono (by decide)))
    have bb:=sh_bd (K:=4) (by decide) (by decide) s1 s2 q1 q2
    exact shell_2 x s q _ _ w bb.1.1 bb.1.2 bb.2.1.1 bb.2.1.2 bb.2.2.1.1 bb.2.2.1.2 q1 q2 TM (Lib.hid (fun W=>sqr_any (4 * s * (q - 1)) W ⟨by omega,by omega⟩)) (Lib.hid (fun W=>sqr_any (4 * s * q) W ⟨by omega,by omega⟩))
  · have TM:=Lib.hid (fun W=>stm_any 8 x W ((tim_bd (K:=8) (by decide) (by decide) hx).mono (by decide)))
    have bb:=sh_bd (K:=8) (by decide) (by decide) s1 s2 q1 q2
    exact shell_3 x s q _ _ w bb.1.1 bb.1.2 bb.2.1.1 bb.2.1.2 bb.2.2.1.1 bb.2.2.1.2 q1 q2 TM (Lib.hid (fun W=>sqr_any (8 * s * (q - 1)) W ⟨by omega,by omega⟩)) (Lib.hid (fun W=>sqr_any (8 * s * q) W ⟨by omega,by omega⟩))
end Go.Proofs.YtgchcnpgjfoadaaGreat
namespace Go.Proofs.YtgchcnpgjfoadaaGreat
open Go.ChangeShapes Go.WideShapes Go.RowKit
open Sh
def RowP (w:World) (b off n:Nat) (L:Nat→P9):Prop:=b < w.heap.size∧∀ k,k < n→w.cell? ⟨b,off + k * 9,none⟩=some (.int .i64 (L k).1.1)∧w.cell? ⟨b,off + k * 9 + 1,none⟩=some (.int .i64 (L k).1.2.1)∧w.cell? ⟨b,off + k * 9 + 1 + 1,none⟩=some (.int .i64 (L k).1.2.2)∧w.cell? ⟨b,off + k * 9 + 1 + 1 + 1,none⟩=some (.int .i64 (L k).2.1.1)∧w.cell? ⟨b,off + k * 9 + 1 + 1 + 1 + 1,none⟩=some (.int .i64 (L k).2.1.2.1)∧w.cell? ⟨b,off + k * 9 + 1 + 1 + 1 + 1 + 1,none⟩=some (.int .i64 (L k).2.1.2.2)∧w.cell? ⟨b,off + k * 9 + 1 + 1 + 1 + 1 + 1 + 1,none⟩=some (.int .i64 (L k).2.2.1)∧w.cell? ⟨b,off + k * 9 + 1 + 1 + 1 + 1 + 1 + 1 + 1,none⟩=some (.int .i64 (L k).2.2.2.1)∧w.cell? ⟨b,off + k * 9 + 1 + 1 + 1 + 1 + 1 + 1 + 1 + 1,none⟩=some (.int .i64 (L k).2.2.2.2)
theorem rowP_in {w wr:World} {B b off n:Nat} {L:Nat→P9} (r:RowP w b off n L) (hb:Below B w wr) (h:b < B):RowP wr b off n L:=by
  refine ⟨Nat.lt_of_lt_of_le r.1 hb.size,fun k hk=>?_⟩
  obtain ⟨h0,h1,h2,h3,h4,h5,h6,h7,h8⟩:=r.2 k hk
  exact ⟨(hb.cell (p:=⟨b,off + k * 9,none⟩) h).trans h0,(hb.cell (p:=⟨b,off + k * 9 + 1,none⟩) h).trans h1,(hb.cell (p:=⟨b,off + k * 9 + 1 + 1,none⟩) h).trans h2,(hb.cell (p:=⟨b,off + k * 9 + 1 + 1 + 1,none⟩) h).trans h3,(hb.cell (p:=⟨b,off + k * 9 + 1 + 1 + 1 + 1,none⟩) h).trans h4,(hb.cell (p:=⟨b,off + k * 9 + 1 + 1 + 1 + 1 + 1,none⟩) h).trans h5,(hb.cell (p:=⟨b,off + k * 9 + 1 + 1 + 1 + 1 + 1 + 1,none⟩) h).trans h6,(hb.cell (p:=⟨b,off + k * 9 + 1 + 1 + 1 + 1 + 1 + 1 + 1,none⟩) h).trans h7,(hb.cell (p:=⟨b,off + k * 9 + 1 + 1 + 1 + 1 + 1 + 1 + 1 + 1,none⟩) h).trans h8⟩
def svs (l:List (Int × Int)):List Value:=l.flatMap fun r=>[.int .i64 r.1,.int .i64 r.2]
theorem svs_snoc (l:List (Int × Int)) (r:Int × Int):svs l ++ [.int .i64 r.1,.int .i64 r.2]=svs (l ++ [r]):=by simp [svs]
theorem infoSp8:(Tryz.prog.info? 34).map (fun i=>(i.zero,i.size,i.bytes))=some (some (.agg #[.int .i64 0,.int .i64 0]),2,16):=by kernel_rfl
theorem sp2_new (w:World) (x y:Int) (t:TypeId):∀ j u,([.int .i64 x,.int .i64 y]:List Value)[j]?=some u→(w.alloc (.cells #[.int .i64 x,.int .i64 y] t)).cell? ((⟨w.heap.size,0,none⟩:Addr).add j)=some u:=by
  intro j u hu
  match j,hu with
  | 0,hu =>
    have:u=.int .i64 x:=by simp at hu;exact hu.symm
    subst this
    show (w.alloc (.cells #[.int .i64 x,.int .i64 y] t)).cell? ⟨w.heap.size,0,none⟩=_
    go_simp
  | 1,hu =>
    have:u=.int .i64 y:=by simp at hu;exact hu.symm
    subst this
    show (w.alloc (.cells #[.int .i64 x,.int .i64 y] t)).cell? ⟨w.heap.size,1,none⟩=_
    go_simp
theorem own_below9 {w w1:World} {base:Nat} {e:TypeId} {n:Nat} {v:Value} {k:Nat} {xs:List Value} (h:w.ownsRow base e n v k xs) (hb:Below w.heap.size w w1):w1.ownsRow base e n v k xs:=by
  refine ⟨h.1,?_⟩
  rcases h.2 with hn | ⟨g,cap,cur,rfl,hg,hgg,rest⟩
  · exact .inl hn
  · exact .inr ⟨g,cap,cur,rfl,hg,by rw [hb.block g (Array.getElem?_eq_some_iff.1 hgg).1];exact hgg,rest⟩
def gis (g:P9→Sp.R) (L:Nat→P9):Nat→List (Int × Int)
  | 0=>[]
  | k + 1=>gis g L k ++ [(g (L k)).1]
theorem gis_len (g:P9→Sp.R) (L:Nat→P9):∀ k,(gis g L k).length=k
  | 0=>rfl
  | k + 1=>by show (gis g L k ++ [_]).length=_;rw [List.length_append,gis_len g L k];rfl
def gie (g:P9→Sp.R) (L:Nat→P9):Nat→Int
  | 0=>0
  | k + 1=>if gie g L k=0 then (g (L k)).2 else gie g L k
theorem gie_stop {g:P9→Sp.R} {L:Nat→P9} {k:Nat} (h:gie g L k ≠ 0):∀ {n:Nat},k≤n→gie g L n=gie g L k
  | 0,hn=>by
    have:k=0:=by omega
    subst this;rfl
  | n + 1,hn=>by
    by_cases e:k=n + 1
    · subst e;rfl
    · have z:=gie_stop h (n:=n) (by omega)
      show (if gie g L n=0 then _ else _)=_
      rw [z,if_neg h]
theorem gie_hit {g:P9→Sp.R} {L:Nat→P9} {k n:Nat} (hk:k < n) (e:gie g L k=0) (h:(g (L k)).2 ≠ 0):gie g L n=(g (L k)).2:=by
  have q:gie g L (k + 1)=(g (L k)).2:=by
    show (if gie g L k=0 then _ else _)=_
    rw [if_pos e]
  rw [gie_stop (k:=k + 1) (by rw [q];exact h) (by omega),q]
theorem gie_next {g:P9→Sp.R} {L:Nat→P9} {k:Nat} (e:gie g L k=0) (h:(g (L k)).2=0):gie g L (k + 1)=0:=by
  show (if gie g L k=0 then _ else _)=_
  rw [if_pos e,h]
theorem pair_put8 {w:World} {b:Nat} {x y:Int} (h:Pair w b x y) (u v:Int):Pair ((w.setCell ⟨b,0,none⟩ (.int .i64 u)).setCell ⟨b,1,none⟩ (.int .i64 v)) b u v:=by
  obtain ⟨h1,h2,h3,h4,h5⟩:=h
  exact ⟨by go_simp,by go_simp,by go_simp,by go_simp,by simpa using h5⟩
theorem spn_keep {W:World} {b0 b off k n:Nat} {c:P3} {i o kk:Int} {L:Nat→P9} {t:P9} (h:OwnSh W b0 c i o kk) (r:RowP W b off n L) (hk:k < n) (e:L k=t):W.cell? ⟨b0,0,none⟩=some (.int .i64 c.1)∧W.cell? ⟨b0,1,none⟩=some (.int .i64 c.2.1)∧W.cell? ⟨b0,2,none⟩=some (.int .i64 c.2.2)∧W.cell? ⟨b0,3,none⟩=some (.int .i64 i)∧W.cell? ⟨b0,4,none⟩=some (.int .i64 o)∧W.cell? ⟨b0,5,none⟩=some (.int .i64 kk)∧W.cell? ⟨b,off + k * 9,none⟩=some (.int .i64 t.1.1)∧W.cell? ⟨b,off + k * 9 + 1,none⟩=some (.int .i64 t.1.2.1)∧W.cell? ⟨b,off + k * 9 + 1 + 1,none⟩=some (.int .i64 t.1.2.2)∧W.cell? ⟨b,off + k * 9 + 1 + 1 + 1,none⟩=some (.int .i64 t.2.1.1)∧W.cell? ⟨b,off + k * 9 + 1 + 1 + 1 + 1,none⟩=some (.int .i64 t.2.1.2.1)∧W.cell? ⟨b,off + k * 9 + 1 + 1 + 1 + 1 + 1,none⟩=some (.int .i64 t.2.1.2.2)∧W.cell? ⟨b,off + k * 9 + 1 + 1 + 1 + 1 + 1 + 1,none⟩=some (.int .i64 t.2.2.1)∧W.cell? ⟨b,off + k * 9 + 1 + 1 + 1 + 1 + 1 + 1 + 1,none⟩=some (.int .i64 t.2.2.2.1)∧W.cell? ⟨b,off + k * 9 + 1 + 1 + 1 + 1 + 1 + 1 + 1 + 1,none⟩=some (.int .i64 t.2.2.2.2):=by
  subst e
  obtain ⟨⟨h0,h1,h2,h3,h4,h5⟩,_⟩:=h
  obtain ⟨k0,k1,k2,k3,k4,k5,k6,k7,k8⟩:=r.2 k hk
  exact ⟨h0,h1,h2,h3,h4,h5,k0,k1,k2,k3,k4,k5,k6,k7,k8⟩
set_option maxRecDepth 100000 in
set_option maxHeartbeats 4000000 in
theorem spans_row (c:P3) (i o kk:Int) (b off n cap:Nat) (L:Nat→P9) (g:P9→Sp.R) (w:World) (r:RowP w b off n L) (hn:n≤64)
    (G:Hid (∀ k,k < n→∀ W,Calls Tryz.prog 115 #[shv c i o kk,p9w (L k)] W fun e w'=>e=.returned (spr (g (L k)))∧Below W.heap.size W w')) :
    Calls Tryz.prog 79 #[shv c i o kk,.slice (some ⟨b,off,none⟩) n cap] w fun e w'=>∃ v,e=.returned (.tuple #[v,.int .i64 (gie g L n)])∧(gie g L n=0→w'.ownsRow w.heap.size 34 2 v n (svs (gis g L n)))∧Below w.heap.size w w':=by
  obtain ⟨i0,hi,hz0,hz1,hz2⟩:=info_parts infoSp8
  have hb1:b < w.heap.size:=r.1
  have R:=Lib.hid r
  have hn':(n:Int)≤64:=by omega
  have HI:=Lib.hid hi
  have HZ0:=Lib.hid hz0
  have HZ1:=Lib.hid hz1
  have HZ2:=Lib.hid hz2
  obtain ⟨res,hres⟩:∃ res,gie g L n=res:=⟨_,rfl⟩
  have RES:=Lib.hid hres
  have SH0:=Lib.hid (ownSh_new w c i o kk 117)
  rw [hres]
  clear r hres hi hz0 hz1 hz2
  go_enter Tryz.func79,Tryz.ntmps79
  go_wp2
  go_loopw [6,12] (fun sv kv wr=>∃ k:Nat,k≤n∧kv=.int .i64 k∧gie g L k=0∧wr.ownsRow (w.heap.size + 1) 34 2 sv k (svs (gis g L k))∧OwnSh wr w.heap.size c i o kk∧Below w.heap.size w wr) (fun _ kv _=>n - (intOf kv).toNat)
  case atStart=>exact ⟨0,Nat.zero_le _,rfl,rfl,World.ownsRow_nil _ _ _ _,SH0.out,balloc (Below.refl _ _) _⟩
  case round =>
    obtain ⟨k,hk,rfl,good,hrow,hsh,hbb⟩:=hrel
    have GOOD:=Lib.hid good
    have ROW:=Lib.hid hrow
    have SH:=Lib.hid hsh
    have B0:=Lib.hid hbb
    clear good hrow hsh hbb SH0
    by_cases hlt:k < n
    · have hk1:(k:Int) < (n:Int):=by omega
      have R2:=Lib.hid (rowP_in R.out B0.out hb1)
      have GK:=Lib.hid (G.out k hlt)
      have HIT:=Lib.hid (fun h:(g (L k)).2 ≠ 0=>gie_hit hlt GOOD.out h)
      have NEXT:=Lib.hid (fun h:(g (L k)).2=0=>gie_next GOOD.out h)
      have GS:=Lib.hid (show gis g L (k + 1)=gis g L k ++ [(g (L k)).1] from rfl)
      have hbl:b < wr.heap.size:=R2.out.1
      obtain ⟨t,ht⟩:∃ t,L k=t:=⟨_,rfl⟩
      rw [ht] at GK HIT NEXT GS
      generalize g t=gr at *
      have szr:=B0.out.size
      go_upto_region 5 with fail
      go_cut [8,9] (fun t8 t9 wx=>∃ b8:Nat,t8=.pointer (some ⟨b8,0,none⟩)∧t9=.int .i64 gr.2∧Pair wx b8 gr.1.1 gr.1.2∧Below wr.heap.size wr wx)
      case first =>
        have j0:=ownSh_drew SH.out
        have j1:=rowP_in R2.out (Below.drew (Below.refl wr.heap.size wr)) hbl
        go_region_held3 (fun w'=>w'.cell? ⟨w.heap.size,0,none⟩=some (.int .i64 c.1)∧w'.cell? ⟨w.heap.size,1,none⟩=some (.int .i64 c.2.1)∧w'.cell? ⟨w.heap.size,2,none⟩=some (.int .i64 c.2.2)∧w'.cell? ⟨w.heap.size,3,none⟩=some (.int .i64 i)∧w'.cell? ⟨w.heap.size,4,none⟩=some (.int .i64 o)∧w'.cell? ⟨w.heap.size,5,none⟩=some (.int .i64 kk)∧w'.cell? ⟨b,off + k * 9,none⟩=some (.int .i64 t.1.1)∧w'.cell? ⟨b,off + k * 9 + 1,none⟩=some (.int .i64 t.1.2.1)∧w'.cell? ⟨b,off + k * 9 + 1 + 1,none⟩=some (.int .i64 t.1.2.2)∧w'.cell? ⟨b,off + k * 9 + 1 + 1 + 1,none⟩=some (.int .i64 t.2.1.1)∧w'.cell? ⟨b,off + k * 9 + 1 + 1 + 1 + 1,none⟩=some (.int .i64 t.2.1.2.1)∧w'.cell? ⟨b,off + k * 9 + 1 + 1 + 1 + 1 + 1,none⟩=some (.int .i64 t.2.1.2.2)∧w'.cell? ⟨b,off + k * 9 + 1 + 1 + 1 + 1 + 1 + 1,none⟩=some (.int .i64 t.2.2.1)∧w'.cell? ⟨b,off + k * 9 + 1 + 1 + 1 + 1 + 1 + 1 + 1,none⟩=some (.int .i64 t.2.2.2.1)∧w'.cell? ⟨b,off + k * 9 + 1 + 1 + 1 + 1 + 1 + 1 + 1 + 1,none⟩=some (.int .i64 t.2.2.2.2))
          (first | (refine spn_keep j0 j1 hlt ht) | (refine spn_keep q0 q1 hlt ht) | (refine spn_keep (ownSh_drew (ownSh_alloc SH.out _)) (rowP_in R2.out (Below.drew ((Below.refl _ _).alloc (Nat.le_refl _) _)) hbl) hlt ht) | (refine spn_keep (ownSh_in q0 ((((Below.refl v0.heap.size v0).alloc (Nat.le_refl _) _))) q0.2) (rowP_in q1 ((Below.refl v0.heap.size v0).alloc (Nat.le_refl _) _) q1.1) hlt ht) | (refine spn_keep (ownSh_in q0 (((Below.refl wr.heap.size v0).setCell (p:=⟨wr.heap.size,0,none⟩) (Nat.le_refl _) _).setCell (p:=⟨wr.heap.size,1,none⟩) (Nat.le_refl _) _) SH.out.2) (rowP_in q1 (((Below.refl wr.heap.size v0).setCell (p:=⟨wr.heap.size,0,none⟩) (Nat.le_refl _) _).setCell (p:=⟨wr.heap.size,1,none⟩) (Nat.le_refl _) _) hbl) hlt ht) | fail)
          (first | (go_at_call 115;(with_reducible refine (GK.out _).mono ?_);rintro e v0 ⟨rfl,hv0⟩;(first | (have q0:=ownSh_below j0 hv0;have q1:=rowP_in j1 hv0 hbl;have sz0:wr.heap.size≤v0.heap.size:=hv0.size) | (have q0:=ownSh_below (ownSh_drew (ownSh_alloc SH.out _)) hv0;have q1:=rowP_in R2.out ((Below.drew ((Below.refl _ _).alloc (Nat.le_refl _) _)).trans (hv0.mono (by simp))) hbl;have sz0:wr.heap.size + 1≤v0.heap.size:=(by have:=hv0.size;simp at this;omega);have pz:=pair_below (pair_drew' (pair_new wr 0 0 34)) hv0;obtain ⟨za,zb,zc,zd,ze⟩:=id pz))) | fail)
        all_goals
          go_wp2
          go_meet
          first
            | exact ⟨_,rfl,rfl,pair_new _ _ _ _,by (repeat' (first | exact Below.refl _ _ | refine bstep ?_ hv0 | refine Below.setCell ?_ (by simp <;> omega) _ | refine balloc ?_ _ | refine Below.drew ?_))⟩
            | exact ⟨_,rfl,rfl,pair_put8 pz _ _,by (repeat' (first | exact Below.refl _ _ | refine bstep ?_ hv0 | refine Below.setCell ?_ (by simp <;> omega) _ | refine balloc ?_ _ | refine Below.drew ?_))⟩
      case rest =>
        obtain ⟨b8,rfl,rfl,hP,hB⟩:=hcut
        have SHc:=Lib.hid (ownSh_below SH.out hB)
        have Bc:=Lib.hid (B0.out.trans (hB.mono szr))
        have ROWc:=Lib.hid (own_below9 ROW.out hB)
        obtain ⟨p0,p1,p2,p3,p4⟩:=hP
        have hszc:w.heap.size + 1≤wc.heap.size:=SHc.out.2
        clear hB SH B0 ROW R2 GK
        obtain ⟨⟨x,y⟩,z⟩:=gr
        dsimp only at *
        by_cases z0:z=0
        · subst z0
          have NX:=Lib.hid (NEXT.out (by first | rfl | trivial))
          have hkk:k + 1≤64:=by omega
          clear HIT NEXT
          go_wp2_with (at_builtin;(refine wpList_append_own _ rfl _ _ 37 rfl (w.heap.size + 1) 34 i0 (.agg #[.int .i64 0,.int .i64 0]) 2 16 Tryz.underlying37 HI.out HZ0.out HZ1.out HZ2.out rfl (by decide) _ k (svs (gis g L k)) rfl (ROWc.out.alloc _) ⟨wc.heap.size,0,none⟩ 1 1 [.int .i64 x,.int .i64 y] rfl rfl (sp2_new _ _ _ _) (by intro u hu;simp at hu;rcases hu with rfl | rfl <;> rfl) (by unfold maxLen;omega) (by omega) (by simp;omega) ?_);intro v' w1 hown' hgrow _;have OW:=Lib.hid hown';have GR:=Lib.hid hgrow;clear hown' hgrow)
          have B1:Below (w.heap.size + 1) wc w1:=((Below.refl _ wc).alloc (by omega) _).grown GR.out (by simp;omega) (fun gg hg=>(ROWc.out.lt gg hg).1)
          have BG:=Lib.hid (Bc.out.trans (B1.mono (by omega)))
          have SH2:=Lib.hid (ownSh_in SHc.out B1 (by omega))
          clear B1
          go_roundw
          case rel=>exact ⟨k + 1,by omega,by go_num,NX.out,by rw [GS.out,← svs_snoc];exact OW.out,SH2.out,BG.out⟩
          case measure=>simp [intOf];omega
        · have z1:(z != 0)=true:=bne_iff_ne.2 z0
          have hf:res=z:=by rw [← RES.out];exact HIT.out z0
          subst hf
          clear HIT NEXT
          go_wp2
          go_ret2
          exact ⟨_,rfl,fun h=>absurd h z0,Bc.out⟩
    · obtain rfl:k=n:=by omega
      have hf:res=0:=by rw [← RES.out];exact GOOD.out
      subst hf
      go_wp2
      go_ret2
      exact ⟨u6,rfl,by first | exact own_base9 (B:=w.heap.size) ROW.out (by omega) | exact fun _=>own_base9 (B:=w.heap.size) ROW.out (by omega),B0.out⟩
end Go.Proofs.YtgchcnpgjfoadaaGreat
namespace Go.Proofs.YtgchcnpgjfoadaaGreat
open Go.ChangeShapes Go.WideShapes Go.RowKit
open Sh
theorem first_bad8 (f:Nat→Bool) (n:Nat):(∀ k,k < n→f k=true)∨∃ k0,k0 < n∧f k0=false∧∀ k,k < k0→f k=true:=by
  induction n with
  | zero=>exact Or.inl (fun k hk=>absurd hk (Nat.not_lt_zero k))
  | succ n ih =>
    rcases ih with ih | ⟨k0,h1,h2,h3⟩
    · cases e:f n with
      | true=>exact Or.inl (fun k hk=>by
          by_cases c:k=n
          · rw [c,e]
          · exact ih k (by omega))
      | false=>exact Or.inr ⟨n,by omega,e,ih⟩
    · exact Or.inr ⟨k0,by omega,h2,h3⟩
def mnR8 (l h:Nat→Int) (n:Nat):Sp.R:=if (List.range n).all (fun k=>Sp.vldB (l k) (h k))=true then meanR (sm l n) (sm h n) 0 n else ((0,0),1)
theorem all_yes {f:Nat→Bool} {n:Nat} (h:∀ k,k < n→f k=true):(List.range n).all f=true:=by
  rw [List.all_eq_true]
  exact fun k hk=>h k (List.mem_range.1 hk)
theorem all_no {f:Nat→Bool} {n k:Nat} (hk:k < n) (h:f k=false):¬ (List.range n).all f=true:=fun c=>by
  rw [List.all_eq_true] at c
  have:=c k (List.mem_range.2 hk)
  rw [h] at this
  cases this
theorem mean8_any (b off n cap:Nat) (l h:Nat→Int) (w:World) (r:Row w b off n l h) (hm:n≤1000) :
    Calls Tryz.prog 80 #[.slice (some ⟨b,off,none⟩) n cap] w fun e w'=>e=.returned (spr (mnR8 l h n))∧Below w.heap.size w w':=by
  unfold mnR8
  rcases first_bad8 (fun k=>Sp.vldB (l k) (h k)) n with v | ⟨k0,hk,nv,v⟩
  · rw [if_pos (all_yes v)]
    have bd1:=sm_bd (f:=l) (k:=n) (fun i hi=>by have:=Sp.vld_iff.1 (v i hi);omega)
    have bd2:=sm_bd (f:=h) (k:=n) (fun i hi=>by have:=Sp.vld_iff.1 (v i hi);omega)
    have T1:TotC 32 (some ⟨b,off,none⟩) n cap (sm l n) (sm h n) 0 w:=fun W B=>total_ok b off n cap l h W (row_below r B) (by omega) v
    have S1:Sm (sm l n) (n:Int):=⟨by omega,by omega,by omega,by omega⟩
    have S2:Sm (sm h n) (n:Int):=⟨by omega,by omega,by omega,by omega⟩
    exact mean_any _ n cap _ _ 0 w w (Lib.hid T1) (Below.refl _ _) (by omega) (Lib.hid S1) (Lib.hid S2)
  · rw [if_neg (all_no hk nv)]
    have T1:TotC 32 (some ⟨b,off,none⟩) n cap 0 0 1 w:=fun W B=>total_bad b off n cap k0 l h W (row_below r B) (by omega) hk v nv
    have S1:Sm 0 (n:Int):=⟨by omega,by omega,by omega,by omega⟩
    exact mean_any _ n cap 0 0 1 w w (Lib.hid T1) (Below.refl _ _) (by omega) (Lib.hid S1) (Lib.hid S1)
theorem rowP_of {w:World} {base n cap:Nat} {g:Nat} {l:List P9} (h:w.ownsRow base 59 9 (.slice (some ⟨g,0,none⟩) n cap) n (pcs l)) (hn:l.length=n):RowP w g 0 n (fun k=>l.getD k ((0,0,0),(0,0,0),(0,0,0))):=by
  have key:∀ (l:List P9) (k:Nat),k < l.length→∀ j,j < 9→(pcs l)[k * 9 + j]?=(pcs9 (l.getD k ((0,0,0),(0,0,0),(0,0,0))))[j]?:=by
    intro l
    induction l with
    | nil=>intro k hk;exact absurd hk (Nat.not_lt_zero k)
    | cons t l ih =>
      intro k hk j hj
      have e:pcs (t :: l)=pcs9 t ++ pcs l:=by simp [pcs]
      have e9:(pcs9 t).length=9:=rfl
      cases k with
      | zero =>
        rw [e,List.getElem?_append_left (by rw [e9];omega),Nat.zero_mul,Nat.zero_add]
        rfl
      | succ k =>
        rw [e,List.getElem?_append_right (by rw [e9];omega),e9,show (k + 1) * 9 + j - 9=k * 9 + j by omega]
        exact ih k (by simpa using hk) j hj
  refine ⟨(h.lt g rfl).2,fun k hk=>?_⟩
  have cc:∀ j,j < 9→w.cell? ⟨g,0 + k * 9 + j,none⟩=(pcs9 (l.getD k ((0,0,0),(0,0,0),(0,0,0))))[j]?:=fun j hj=>by
    rw [Nat.zero_add,h.cellAt (k * 9 + j) (by omega),key l k (by omega) j hj]
  exact ⟨cc 0 (by decide),cc 1 (by decide),cc 2 (by decide),cc 3 (by decide),cc 4 (by decide),cc 5 (by decide),cc 6 (by decide),cc 7 (by decide),cc 8 (by decide)⟩
theorem row_of8 {w:World} {base n cap:Nat} {g:Nat} {l:List (Int × Int)} (h:w.ownsRow base 34 2 (.slice (some ⟨g,0,none⟩) n cap) n (svs l)) (hn:l.length=n):Row w g 0 n (fun k=>(l.getD k (0,0)).1) (fun k=>(l.getD k (0,0)).2):=by
  have key:∀ (l:List (Int × Int)) (k:Nat),k < l.length→(svs l)[k * 2]?=some (.int .i64 (l.getD k (0,0)).1)∧(svs l)[k * 2 + 1]?=some (.int .i64 (l.getD k (0,0)).2):=by
    intro l
    induction l with
    | nil=>intro k hk;exact absurd hk (Nat.not_lt_zero k)
    | cons t l ih =>
      intro k hk
      have e:svs (t :: l)=.int .i64 t.1 :: .int .i64 t.2 :: svs l:=by simp [svs]
      cases k with
      | zero=>rw [e];exact ⟨rfl,rfl⟩
      | succ k =>
        rw [e,show (k + 1) * 2=k * 2 + 1 + 1 by omega]
        exact ih k (by simpa using hk)
  refine ⟨(h.lt g rfl).2,fun k hk=>?_⟩
  rw [Nat.zero_add,h.cellAt (k * 2) (by omega),h.cellAt (k * 2 + 1) (by omega)]
  exact key l k (by omega)
theorem own_slice8 {w:World} {base:Nat} {e:TypeId} {s:Nat} {v:Value} {n:Nat} {xs:List Value} (h:w.ownsRow base e s v n xs) (h0:0 < n):∃ g cap,v=.slice (some ⟨g,0,none⟩) n cap:=by
  rcases h.2 with ⟨_,h1⟩ | ⟨g,cap,cur,e,_⟩
  · omega
  · exact ⟨g,cap,e⟩
def ptk (t:P9) (d:Int) (k:Nat):P9:=(cutP d.toNat t).getD k ((0,0,0),(0,0,0),(0,0,0))
def ptn (d:Int):Nat:=4 ^ d.toNat
theorem ptk_bd {t:P9} {d:Int} (h:BdT 64 t) (h0:0≤d) (h3:d≤3) {k:Nat} (hk:k < ptn d):BdT 512 (ptk t d k):=by
  have hm:ptk t d k ∈ cutP d.toNat t:=by
    unfold ptk
    rw [List.getD_eq_getElem?_getD,List.getElem?_eq_getElem (by rw [cutP_len];exact hk)]
    exact List.getElem_mem _
  refine (cutP_bd d.toNat h _ hm).mono ?_
  have:d.toNat=0∨d.toNat=1∨d.toNat=2∨d.toNat=3:=by omega
  rcases this with e | e | e | e <;> rw [e] <;> decide
def shG (x:P3) (s d q:Int) (t:P9):Sp.R:=giR (tim (scl d) x) (inn s d q) (out8 s d q) (scl d) t
def hdR (x:P3) (s d:Int) (p:Pu) (tick:Int):Sp.R :=
  if tick≤p.2.1 then ((0,0),0) else
  if gie (shG x s d (tick - p.2.1)) (ptk p.1 d) (ptn d) ≠ 0 then ((0,0),gie (shG x s d (tick - p.2.1)) (ptk p.1 d) (ptn d)) else
  let m:=mnR8 (fun k=>((gis (shG x s d (tick - p.2.1)) (ptk p.1 d) (ptn d)).getD k (0,0)).1) (fun k=>((gis (shG x s d (tick - p.2.1)) (ptk p.1 d) (ptn d)).getD k (0,0)).2) (ptn d)
  if m.2 ≠ 0 then ((0,0),m.2) else scaleR m.1.1 m.1.2 p.2.2
set_option maxRecDepth 100000 in
set_option maxHeartbeats 2000000 in
theorem hrd_0 (x:P3) (s d:Int) (p:Pu) (tick:Int) (w:World) (h1:tick≤p.2.1):Calls Tryz.prog 55 #[micv x s d,puv p,.int .i64 tick] w fun e w'=>e=.returned (spr ((0,0),0))∧Below w.heap.size w w':=by
  go_enter Tryz.func55,Tryz.ntmps55
  go_wp2
  refine bodyPost_ret (v:=spr ((0,0),0)) (by rw [results_cell_tmp rfl];go_simp) rfl ⟨rfl,?_⟩
  (repeat' (first | exact Below.refl _ _ | refine Below.setCell ?_ (by simp <;> omega) _ | refine balloc ?_ _ | refine Below.drew ?_ | refine bdrewN ?_ _))
set_option maxRecDepth 100000 in
set_option maxHeartbeats 2000000 in
theorem hrd_1 (x:P3) (s d:Int) (p:Pu) (tick:Int) (w:World) (c:P3) (i o k er:Int) (PV:Value→World→Prop) (PVb:Hid (∀ v W W',PV v W→Below W.heap.size W W'→PV v W')) (UV:Value→World→Prop) (h1:decide (tick≤p.2.1)=false) (t1:0≤tick) (t2:tick≤2000) (t3:0≤p.2.1) (t4:p.2.1≤1000) (PA:Hid (∀ W,Calls Tryz.prog 77 #[p9w p.1,.int .i64 d] W fun e w'=>∃ v,e=.returned (.tuple #[v,.int .i64 0])∧PV v w'∧Below W.heap.size W w')) (SH:Hid (∀ W,Calls Tryz.prog 78 #[micv x s d,.int .i64 (tick - p.2.1)] W fun e w'=>e=.returned (shv c i o k)∧Below W.heap.size W w')) (SN:Hid (∀ v W,PV v W→Calls Tryz.prog 79 #[shv c i o k,v] W fun e w'=>∃ u,e=.returned (.tuple #[u,.int .i64 er])∧UV u w'∧Below W.heap.size W w')) (z:(er != 0)=true):Calls Tryz.prog 55 #[micv x s d,puv p,.int .i64 tick] w fun e w'=>e=.returned (spr ((0,0),er))∧Below w.heap.size w w':=by
  have M:=Lib.hid (ownMic_alloc (ownMic_alloc (ownMic_new w x s d 55) (pub p 61)) (.cells #[.int .i64 0,.int .i64 0] 34))
  have P:=Lib.hid (ownPu_alloc (ownPu_new (w.alloc (micb x s d 55)) p 61) (.cells #[.int .i64 0,.int .i64 0] 34))
  have R:=Lib.hid (pair_new ((w.alloc (micb x s d 55)).alloc (pub p 61)) 0 0 34)
  simp only [World.size_alloc] at P R
  go_enter Tryz.func55,Tryz.ntmps55
  go_wp2_with fail
  refine (PA.out _).mono ?_
  rintro e w1 ⟨v,rfl,hpv,hb1⟩
  have PV1:=Lib.hid hpv
  clear hpv
  obtain ⟨⟨m0,m1,m2,m3,m4⟩,ml⟩:=ownMic_below M.out hb1
  obtain ⟨⟨d0,d1,d2,d3,d4,d5,d6,d7,d8,d9,d10⟩,dl⟩:=ownPu_below P.out hb1
  go_wp2_with fail
  refine (SH.out _).mono ?_
  rintro e w2 ⟨rfl,hb2⟩
  have PV2:=Lib.hid (PVb.out _ _ _ PV1.out hb2)
  go_wp2_with fail
  refine (SN.out _ _ PV2.out).mono ?_
  rintro e w3 ⟨u,rfl,huv,hb3⟩
  have UV3:=Lib.hid huv
  clear huv m0 m1 m2 m3 m4 ml d0 d1 d2 d3 d4 d5 d6 d7 d8 d9 d10 dl
  obtain ⟨g0,g1,g2,g3,gl⟩:=pair_below (pair_below (pair_below R.out hb1) hb2) hb3
  go_wp2
  refine bodyPost_ret (v:=spr ((0,0),er)) (by rw [results_cell_tmp rfl];go_simp) rfl ⟨rfl,?_⟩
  (repeat' (first | exact Below.refl _ _ | refine bstep ?_ hb3 | refine bstep ?_ hb2 | refine bstep ?_ hb1 | refine Below.setCell ?_ (by simp <;> omega) _ | refine balloc ?_ _ | refine Below.drew ?_ | refine bdrewN ?_ _))
set_option maxRecDepth 100000 in
set_option maxHeartbeats 2000000 in
theorem hrd_2 (x:P3) (s d:Int) (p:Pu) (tick:Int) (w:World) (c:P3) (i o k:Int) (m:Sp.R) (PV:Value→World→Prop) (PVb:Hid (∀ v W W',PV v W→Below W.heap.size W W'→PV v W')) (UV:Value→World→Prop) (h1:decide (tick≤p.2.1)=false) (t1:0≤tick) (t2:tick≤2000) (t3:0≤p.2.1) (t4:p.2.1≤1000) (PA:Hid (∀ W,Calls Tryz.prog 77 #[p9w p.1,.int .i64 d] W fun e w'=>∃ v,e=.returned (.tuple #[v,.int .i64 0])∧PV v w'∧Below W.heap.size W w')) (SH:Hid (∀ W,Calls Tryz.prog 78 #[micv x s d,.int .i64 (tick - p.2.1)] W fun e w'=>e=.returned (shv c i o k)∧Below W.heap.size W w')) (SN:Hid (∀ v W,PV v W→Calls Tryz.prog 79 #[shv c i o k,v] W fun e w'=>∃ u,e=.returned (.tuple #[u,.int .i64 0])∧UV u w'∧Below W.heap.size W w')) (MN:Hid (∀ u W,UV u W→Calls Tryz.prog 80 #[u] W fun e w'=>e=.returned (spr m)∧Below W.heap.size W w')) (z:(m.2 != 0)=true):Calls Tryz.prog 55 #[micv x s d,puv p,.int .i64 tick] w fun e w'=>e=.returned (spr ((0,0),m.2))∧Below w.heap.size w w':=by
  have M:=Lib.hid (ownMic_alloc (ownMic_alloc (ownMic_new w x s d 55) (pub p 61)) (.cells #[.int .i64 0,.int .i64 0] 34))
  have P:=Lib.hid (ownPu_alloc (ownPu_new (w.alloc (micb x s d 55)) p 61) (.cells #[.int .i64 0,.int .i64 0] 34))
  have R:=Lib.hid (pair_new ((w.alloc (micb x s d 55)).alloc (pub p 61)) 0 0 34)
  simp only [World.size_alloc] at P R
  go_enter Tryz.func55,Tryz.ntmps55
  go_wp2_with fail
  refine (PA.out _).mono ?_
  rintro e w1 ⟨v,rfl,hpv,hb1⟩
  have PV1:=Lib.hid hpv
  clear hpv
  obtain ⟨⟨m0,m1,m2,m3,m4⟩,ml⟩:=ownMic_below M.out hb1
  obtain ⟨⟨d0,d1,d2,d3,d4,d5,d6,d7,d8,d9,d10⟩,dl⟩:=ownPu_below P.out hb1
  go_wp2_with fail
  refine (SH.out _).mono ?_
  rintro e w2 ⟨rfl,hb2⟩
  have PV2:=Lib.hid (PVb.out _ _ _ PV1.out hb2)
  go_wp2_with fail
  refine (SN.out _ _ PV2.out).mono ?_
  rintro e w3 ⟨u,rfl,huv,hb3⟩
  have UV3:=Lib.hid huv
  clear huv m0 m1 m2 m3 m4 ml d0 d1 d2 d3 d4 d5 d6 d7 d8 d9 d10 dl
  obtain ⟨g0,g1,g2,g3,gl⟩:=pair_below (pair_below (pair_below R.out hb1) hb2) hb3
  go_wp2_with fail
  refine (MN.out _ _ UV3.out).mono ?_
  rintro e w4 ⟨rfl,hb4⟩
  obtain ⟨e0,e1,e2,e3,el⟩:=pair_below (pair_below (pair_below (pair_below R.out hb1) hb2) hb3) hb4
  clear g0 g1 g2 g3 gl
  go_wp2
  refine bodyPost_ret (v:=spr ((0,0),m.2)) (by rw [results_cell_tmp rfl];go_simp) rfl ⟨rfl,?_⟩
  (repeat' (first | exact Below.refl _ _ | refine bstep ?_ hb4 | refine bstep ?_ hb3 | refine bstep ?_ hb2 | refine bstep ?_ hb1 | refine Below.setCell ?_ (by simp <;> omega) _ | refine balloc ?_ _ | refine Below.drew ?_ | refine bdrewN ?_ _))
set_option maxRecDepth 100000 in
set_option maxHeartbeats 2000000 in
theorem hrd_3 (x:P3) (s d:Int) (p:Pu) (tick:Int) (w:World) (c:P3) (i o k:Int) (m r:Sp.R) (PV:Value→World→Prop) (PVb:Hid (∀ v W W',PV v W→Below W.heap.size W W'→PV v W')) (UV:Value→World→Prop) (h1:decide (tick≤p.2.1)=false) (t1:0≤tick) (t2:tick≤2000) (t3:0≤p.2.1) (t4:p.2.1≤1000) (PA:Hid (∀ W,Calls Tryz.prog 77 #[p9w p.1,.int .i64 d] W fun e w'=>∃ v,e=.returned (.tuple #[v,.int .i64 0])∧PV v w'∧Below W.heap.size W w')) (SH:Hid (∀ W,Calls Tryz.prog 78 #[micv x s d,.int .i64 (tick - p.2.1)] W fun e w'=>e=.returned (shv c i o k)∧Below W.heap.size W w')) (SN:Hid (∀ v W,PV v W→Calls Tryz.prog 79 #[shv c i o k,v] W fun e w'=>∃ u,e=.returned (.tuple #[u,.int .i64 0])∧UV u w'∧Below W.heap.size W w')) (MN:Hid (∀ u W,UV u W→Calls Tryz.prog 80 #[u] W fun e w'=>e=.returned (spr m)∧Below W.heap.size W w')) (SC:Hid (∀ W,Calls Tryz.prog 23 #[spv m.1.1 m.1.2,.int .i64 p.2.2] W fun e w'=>e=.returned (spr r)∧Below W.heap.size W w')) (z:m.2=0):Calls Tryz.prog 55 #[micv x s d,puv p,.int .i64 tick] w fun e w'=>e=.returned (spr r)∧Below w.heap.size w w':=by
  obtain ⟨⟨ma,mb⟩,mc⟩:=m
  have z:mc=0:=z
  subst z
  dsimp only at *
  have M:=Lib.hid (ownMic_alloc (ownMic_alloc (ownMic_new w x s d 55) (pub p 61)) (.cells #[.int .i64 0,.int .i64 0] 34))
  have P:=Lib.hid (ownPu_alloc (ownPu_new (w.alloc (micb x s d 55)) p 61) (.cells #[.int .i64 0,.int .i64 0] 34))
  have R:=Lib.hid (pair_new ((w.alloc (micb x s d 55)).alloc (pub p 61)) 0 0 34)
  simp only [World.size_alloc] at P R
  go_enter Tryz.func55,Tryz.ntmps55
  go_wp2_with fail
  refine (PA.out _).mono ?_
  rintro e w1 ⟨v,rfl,hpv,hb1⟩
  have PV1:=Lib.hid hpv
  clear hpv
  obtain ⟨⟨m0,m1,m2,m3,m4⟩,ml⟩:=ownMic_below M.out hb1
  obtain ⟨⟨d0,d1,d2,d3,d4,d5,d6,d7,d8,d9,d10⟩,dl⟩:=ownPu_below P.out hb1
  go_wp2_with fail
  refine (SH.out _).mono ?_
  rintro e w2 ⟨rfl,hb2⟩
  have PV2:=Lib.hid (PVb.out _ _ _ PV1.out hb2)
  go_wp2_with fail
  refine (SN.out _ _ PV2.out).mono ?_
  rintro e w3 ⟨u,rfl,huv,hb3⟩
  have UV3:=Lib.hid huv
  clear huv m0 m1 m2 m3 m4 ml d0 d1 d2 d3 d4 d5 d6 d7 d8 d9 d10 dl
  obtain ⟨g0,g1,g2,g3,gl⟩:=pair_below (pair_below (pair_below R.out hb1) hb2) hb3
  go_wp2_with fail
  refine (MN.out _ _ UV3.out).mono ?_
  rintro e w4 ⟨rfl,hb4⟩
  obtain ⟨e0,e1,e2,e3,el⟩:=pair_below (pair_below (pair_below (pair_below R.out hb1) hb2) hb3) hb4
  clear g0 g1 g2 g3 gl
  obtain ⟨⟨d0,d1,d2,d3,d4,d5,d6,d7,d8,d9,d10⟩,dl⟩:=ownPu_below (ownPu_below (ownPu_below (ownPu_below P.out hb1) hb2) hb3) hb4
  have E0:=Lib.hid (show Pair w4 (w.heap.size + 1 + 1) 0 0 from ⟨e0,e1,e2,e3,el⟩)
  go_wp2_with fail
  refine (SC.out _).mono ?_
  rintro e w5 ⟨rfl,hb5⟩
  obtain ⟨f0,f1,f2,f3,fl⟩:=pair_below (pair_alloc E0.out (.cells #[.int .i64 ma,.int .i64 mb] 34)) hb5
  clear e0 e1 e2 e3 el d0 d1 d2 d3 d4 d5 d6 d7 d8 d9 d10 dl
  go_wp2
  refine bodyPost_ret (v:=spr r) (by rw [results_cell_tmp rfl];go_simp) rfl ⟨rfl,?_⟩
  (repeat' (first | exact Below.refl _ _ | refine bstep ?_ hb5 | refine bstep ?_ hb4 | refine bstep ?_ hb3 | refine bstep ?_ hb2 | refine bstep ?_ hb1 | refine Below.setCell ?_ (by simp <;> omega) _ | refine balloc ?_ _ | refine Below.drew ?_ | refine bdrewN ?_ _))
theorem hrd_any (x:P3) (s d:Int) (p:Pu) (tick:Int) (w:World) (hp:pucode p=0) (hx:BdP 256 x) (s1:1≤s) (s2:s≤16) (d1:0≤d) (d2:d≤3) (t1:0≤tick) (t2:tick≤2000):Calls Tryz.prog 55 #[micv x s d,puv p,.int .i64 tick] w fun e w'=>e=.returned (spr (hdR x s d p tick))∧Below w.heap.size w w':=by
  obtain ⟨hb,hpc,⟨a1,a2⟩,_⟩:=pucode_ok hp
  unfold hdR
  by_cases h1:tick≤p.2.1
  · rw [if_pos h1]
    exact hrd_0 x s d p tick w h1
  rw [if_neg h1]
  have hct:ctcode p.1 d=0:=by
    unfold ctcode
    rw [if_pos hpc,if_pos (rngB_iff.2 ⟨d1,d2⟩)]
  have hlen:(cutP d.toNat p.1).length=ptn d:=cutP_len _ _
  have h0:0 < ptn d:=Nat.pow_pos (by decide)
  have hle:ptn d≤64:=by
    unfold ptn
    have:d.toNat=0∨d.toNat=1∨d.toNat=2∨d.toNat=3:=by omega
    rcases this with e | e | e | e <;> rw [e] <;> decide
  have PA:Hid (∀ W,Calls Tryz.prog 77 #[p9w p.1,.int .i64 d] W fun e w'=>∃ v,e=.returned (.tuple #[v,.int .i64 0])∧w'.ownsRow 0 59 9 v (ptn d) (pcs (cutP d.toNat p.1))∧Below W.heap.size W w'):=Lib.hid (fun W=>(prt_any p.1 d W).mono fun e w' h=>by
    obtain ⟨v,k1,k2,k3⟩:=h
    rw [hct] at k1
    rw [if_pos hct,hlen] at k2
    exact ⟨v,k1,own_base9 k2 (Nat.zero_le _),k3⟩)
  have PVb:Hid (∀ v W W',World.ownsRow W 0 59 9 v (ptn d) (pcs (cutP d.toNat p.1))→Below W.heap.size W W'→World.ownsRow W' 0 59 9 v (ptn d) (pcs (cutP d.toNat p.1))):=Lib.hid (fun v W W' h b=>own_below9 h b)
  have scl8:1≤scl d∧scl d≤8:=by
    unfold scl
    have:d.toNat=0∨d.toNat=1∨d.toNat=2∨d.toNat=3:=by omega
    rcases this with e | e | e | e <;> rw [e] <;> decide
  have SH:=Lib.hid (fun W=>shell_any x s d (tick - p.2.1) W hx s1 s2 d1 d2 (by omega) (by omega))
  have SN:Hid (∀ v W,World.ownsRow W 0 59 9 v (ptn d) (pcs (cutP d.toNat p.1))→Calls Tryz.prog 79 #[shv (tim (scl d) x) (inn s d (tick - p.2.1)) (out8 s d (tick - p.2.1)) (scl d),v] W fun e w'=>∃ u,e=.returned (.tuple #[u,.int .i64 (gie (shG x s d (tick - p.2.1)) (ptk p.1 d) (ptn d))])∧(gie (shG x s d (tick - p.2.1)) (ptk p.1 d) (ptn d)=0→w'.ownsRow 0 34 2 u (ptn d) (svs (gis (shG x s d (tick - p.2.1)) (ptk p.1 d) (ptn d))))∧Below W.heap.size W w'):=Lib.hid (fun v W ho=>by
    obtain ⟨g,cap,rfl⟩:=own_slice8 ho h0
    refine (spans_row (tim (scl d) x) (inn s d (tick - p.2.1)) (out8 s d (tick - p.2.1)) (scl d) g 0 (ptn d) cap (ptk p.1 d) (shG x s d (tick - p.2.1)) W (rowP_of ho hlen) hle (Lib.hid fun k hk W'=>given_any _ _ _ _ (ptk p.1 d k) W' ((ptk_bd hb d1 d2 hk).mono (by decide)) ((tim_bd (K:=8) (by omega) (by omega) hx).mono (by decide)))).mono fun e w' h=>?_
    obtain ⟨u,k1,k2,k3⟩:=h
    exact ⟨u,k1,fun z=>own_base9 (k2 z) (Nat.zero_le _),k3⟩)
  have hd:decide (tick≤p.2.1)=false:=decide_eq_false h1
  by_cases z:gie (shG x s d (tick - p.2.1)) (ptk p.1 d) (ptn d)=0
  · rw [if_neg (fun c=>c z)]
    rw [z] at SN
    have MN:Hid (∀ u W,((0:Int)=0→World.ownsRow W 0 34 2 u (ptn d) (svs (gis (shG x s d (tick - p.2.1)) (ptk p.1 d) (ptn d))))→Calls Tryz.prog 80 #[u] W fun e w'=>e=.returned (spr (mnR8 (fun k=>((gis (shG x s d (tick - p.2.1)) (ptk p.1 d) (ptn d)).getD k (0,0)).1) (fun k=>((gis (shG x s d (tick - p.2.1)) (ptk p.1 d) (ptn d)).getD k (0,0)).2) (ptn d)))∧Below W.heap.size W w'):=Lib.hid (fun u W ho=>by
      have ho:=ho rfl
      obtain ⟨g,cap,rfl⟩:=own_slice8 ho h0
      exact mean8_any g 0 (ptn d) cap _ _ W (row_of8 ho (gis_len _ _ _)) (by omega))
    dsimp only
    generalize mnR8 (fun k=>((gis (shG x s d (tick - p.2.1)) (ptk p.1 d) (ptn d)).getD k (0,0)).1) (fun k=>((gis (shG x s d (tick - p.2.1)) (ptk p.1 d) (ptn d)).getD k (0,0)).2) (ptn d)=m at *
    by_cases y:m.2=0
    · rw [if_neg (fun c=>c y)]
      exact hrd_3 x s d p tick w _ _ _ _ m _ _ PVb _ hd t1 t2 a1 a2 PA SH SN MN (Lib.hid fun W=>scale_any m.1.1 m.1.2 p.2.2 W) y
    · rw [if_pos y]
      exact hrd_2 x s d p tick w _ _ _ _ m _ PVb _ hd t1 t2 a1 a2 PA SH SN MN (bne_iff_ne.2 y)
  · rw [if_pos z]
    exact hrd_1 x s d p tick w _ _ _ _ _ _ PVb _ hd t1 t2 a1 a2 PA SH SN (bne_iff_ne.2 z)
end Go.Proofs.YtgchcnpgjfoadaaGreat
namespace Go.Proofs.YtgchcnpgjfoadaaGreat
open Go.ChangeShapes Go.WideShapes Go.RowKit
open Sh
def hcode (p:Pu) (x:P3) (s t d:Int):Int:=if pucode p=0 then acode8 x s t d else pucode p
theorem hcode_m (p:Pu) (x:P3) (s t d:Int):mcode8 (vpcode 1 (fun _=>p)) x s d (tcode (fun _=>t) 1)=hcode p x s t d:=by
  have e:vpcode 1 (fun _=>p)=pucode p:=by
    show (if (1:Nat)≤16 then (if (0:Int)=0 then pucode p else 0) else 4)=_
    rw [if_pos (by decide),if_pos rfl]
  have f:tcode (fun _=>t) 1=if rngB t 0 2000 then 0 else 1:=by
    show (if (0:Int)=0 then (if rngB t 0 2000 then (0:Int) else 1) else 1)=_
    rw [if_pos rfl]
  rw [e,f]
  unfold mcode8 hcode acode8
  cases inP 256 x <;> cases rngB s 1 16 <;> cases rngB t 0 2000 <;> cases rngB d 0 3 <;> rfl
theorem hcode_ok {p:Pu} {x:P3} {s t d:Int} (h:hcode p x s t d=0):pucode p=0∧BdP 256 x∧(1≤s∧s≤16)∧(0≤t∧t≤2000)∧(0≤d∧d≤3):=by
  unfold hcode at h
  by_cases z:pucode p=0
  · rw [if_pos z] at h
    exact ⟨z,acode8_ok h⟩
  · rw [if_neg z] at h
    exact absurd h z
def heaR (p:Pu) (x:P3) (s t d:Int):Sp.R:=if hcode p x s t d=0 then hdR x s d p t else ((0,0),hcode p x s t d)
set_option maxRecDepth 100000 in
set_option maxHeartbeats 2000000 in
theorem hea_no (p:Pu) (x:P3) (s t d c:Int) (w:World) (C:Hid (∀ (W:World) (b:Nat),b=W.heap.size→Calls Tryz.prog 24 #[micv x s d,.slice (some ⟨b,0,none⟩) 1 1,.slice (some ⟨b + 1,0,none⟩) 1 1] ((W.alloc (pub p 61)).alloc (.cells #[.int .i64 t] 3)) fun e w'=>e=.returned (.int .i64 c)∧Below ((W.alloc (pub p 61)).alloc (.cells #[.int .i64 t] 3)).heap.size ((W.alloc (pub p 61)).alloc (.cells #[.int .i64 t] 3)) w')) (z:(c != 0)=true):Calls Tryz.prog 37 #[puv p,ptv x,.int .i64 s,.int .i64 t,.int .i64 d] w fun e w'=>e=.returned (spr ((0,0),c))∧Below w.heap.size w w':=by
  have P:=Lib.hid (ownPu_alloc (ownPu_alloc (ownPu_alloc (ownPu_new w p 61) (ptc x 24)) (.cells #[.int .i64 0,.int .i64 0] 34)) (micb x s d 55))
  have R:=Lib.hid (pair_alloc (pair_new ((w.alloc (pub p 61)).alloc (ptc x 24)) 0 0 34) (micb x s d 55))
  have M:=Lib.hid (ownMic_new (((w.alloc (pub p 61)).alloc (ptc x 24)).alloc (.cells #[.int .i64 0,.int .i64 0] 34)) x s d 55)
  simp only [World.size_alloc] at R M
  go_enter Tryz.func37,Tryz.ntmps37
  go_wp2_with fail
  refine (C.out _ _ (by simp)).mono ?_
  rintro e w1 ⟨rfl,hb1⟩
  obtain ⟨g0,g1,g2,g3,gl⟩:=pair_below (pair_alloc (pair_alloc R.out (pub p 61)) (.cells #[.int .i64 t] 3)) hb1
  go_wp2
  refine bodyPost_ret (v:=spr ((0,0),c)) (by rw [results_cell_tmp rfl];go_simp) rfl ⟨rfl,?_⟩
  (repeat' (first | exact Below.refl _ _ | refine bstep ?_ hb1 | refine Below.setCell ?_ (by simp <;> omega) _ | refine balloc ?_ _ | refine Below.drew ?_ | refine bdrewN ?_ _))
set_option maxRecDepth 100000 in
set_option maxHeartbeats 2000000 in
theorem hea_ok (p:Pu) (x:P3) (s t d:Int) (r:Sp.R) (w:World) (C:Hid (∀ (W:World) (b:Nat),b=W.heap.size→Calls Tryz.prog 24 #[micv x s d,.slice (some ⟨b,0,none⟩) 1 1,.slice (some ⟨b + 1,0,none⟩) 1 1] ((W.alloc (pub p 61)).alloc (.cells #[.int .i64 t] 3)) fun e w'=>e=.returned (.int .i64 0)∧Below ((W.alloc (pub p 61)).alloc (.cells #[.int .i64 t] 3)).heap.size ((W.alloc (pub p 61)).alloc (.cells #[.int .i64 t] 3)) w')) (H:Hid (∀ W,Calls Tryz.prog 55 #[micv x s d,puv p,.int .i64 t] W fun e w'=>e=.returned (spr r)∧Below W.heap.size W w')):Calls Tryz.prog 37 #[puv p,ptv x,.int .i64 s,.int .i64 t,.int .i64 d] w fun e w'=>e=.returned (spr r)∧Below w.heap.size w w':=by
  have P:=Lib.hid (ownPu_alloc (ownPu_alloc (ownPu_alloc (ownPu_new w p 61) (ptc x 24)) (.cells #[.int .i64 0,.int .i64 0] 34)) (micb x s d 55))
  have R:=Lib.hid (pair_alloc (pair_new ((w.alloc (pub p 61)).alloc (ptc x 24)) 0 0 34) (micb x s d 55))
  have M:=Lib.hid (ownMic_new (((w.alloc (pub p 61)).alloc (ptc x 24)).alloc (.cells #[.int .i64 0,.int .i64 0] 34)) x s d 55)
  simp only [World.size_alloc] at R M
  go_enter Tryz.func37,Tryz.ntmps37
  go_wp2_with fail
  refine (C.out _ _ (by simp)).mono ?_
  rintro e w1 ⟨rfl,hb1⟩
  obtain ⟨g0,g1,g2,g3,gl⟩:=pair_below (pair_alloc (pair_alloc R.out (pub p 61)) (.cells #[.int .i64 t] 3)) hb1
  obtain ⟨⟨m0,m1,m2,m3,m4⟩,ml⟩:=ownMic_below (ownMic_alloc (ownMic_alloc M.out (pub p 61)) (.cells #[.int .i64 t] 3)) hb1
  obtain ⟨⟨d0,d1,d2,d3,d4,d5,d6,d7,d8,d9,d10⟩,dl⟩:=ownPu_below (ownPu_alloc (ownPu_alloc P.out (pub p 61)) (.cells #[.int .i64 t] 3)) hb1
  have E0:=Lib.hid (show Pair w1 (w.heap.size + 1 + 1) 0 0 from ⟨g0,g1,g2,g3,gl⟩)
  go_wp2_with fail
  refine (H.out _).mono ?_
  rintro e w2 ⟨rfl,hb2⟩
  clear g0 g1 g2 g3 gl m0 m1 m2 m3 m4 ml d0 d1 d2 d3 d4 d5 d6 d7 d8 d9 d10 dl
  obtain ⟨g0,g1,g2,g3,gl⟩:=pair_below E0.out hb2
  go_wp2
  refine bodyPost_ret (v:=spr r) (by rw [results_cell_tmp rfl];go_simp) rfl ⟨rfl,?_⟩
  (repeat' (first | exact Below.refl _ _ | refine bstep ?_ hb2 | refine bstep ?_ hb1 | refine Below.setCell ?_ (by simp <;> omega) _ | refine balloc ?_ _ | refine Below.drew ?_ | refine bdrewN ?_ _))
theorem hea_any (p:Pu) (x:P3) (s t d:Int) (w:World):Calls Tryz.prog 37 #[puv p,ptv x,.int .i64 s,.int .i64 t,.int .i64 d] w fun e w'=>e=.returned (spr (heaR p x s t d))∧Below w.heap.size w w':=by
  have C:=fun (W:World) (b:Nat) (e:b=W.heap.size)=>mck_any x s d (some ⟨b,0,none⟩) 1 1 (some ⟨b + 1,0,none⟩) 1 1 (fun _=>p) (fun _=>t) ((W.alloc (pub p 61)).alloc (.cells #[.int .i64 t] 3)) (fun _=>⟨_,_,rfl,rowU_below (e ▸ rowU_one W p 61) ((Below.refl _ _).alloc (Nat.le_refl _) _)⟩) (by decide) (fun _=>⟨_,_,rfl,by simp [e],fun k hk=>by
    obtain rfl:k=0:=by omega
    subst e
    rw [Nat.add_zero]
    have z:(W.alloc (pub p 61)).heap.size=W.heap.size + 1:=by simp
    rw [← z]
    go_simp⟩) (by decide)
  rw [hcode_m] at C
  unfold heaR
  by_cases z:hcode p x s t d=0
  · rw [if_pos z]
    rw [z] at C
    obtain ⟨h1,h2,h3,h4,h5⟩:=hcode_ok z
    exact hea_ok p x s t d _ w (Lib.hid C) (Lib.hid fun W=>hrd_any x s d p t W h1 h2 h3.1 h3.2 h5.1 h5.2 h4.1 h4.2)
  · rw [if_neg z]
    exact hea_no p x s t d _ w (Lib.hid C) (bne_iff_ne.2 z)
def exP:Pu:=(((10,0,0),(12,0,0),(10,2,0)),7,3)
theorem ex_trv:trvR (0,0,0) (3,4,0) 2=3∧trcode (0,0,0) (3,4,0) 2=0:=by decide
theorem ex_fst:fstR exP (0,0,0) 2=12∧fcode exP (0,0,0) 2=0:=by decide
theorem ex_h7:heaR exP (0,0,0) 2 7 1=((0,0),0):=by decide
theorem isq_eq8 {n r:Nat} (h1:r * r≤n) (h2:n < (r + 1) * (r + 1)):Rt.isq n=r:=by
  obtain ⟨k1,k2⟩:=Rt.isq_spec n
  rcases Nat.lt_trichotomy (Rt.isq n) r with h | h | h
  · have:=Nat.mul_le_mul (show Rt.isq n + 1≤r from h) (show Rt.isq n + 1≤r from h)
    omega
  · exact h
  · have:=Nat.mul_le_mul (show r + 1≤Rt.isq n from h) (show r + 1≤Rt.isq n from h)
    omega
theorem inv_val (n r:Nat) (h1:r * r≤4398046511104 / n) (h2:4398046511104 / n < (r + 1) * (r + 1)) (h3:QW 4398046511104 n 1=false) (h4:1≤(n:Int)∧(n:Int)≤1099511627776) (h5:Sp.vldB r (r + 1:Nat)=true):invR n 2=((((r:Nat):Int),((r + 1:Nat):Int)),0):=by
  have e:Rt.isq (QT 4398046511104 n 1)=r:=isq_eq8 h1 h2
  unfold invR
  rw [if_pos ⟨h4.1,h4.2,by decide,by decide⟩]
  show belowR 4398046511104 ((n:Int).toNat) 1=_
  rw [show ((n:Int).toNat)=n from rfl]
  unfold belowR qUp
  rw [h3,e]
  simp only [Bool.false_eq_true,if_false]
  exact Sp.told_yes h5
theorem iv_400:invR 400 2=((104857,104858),0):=inv_val 400 104857 (by decide) (by decide) (by decide) (by decide) (by decide)
theorem iv_576:invR 576 2=((87381,87382),0):=inv_val 576 87381 (by decide) (by decide) (by decide) (by decide) (by decide)
theorem iv_484:invR 484 2=((95325,95326),0):=inv_val 484 95325 (by decide) (by decide) (by decide) (by decide) (by decide)
theorem iv_488:invR 488 2=((94933,94934),0):=inv_val 488 94933 (by decide) (by decide) (by decide) (by decide) (by decide)
theorem iv_404:invR 404 2=((104337,104338),0):=inv_val 404 104337 (by decide) (by decide) (by decide) (by decide) (by decide)
theorem ex_g0:shG (0,0,0) 2 1 (13 - exP.2.1) (ptk exP.1 1 0)=((0,104858),0):=by
  have e1:Sp.mx (nearN (ptk exP.1 1 0) (tim (scl 1) (0,0,0))) (inn 2 1 (13 - exP.2.1))=400:=by decide
  have e2:scl 1=2:=by decide
  show giR _ _ _ _ _=_
  unfold giR
  rw [if_neg (by decide),if_neg (by decide),if_pos (by decide),e1,e2,iv_400]
theorem ex_g1:shG (0,0,0) 2 1 (13 - exP.2.1) (ptk exP.1 1 1)=((87381,95326),0):=by
  have e1:Sp.mx (nearN (ptk exP.1 1 1) (tim (scl 1) (0,0,0))) (inn 2 1 (13 - exP.2.1))=484:=by decide
  have e2:scl 1=2:=by decide
  have e3:farN (ptk exP.1 1 1) (tim (scl 1) (0,0,0))=576:=by decide
  show giR _ _ _ _ _=_
  unfold giR
  rw [if_neg (by decide),if_neg (by decide),if_neg (by decide),e1,e3,e2,iv_484,iv_576]
theorem ex_g2:shG (0,0,0) 2 1 (13 - exP.2.1) (ptk exP.1 1 2)=((94933,104338),0):=by
  have e1:Sp.mx (nearN (ptk exP.1 1 2) (tim (scl 1) (0,0,0))) (inn 2 1 (13 - exP.2.1))=404:=by decide
  have e2:scl 1=2:=by decide
  have e3:farN (ptk exP.1 1 2) (tim (scl 1) (0,0,0))=488:=by decide
  show giR _ _ _ _ _=_
  unfold giR
  rw [if_neg (by decide),if_neg (by decide),if_neg (by decide),e1,e3,e2,iv_404,iv_488]
theorem ex_g3:shG (0,0,0) 2 1 (13 - exP.2.1) (ptk exP.1 1 3)=((0,104858),0):=by
  have e1:Sp.mx (nearN (ptk exP.1 1 3) (tim (scl 1) (0,0,0))) (inn 2 1 (13 - exP.2.1))=400:=by decide
  have e2:scl 1=2:=by decide
  show giR _ _ _ _ _=_
  unfold giR
  rw [if_neg (by decide),if_neg (by decide),if_pos (by decide),e1,e2,iv_400]
theorem ex_gis:gis (shG (0,0,0) 2 1 (13 - exP.2.1)) (ptk exP.1 1) (ptn 1)=[(0,104858),(87381,95326),(94933,104338),(0,104858)]:=by
  show ((([] ++ [(shG (0,0,0) 2 1 (13 - exP.2.1) (ptk exP.1 1 0)).1]) ++ [(shG (0,0,0) 2 1 (13 - exP.2.1) (ptk exP.1 1 1)).1]) ++ [(shG (0,0,0) 2 1 (13 - exP.2.1) (ptk exP.1 1 2)).1]) ++ [(shG (0,0,0) 2 1 (13 - exP.2.1) (ptk exP.1 1 3)).1]=_
  rw [ex_g0,ex_g1,ex_g2,ex_g3]
  rfl
theorem ex_gie:gie (shG (0,0,0) 2 1 (13 - exP.2.1)) (ptk exP.1 1) (ptn 1)=0:=by
  have h:∀ k,k≤4→gie (shG (0,0,0) 2 1 (13 - exP.2.1)) (ptk exP.1 1) k=0:=by
    intro k
    induction k with
    | zero=>exact fun _=>rfl
    | succ k ih =>
      intro hk
      refine gie_next (ih (by omega)) ?_
      have:k=0∨k=1∨k=2∨k=3:=by omega
      rcases this with rfl | rfl | rfl | rfl
      · rw [ex_g0]
      · rw [ex_g1]
      · rw [ex_g2]
      · rw [ex_g3]
  exact h 4 (Nat.le_refl _)
def exL:List (Int × Int):=[(0,104858),(87381,95326),(94933,104338),(0,104858)]
def exM:Sp.R:=mnR8 (fun k=>(exL.getD k (0,0)).1) (fun k=>(exL.getD k (0,0)).2) 4
theorem ex_h13e:heaR exP (0,0,0) 2 13 1=scaleR exM.1.1 exM.1.2 3:=by
  unfold heaR hdR
  rw [if_pos (by decide),if_neg (by decide),if_neg (fun c=>c ex_gie),ex_gis]
  show (if exM.2 ≠ 0 then _ else scaleR exM.1.1 exM.1.2 3)=_
  rw [if_neg (by decide)]
theorem ex_h13:(heaR exP (0,0,0) 2 13 1).2=0∧0 < (heaR exP (0,0,0) 2 13 1).1.2:=by
  rw [ex_h13e]
  decide
set_option maxRecDepth 100000 in
set_option maxHeartbeats 2000000 in
theorem sane_any (w:World):Calls Tryz.prog 16 #[] w fun e w'=>e=.returned (.bool true)∧Below w.heap.size w w':=by
  have T:Hid (∀ W,Calls Tryz.prog 4 #[.agg #[.int .i64 0,.int .i64 0,.int .i64 0],.agg #[.int .i64 3,.int .i64 4,.int .i64 0],.int .i64 2] W fun e w'=>e=.returned (.tuple #[.int .i64 3,.int .i64 0])∧Below W.heap.size W w'):=Lib.hid (fun W=>by have z:=trv_any (0,0,0) (3,4,0) 2 W;rw [ex_trv.1,ex_trv.2] at z;exact z)
  have FF:Hid (∀ W,Calls Tryz.prog 36 #[.agg #[.int .i64 10,.int .i64 0,.int .i64 0,.int .i64 12,.int .i64 0,.int .i64 0,.int .i64 10,.int .i64 2,.int .i64 0,.int .i64 7,.int .i64 3],.agg #[.int .i64 0,.int .i64 0,.int .i64 0],.int .i64 2] W fun e w'=>e=.returned (.tuple #[.int .i64 12,.int .i64 0])∧Below W.heap.size W w'):=Lib.hid (fun W=>by have z:=fst_any exP (0,0,0) 2 W;rw [ex_fst.1,ex_fst.2] at z;exact z)
  have H7:Hid (∀ W,Calls Tryz.prog 37 #[.agg #[.int .i64 10,.int .i64 0,.int .i64 0,.int .i64 12,.int .i64 0,.int .i64 0,.int .i64 10,.int .i64 2,.int .i64 0,.int .i64 7,.int .i64 3],.agg #[.int .i64 0,.int .i64 0,.int .i64 0],.int .i64 2,.int .i64 7,.int .i64 1] W fun e w'=>e=.returned (spr ((0,0),0))∧Below W.heap.size W w'):=Lib.hid (fun W=>by have z:=hea_any exP (0,0,0) 2 7 1 W;rw [ex_h7] at z;exact z)
  have Z13:=ex_h13
  have H13:=Lib.hid (fun W=>hea_any exP (0,0,0) 2 13 1 W)
  generalize heaR exP (0,0,0) 2 13 1=r at Z13 H13
  obtain ⟨⟨lo,hi⟩,er⟩:=r
  obtain ⟨z,h0⟩:=Z13
  have z:er=0:=z
  subst z
  have h0:0 < hi:=h0
  replace H13:Hid (∀ W,Calls Tryz.prog 37 #[.agg #[.int .i64 10,.int .i64 0,.int .i64 0,.int .i64 12,.int .i64 0,.int .i64 0,.int .i64 10,.int .i64 2,.int .i64 0,.int .i64 7,.int .i64 3],.agg #[.int .i64 0,.int .i64 0,.int .i64 0],.int .i64 2,.int .i64 13,.int .i64 1] W fun e w'=>e=.returned (spr ((lo,hi),0))∧Below W.heap.size W w'):=H13
  have P:=Lib.hid (ownPu_new w exP 61)
  go_enter Tryz.func16,Tryz.ntmps16
  go_wp2_with fail
  refine (T.out _).mono ?_
  rintro e w1 ⟨rfl,hb1⟩
  have P1:=Lib.hid (ownPu_below P.out hb1)
  obtain ⟨⟨d0,d1,d2,d3,d4,d5,d6,d7,d8,d9,d10⟩,dl⟩:=P1.out
  simp only [exP] at d0 d1 d2 d3 d4 d5 d6 d7 d8 d9 d10
  go_wp2_with fail
  refine (FF.out _).mono ?_
  rintro e w2 ⟨rfl,hb2⟩
  have P2:=Lib.hid (ownPu_below P1.out hb2)
  clear d0 d1 d2 d3 d4 d5 d6 d7 d8 d9 d10 dl
  obtain ⟨⟨d0,d1,d2,d3,d4,d5,d6,d7,d8,d9,d10⟩,dl⟩:=P2.out
  simp only [exP] at d0 d1 d2 d3 d4 d5 d6 d7 d8 d9 d10
  go_wp2_with fail
  refine (H7.out _).mono ?_
  rintro e w3 ⟨rfl,hb3⟩
  have P3:=Lib.hid (ownPu_alloc (ownPu_below P2.out hb3) (.cells #[.int .i64 0,.int .i64 0] 34))
  have S3:=Lib.hid (pair_new w3 0 0 34)
  clear d0 d1 d2 d3 d4 d5 d6 d7 d8 d9 d10 dl
  obtain ⟨⟨d0,d1,d2,d3,d4,d5,d6,d7,d8,d9,d10⟩,dl⟩:=P3.out
  simp only [exP] at d0 d1 d2 d3 d4 d5 d6 d7 d8 d9 d10
  go_wp2_with fail
  refine (H13.out _).mono ?_
  rintro e w4 ⟨rfl,hb4⟩
  obtain ⟨q0,q1,q2,q3,ql⟩:=pair_below S3.out hb4
  clear d0 d1 d2 d3 d4 d5 d6 d7 d8 d9 d10 dl
  go_wp2
  go_ret
  exact ⟨rfl,by (repeat' (first | exact Below.refl _ _ | refine bstep ?_ hb4 | refine bstep ?_ hb3 | refine bstep ?_ hb2 | refine bstep ?_ hb1 | refine Below.setCell ?_ (by simp <;> omega) _ | refine balloc ?_ _ | refine Below.drew ?_ | refine bdrewN ?_ _))⟩
end Go.Proofs.YtgchcnpgjfoadaaGreat
