import Derived.Test.YtciimaojoococaaGreatSoMb
import Derived.Test.YtciimaojoococaaGreatSo32
import Derived.Deep.DeepCutAuto
namespace Go.Proofs.YtciimaojoococaaGreat
open Go.ChangeShapes Go.WideShapes Go.RowKit
open Sh
attribute [local go_sem 1000000] run_min_mn run_max_mx
theorem invR_ok {m k:Int} (m1:1≤m) (m2:m≤1099511627776) (k1:1≤k) (k2:k≤8):(invR m k).2=0:=by
  unfold invR
  rw [if_pos ⟨m1,m2,k1,k2⟩]
  unfold belowR
  have hk:k.toNat≤8:=by omega
  have h1:k.toNat * 1048576 * (k.toNat * 1048576)≤8 * 1048576 * (8 * 1048576):=Nat.mul_le_mul (Nat.mul_le_mul_right _ hk) (Nat.mul_le_mul_right _ hk)
  have h2:=QT_le (k.toNat * 1048576 * (k.toNat * 1048576)) m.toNat 1
  have hq:qUp (k.toNat * 1048576 * (k.toNat * 1048576)) m.toNat 1=Rt.isq (QT (k.toNat * 1048576 * (k.toNat * 1048576)) m.toNat 1)∨qUp (k.toNat * 1048576 * (k.toNat * 1048576)) m.toNat 1=Rt.isq (QT (k.toNat * 1048576 * (k.toNat * 1048576)) m.toNat 1) + 1:=by
    unfold qUp Rt.csq
    split
    · split
      · exact Or.inl rfl
      · exact Or.inr rfl
    · exact Or.inr rfl
  generalize QT (k.toNat * 1048576 * (k.toNat * 1048576)) m.toNat 1=q at h2 hq
  have h3:Rt.isq q≤8388608:=by
    have hs:=(Rt.isq_spec q).1
    refine Classical.byContradiction fun c=>?_
    have:=Nat.mul_le_mul (show 8388609≤Rt.isq q by omega) (show 8388609≤Rt.isq q by omega)
    omega
  have h4:Rt.isq q≤qUp (k.toNat * 1048576 * (k.toNat * 1048576)) m.toNat 1∧qUp (k.toNat * 1048576 * (k.toNat * 1048576)) m.toNat 1≤8388609:=by
    have hc:=hq
    rcases hc with e | e <;> omega
  rw [Sp.told_yes (Sp.vld_iff.2 ⟨by omega,by omega,by omega⟩)]
theorem sr_keep {W:World} {b0 b1:Nat} {c:P3} {x y z:P3} (g:Pan W b0 x y z) (h:Own W b1 c):W.cell? ⟨b0,0,none⟩=some (.int .i64 x.1)∧W.cell? ⟨b0,1,none⟩=some (.int .i64 x.2.1)∧W.cell? ⟨b0,2,none⟩=some (.int .i64 x.2.2)∧W.cell? ⟨b0,3,none⟩=some (.int .i64 y.1)∧W.cell? ⟨b0,4,none⟩=some (.int .i64 y.2.1)∧W.cell? ⟨b0,5,none⟩=some (.int .i64 y.2.2)∧W.cell? ⟨b0,6,none⟩=some (.int .i64 z.1)∧W.cell? ⟨b0,7,none⟩=some (.int .i64 z.2.1)∧W.cell? ⟨b0,8,none⟩=some (.int .i64 z.2.2)∧W.cell? ⟨b1,0,none⟩=some (.int .i64 c.1)∧W.cell? ⟨b1,1,none⟩=some (.int .i64 c.2.1)∧W.cell? ⟨b1,2,none⟩=some (.int .i64 c.2.2):=by
  obtain ⟨k0,k1,k2,k3,k4,k5,k6,k7,k8,_⟩:=g
  exact ⟨k0,k1,k2,k3,k4,k5,k6,k7,k8,h.1,h.2.1,h.2.2.1⟩
set_option maxRecDepth 100000 in
set_option maxHeartbeats 2000000 in
theorem shr_1 (c:P3) (i o k:Int) (x y z:P3) (n f:Int) (w:World) (NN:Hid (∀ W,Calls Tryz.prog 62 #[pnv x y z,ptv c] W fun e w'=>e=.returned (.int .i64 n)∧Below W.heap.size W w')) (FF:Hid (∀ W,Calls Tryz.prog 63 #[pnv x y z,ptv c] W fun e w'=>e=.returned (.int .i64 f)∧Below W.heap.size W w')) (h1:f≤i):Calls Tryz.prog 78 #[pnv x y z,ptv c,.int .i64 i,.int .i64 o,.int .i64 k] w fun e w'=>e=.returned (spr ((0,0),0))∧Below w.heap.size w w':=by
  go_enter Tryz.func78,Tryz.ntmps78
  go_wp2_with fail
  have i0:=own_drew (own_alloc (own_new (w.alloc (pnc x y z 42)) c 24) (.cells #[.int .i64 0,.int .i64 0] 29))
  have i1:=pan_drew (pan_alloc (pan_alloc (pan_new w x y z 42) (ptc c 24)) (.cells #[.int .i64 0,.int .i64 0] 29))
  have i2:=pair_drew' (pair_new ((w.alloc (pnc x y z 42)).alloc (ptc c 24)) 0 0 29)
  simp only [World.size_alloc] at i0 i2
  go_region_held3 (fun w'=>w'.cell? ⟨w.heap.size,0,none⟩=some (.int .i64 x.1)∧w'.cell? ⟨w.heap.size,1,none⟩=some (.int .i64 x.2.1)∧w'.cell? ⟨w.heap.size,2,none⟩=some (.int .i64 x.2.2)∧w'.cell? ⟨w.heap.size,3,none⟩=some (.int .i64 y.1)∧w'.cell? ⟨w.heap.size,4,none⟩=some (.int .i64 y.2.1)∧w'.cell? ⟨w.heap.size,5,none⟩=some (.int .i64 y.2.2)∧w'.cell? ⟨w.heap.size,6,none⟩=some (.int .i64 z.1)∧w'.cell? ⟨w.heap.size,7,none⟩=some (.int .i64 z.2.1)∧w'.cell? ⟨w.heap.size,8,none⟩=some (.int .i64 z.2.2)∧w'.cell? ⟨w.heap.size + 1,0,none⟩=some (.int .i64 c.1)∧w'.cell? ⟨w.heap.size + 1,1,none⟩=some (.int .i64 c.2.1)∧w'.cell? ⟨w.heap.size + 1,2,none⟩=some (.int .i64 c.2.2))
    (first | (refine sr_keep i1 i0) | (refine sr_keep q1 q0) | (refine sr_keep r1 r0))
    (first | (go_at_call 63;(with_reducible refine (FF.out _).mono ?_);rintro e v0 ⟨rfl,hv0⟩;have q0:=own_below i0 hv0;have q1:=pan_below i1 hv0;have q2:=pair_below i2 hv0) | (go_at_call 62;(with_reducible refine (NN.out _).mono ?_);rintro e v1 ⟨rfl,hv1⟩;have r0:=own_below q0 hv1;have r1:=pan_below q1 hv1;have r2:=pair_below q2 hv1))
  have BB:=Lib.hid (show Below w.heap.size w v1 by (repeat' (first | exact Below.refl _ _ | refine bstep ?_ hv1 | refine bstep ?_ hv0 | refine Below.setCell ?_ (by simp <;> omega) _ | refine balloc ?_ _ | refine Below.drew ?_ | refine bdrewN ?_ _)))
  have R2:=Lib.hid r2
  clear i0 i1 i2 q0 q1 q2 r0 r1 r2 hv0 hv1 NN FF
  obtain ⟨g0,g1,g2,g3,gl⟩:=R2.out
  go_wp2
  refine bodyPost_ret (v:=spr ((0,0),0)) (by rw [results_cell_tmp rfl];go_simp) rfl ⟨rfl,?_⟩
  have hB:=BB.out
  (repeat' (first | exact Below.refl _ _ | refine bstep ?_ hB | refine Below.setCell ?_ (by simp <;> omega) _ | refine balloc ?_ _ | refine Below.drew ?_ | refine bdrewN ?_ _))
set_option maxRecDepth 100000 in
set_option maxHeartbeats 2000000 in
theorem shr_2 (c:P3) (i o k:Int) (x y z:P3) (n f:Int) (w:World) (NN:Hid (∀ W,Calls Tryz.prog 62 #[pnv x y z,ptv c] W fun e w'=>e=.returned (.int .i64 n)∧Below W.heap.size W w')) (FF:Hid (∀ W,Calls Tryz.prog 63 #[pnv x y z,ptv c] W fun e w'=>e=.returned (.int .i64 f)∧Below W.heap.size W w')) (h1:decide (f≤i)=false) (h2:o < n):Calls Tryz.prog 78 #[pnv x y z,ptv c,.int .i64 i,.int .i64 o,.int .i64 k] w fun e w'=>e=.returned (spr ((0,0),0))∧Below w.heap.size w w':=by
  go_enter Tryz.func78,Tryz.ntmps78
  go_wp2_with fail
  have i0:=own_drew (own_alloc (own_new (w.alloc (pnc x y z 42)) c 24) (.cells #[.int .i64 0,.int .i64 0] 29))
  have i1:=pan_drew (pan_alloc (pan_alloc (pan_new w x y z 42) (ptc c 24)) (.cells #[.int .i64 0,.int .i64 0] 29))
  have i2:=pair_drew' (pair_new ((w.alloc (pnc x y z 42)).alloc (ptc c 24)) 0 0 29)
  simp only [World.size_alloc] at i0 i2
  go_region_held3 (fun w'=>w'.cell? ⟨w.heap.size,0,none⟩=some (.int .i64 x.1)∧w'.cell? ⟨w.heap.size,1,none⟩=some (.int .i64 x.2.1)∧w'.cell? ⟨w.heap.size,2,none⟩=some (.int .i64 x.2.2)∧w'.cell? ⟨w.heap.size,3,none⟩=some (.int .i64 y.1)∧w'.cell? ⟨w.heap.size,4,none⟩=some (.int .i64 y.2.1)∧w'.cell? ⟨w.heap.size,5,none⟩=some (.int .i64 y.2.2)∧w'.cell? ⟨w.heap.size,6,none⟩=some (.int .i64 z.1)∧w'.cell? ⟨w.heap.size,7,none⟩=some (.int .i64 z.2.1)∧w'.cell? ⟨w.heap.size,8,none⟩=some (.int .i64 z.2.2)∧w'.cell? ⟨w.heap.size + 1,0,none⟩=some (.int .i64 c.1)∧w'.cell? ⟨w.heap.size + 1,1,none⟩=some (.int .i64 c.2.1)∧w'.cell? ⟨w.heap.size + 1,2,none⟩=some (.int .i64 c.2.2))
    (first | (refine sr_keep i1 i0) | (refine sr_keep q1 q0) | (refine sr_keep r1 r0))
    (first | (go_at_call 63;(with_reducible refine (FF.out _).mono ?_);rintro e v0 ⟨rfl,hv0⟩;have q0:=own_below i0 hv0;have q1:=pan_below i1 hv0;have q2:=pair_below i2 hv0) | (go_at_call 62;(with_reducible refine (NN.out _).mono ?_);rintro e v1 ⟨rfl,hv1⟩;have r0:=own_below q0 hv1;have r1:=pan_below q1 hv1;have r2:=pair_below q2 hv1))
  have BB:=Lib.hid (show Below w.heap.size w v1 by (repeat' (first | exact Below.refl _ _ | refine bstep ?_ hv1 | refine bstep ?_ hv0 | refine Below.setCell ?_ (by simp <;> omega) _ | refine balloc ?_ _ | refine Below.drew ?_ | refine bdrewN ?_ _)))
  have R2:=Lib.hid r2
  clear i0 i1 i2 q0 q1 q2 r0 r1 r2 hv0 hv1 NN FF
  obtain ⟨g0,g1,g2,g3,gl⟩:=R2.out
  go_wp2
  refine bodyPost_ret (v:=spr ((0,0),0)) (by rw [results_cell_tmp rfl];go_simp) rfl ⟨rfl,?_⟩
  have hB:=BB.out
  (repeat' (first | exact Below.refl _ _ | refine bstep ?_ hB | refine Below.setCell ?_ (by simp <;> omega) _ | refine balloc ?_ _ | refine Below.drew ?_ | refine bdrewN ?_ _))
set_option maxRecDepth 100000 in
set_option maxHeartbeats 2000000 in
theorem shr_3 (c:P3) (i o k:Int) (x y z:P3) (n f:Int) (w:World) (NN:Hid (∀ W,Calls Tryz.prog 62 #[pnv x y z,ptv c] W fun e w'=>e=.returned (.int .i64 n)∧Below W.heap.size W w')) (FF:Hid (∀ W,Calls Tryz.prog 63 #[pnv x y z,ptv c] W fun e w'=>e=.returned (.int .i64 f)∧Below W.heap.size W w')) (h1:decide (f≤i)=false) (h2:decide (o < n)=false) (h3:Sp.mx n i=0):Calls Tryz.prog 78 #[pnv x y z,ptv c,.int .i64 i,.int .i64 o,.int .i64 k] w fun e w'=>e=.returned (spr ((0,0),10))∧Below w.heap.size w w':=by
  go_enter Tryz.func78,Tryz.ntmps78
  go_wp2_with fail
  have i0:=own_drew (own_alloc (own_new (w.alloc (pnc x y z 42)) c 24) (.cells #[.int .i64 0,.int .i64 0] 29))
  have i1:=pan_drew (pan_alloc (pan_alloc (pan_new w x y z 42) (ptc c 24)) (.cells #[.int .i64 0,.int .i64 0] 29))
  have i2:=pair_drew' (pair_new ((w.alloc (pnc x y z 42)).alloc (ptc c 24)) 0 0 29)
  simp only [World.size_alloc] at i0 i2
  go_region_held3 (fun w'=>w'.cell? ⟨w.heap.size,0,none⟩=some (.int .i64 x.1)∧w'.cell? ⟨w.heap.size,1,none⟩=some (.int .i64 x.2.1)∧w'.cell? ⟨w.heap.size,2,none⟩=some (.int .i64 x.2.2)∧w'.cell? ⟨w.heap.size,3,none⟩=some (.int .i64 y.1)∧w'.cell? ⟨w.heap.size,4,none⟩=some (.int .i64 y.2.1)∧w'.cell? ⟨w.heap.size,5,none⟩=some (.int .i64 y.2.2)∧w'.cell? ⟨w.heap.size,6,none⟩=some (.int .i64 z.1)∧w'.cell? ⟨w.heap.size,7,none⟩=some (.int .i64 z.2.1)∧w'.cell? ⟨w.heap.size,8,none⟩=some (.int .i64 z.2.2)∧w'.cell? ⟨w.heap.size + 1,0,none⟩=some (.int .i64 c.1)∧w'.cell? ⟨w.heap.size + 1,1,none⟩=some (.int .i64 c.2.1)∧w'.cell? ⟨w.heap.size + 1,2,none⟩=some (.int .i64 c.2.2))
    (first | (refine sr_keep i1 i0) | (refine sr_keep q1 q0) | (refine sr_keep r1 r0))
    (first | (go_at_call 63;(with_reducible refine (FF.out _).mono ?_);rintro e v0 ⟨rfl,hv0⟩;have q0:=own_below i0 hv0;have q1:=pan_below i1 hv0;have q2:=pair_below i2 hv0) | (go_at_call 62;(with_reducible refine (NN.out _).mono ?_);rintro e v1 ⟨rfl,hv1⟩;have r0:=own_below q0 hv1;have r1:=pan_below q1 hv1;have r2:=pair_below q2 hv1))
  have BB:=Lib.hid (show Below w.heap.size w v1 by (repeat' (first | exact Below.refl _ _ | refine bstep ?_ hv1 | refine bstep ?_ hv0 | refine Below.setCell ?_ (by simp <;> omega) _ | refine balloc ?_ _ | refine Below.drew ?_ | refine bdrewN ?_ _)))
  have R2:=Lib.hid r2
  clear i0 i1 i2 q0 q1 q2 r0 r1 r2 hv0 hv1 NN FF
  obtain ⟨g0,g1,g2,g3,gl⟩:=R2.out
  go_wp2
  refine bodyPost_ret (v:=spr ((0,0),10)) (by rw [results_cell_tmp rfl];go_simp) rfl ⟨rfl,?_⟩
  have hB:=BB.out
  (repeat' (first | exact Below.refl _ _ | refine bstep ?_ hB | refine Below.setCell ?_ (by simp <;> omega) _ | refine balloc ?_ _ | refine Below.drew ?_ | refine bdrewN ?_ _))
set_option maxRecDepth 100000 in
set_option maxHeartbeats 2000000 in
theorem shr_4 (c:P3) (i o k:Int) (x y z:P3) (n f:Int) (w:World) (NN:Hid (∀ W,Calls Tryz.prog 62 #[pnv x y z,ptv c] W fun e w'=>e=.returned (.int .i64 n)∧Below W.heap.size W w')) (FF:Hid (∀ W,Calls Tryz.prog 63 #[pnv x y z,ptv c] W fun e w'=>e=.returned (.int .i64 f)∧Below W.heap.size W w')) (m l1 u1:Int) (h1:decide (f≤i)=false) (h2:decide (o < n)=false) (h3:(m == 0)=false) (hm:Sp.mx n i=m) (V1:Hid (∀ W,Calls Tryz.prog 93 #[.int .i64 m,.int .i64 k] W fun e w'=>e=.returned (spr ((l1,u1),0))∧Below W.heap.size W w')) (h4:n≤i):Calls Tryz.prog 78 #[pnv x y z,ptv c,.int .i64 i,.int .i64 o,.int .i64 k] w fun e w'=>e=.returned (spr ((0,u1),0))∧Below w.heap.size w w':=by
  go_enter Tryz.func78,Tryz.ntmps78
  go_wp2_with fail
  have i0:=own_drew (own_alloc (own_new (w.alloc (pnc x y z 42)) c 24) (.cells #[.int .i64 0,.int .i64 0] 29))
  have i1:=pan_drew (pan_alloc (pan_alloc (pan_new w x y z 42) (ptc c 24)) (.cells #[.int .i64 0,.int .i64 0] 29))
  have i2:=pair_drew' (pair_new ((w.alloc (pnc x y z 42)).alloc (ptc c 24)) 0 0 29)
  simp only [World.size_alloc] at i0 i2
  go_region_held3 (fun w'=>w'.cell? ⟨w.heap.size,0,none⟩=some (.int .i64 x.1)∧w'.cell? ⟨w.heap.size,1,none⟩=some (.int .i64 x.2.1)∧w'.cell? ⟨w.heap.size,2,none⟩=some (.int .i64 x.2.2)∧w'.cell? ⟨w.heap.size,3,none⟩=some (.int .i64 y.1)∧w'.cell? ⟨w.heap.size,4,none⟩=some (.int .i64 y.2.1)∧w'.cell? ⟨w.heap.size,5,none⟩=some (.int .i64 y.2.2)∧w'.cell? ⟨w.heap.size,6,none⟩=some (.int .i64 z.1)∧w'.cell? ⟨w.heap.size,7,none⟩=some (.int .i64 z.2.1)∧w'.cell? ⟨w.heap.size,8,none⟩=some (.int .i64 z.2.2)∧w'.cell? ⟨w.heap.size + 1,0,none⟩=some (.int .i64 c.1)∧w'.cell? ⟨w.heap.size + 1,1,none⟩=some (.int .i64 c.2.1)∧w'.cell? ⟨w.heap.size + 1,2,none⟩=some (.int .i64 c.2.2))
    (first | (refine sr_keep i1 i0) | (refine sr_keep q1 q0) | (refine sr_keep r1 r0))
    (first | (go_at_call 63;(with_reducible refine (FF.out _).mono ?_);rintro e v0 ⟨rfl,hv0⟩;have q0:=own_below i0 hv0;have q1:=pan_below i1 hv0;have q2:=pair_below i2 hv0) | (go_at_call 62;(with_reducible refine (NN.out _).mono ?_);rintro e v1 ⟨rfl,hv1⟩;have r0:=own_below q0 hv1;have r1:=pan_below q1 hv1;have r2:=pair_below q2 hv1))
  have BB:=Lib.hid (show Below w.heap.size w v1 by (repeat' (first | exact Below.refl _ _ | refine bstep ?_ hv1 | refine bstep ?_ hv0 | refine Below.setCell ?_ (by simp <;> omega) _ | refine balloc ?_ _ | refine Below.drew ?_ | refine bdrewN ?_ _)))
  have R2:=Lib.hid r2
  clear i0 i1 i2 q0 q1 q2 r0 r1 r2 hv0 hv1 NN FF
  obtain ⟨g0,g1,g2,g3,gl⟩:=R2.out
  go_wp2_with fail
  refine (V1.out _).mono ?_
  rintro e w2 ⟨rfl,hb2⟩
  have R4:=Lib.hid (pair_below R2.out hb2)
  clear g0 g1 g2 g3 gl
  obtain ⟨g0,g1,g2,g3,gl⟩:=R4.out
  go_wp2
  refine bodyPost_ret (v:=spr ((0,u1),0)) (by rw [results_cell_tmp rfl];go_simp) rfl ⟨rfl,?_⟩
  have hB:=BB.out
  (repeat' (first | exact Below.refl _ _ | refine bstep ?_ hb2 | refine bstep ?_ hB | refine Below.setCell ?_ (by simp <;> omega) _ | refine balloc ?_ _ | refine Below.drew ?_ | refine bdrewN ?_ _))
set_option maxRecDepth 100000 in
set_option maxHeartbeats 2000000 in
theorem shr_5 (c:P3) (i o k:Int) (x y z:P3) (n f:Int) (w:World) (NN:Hid (∀ W,Calls Tryz.prog 62 #[pnv x y z,ptv c] W fun e w'=>e=.returned (.int .i64 n)∧Below W.heap.size W w')) (FF:Hid (∀ W,Calls Tryz.prog 63 #[pnv x y z,ptv c] W fun e w'=>e=.returned (.int .i64 f)∧Below W.heap.size W w')) (m l1 u1:Int) (h1:decide (f≤i)=false) (h2:decide (o < n)=false) (h3:(m == 0)=false) (hm:Sp.mx n i=m) (V1:Hid (∀ W,Calls Tryz.prog 93 #[.int .i64 m,.int .i64 k] W fun e w'=>e=.returned (spr ((l1,u1),0))∧Below W.heap.size W w')) (h4:decide (n≤i)=false) (h5:o < f):Calls Tryz.prog 78 #[pnv x y z,ptv c,.int .i64 i,.int .i64 o,.int .i64 k] w fun e w'=>e=.returned (spr ((0,u1),0))∧Below w.heap.size w w':=by
  go_enter Tryz.func78,Tryz.ntmps78
  go_wp2_with fail
  have i0:=own_drew (own_alloc (own_new (w.alloc (pnc x y z 42)) c 24) (.cells #[.int .i64 0,.int .i64 0] 29))
  have i1:=pan_drew (pan_alloc (pan_alloc (pan_new w x y z 42) (ptc c 24)) (.cells #[.int .i64 0,.int .i64 0] 29))
  have i2:=pair_drew' (pair_new ((w.alloc (pnc x y z 42)).alloc (ptc c 24)) 0 0 29)
  simp only [World.size_alloc] at i0 i2
  go_region_held3 (fun w'=>w'.cell? ⟨w.heap.size,0,none⟩=some (.int .i64 x.1)∧w'.cell? ⟨w.heap.size,1,none⟩=some (.int .i64 x.2.1)∧w'.cell? ⟨w.heap.size,2,none⟩=some (.int .i64 x.2.2)∧w'.cell? ⟨w.heap.size,3,none⟩=some (.int .i64 y.1)∧w'.cell? ⟨w.heap.size,4,none⟩=some (.int .i64 y.2.1)∧w'.cell? ⟨w.heap.size,5,none⟩=some (.int .i64 y.2.2)∧w'.cell? ⟨w.heap.size,6,none⟩=some (.int .i64 z.1)∧w'.cell? ⟨w.heap.size,7,none⟩=some (.int .i64 z.2.1)∧w'.cell? ⟨w.heap.size,8,none⟩=some (.int .i64 z.2.2)∧w'.cell? ⟨w.heap.size + 1,0,none⟩=some (.int .i64 c.1)∧w'.cell? ⟨w.heap.size + 1,1,none⟩=some (.int .i64 c.2.1)∧w'.cell? ⟨w.heap.size + 1,2,none⟩=some (.int .i64 c.2.2))
    (first | (refine sr_keep i1 i0) | (refine sr_keep q1 q0) | (refine sr_keep r1 r0))
    (first | (go_at_call 63;(with_reducible refine (FF.out _).mono ?_);rintro e v0 ⟨rfl,hv0⟩;have q0:=own_below i0 hv0;have q1:=pan_below i1 hv0;have q2:=pair_below i2 hv0) | (go_at_call 62;(with_reducible refine (NN.out _).mono ?_);rintro e v1 ⟨rfl,hv1⟩;have r0:=own_below q0 hv1;have r1:=pan_below q1 hv1;have r2:=pair_below q2 hv1))
  have BB:=Lib.hid (show Below w.heap.size w v1 by (repeat' (first | exact Below.refl _ _ | refine bstep ?_ hv1 | refine bstep ?_ hv0 | refine Below.setCell ?_ (by simp <;> omega) _ | refine balloc ?_ _ | refine Below.drew ?_ | refine bdrewN ?_ _)))
  have R2:=Lib.hid r2
  clear i0 i1 i2 q0 q1 q2 r0 r1 r2 hv0 hv1 NN FF
  obtain ⟨g0,g1,g2,g3,gl⟩:=R2.out
  go_wp2_with fail
  refine (V1.out _).mono ?_
  rintro e w2 ⟨rfl,hb2⟩
  have R4:=Lib.hid (pair_below R2.out hb2)
  clear g0 g1 g2 g3 gl
  obtain ⟨g0,g1,g2,g3,gl⟩:=R4.out
  go_wp2
  refine bodyPost_ret (v:=spr ((0,u1),0)) (by rw [results_cell_tmp rfl];go_simp) rfl ⟨rfl,?_⟩
  have hB:=BB.out
  (repeat' (first | exact Below.refl _ _ | refine bstep ?_ hb2 | refine bstep ?_ hB | refine Below.setCell ?_ (by simp <;> omega) _ | refine balloc ?_ _ | refine Below.drew ?_ | refine bdrewN ?_ _))
set_option maxRecDepth 100000 in
set_option maxHeartbeats 2000000 in
theorem shr_6 (c:P3) (i o k:Int) (x y z:P3) (n f:Int) (w:World) (NN:Hid (∀ W,Calls Tryz.prog 62 #[pnv x y z,ptv c] W fun e w'=>e=.returned (.int .i64 n)∧Below W.heap.size W w')) (FF:Hid (∀ W,Calls Tryz.prog 63 #[pnv x y z,ptv c] W fun e w'=>e=.returned (.int .i64 f)∧Below W.heap.size W w')) (m l1 u1 l2 u2:Int) (h1:decide (f≤i)=false) (h2:decide (o < n)=false) (h3:(m == 0)=false) (hm:Sp.mx n i=m) (V1:Hid (∀ W,Calls Tryz.prog 93 #[.int .i64 m,.int .i64 k] W fun e w'=>e=.returned (spr ((l1,u1),0))∧Below W.heap.size W w')) (V2:Hid (∀ W,Calls Tryz.prog 93 #[.int .i64 f,.int .i64 k] W fun e w'=>e=.returned (spr ((l2,u2),0))∧Below W.heap.size W w')) (h4:decide (n≤i)=false) (h5:decide (o < f)=false):Calls Tryz.prog 78 #[pnv x y z,ptv c,.int .i64 i,.int .i64 o,.int .i64 k] w fun e w'=>e=.returned (spr ((l2,u1),0))∧Below w.heap.size w w':=by
  go_enter Tryz.func78,Tryz.ntmps78
  go_wp2_with fail
  have i0:=own_drew (own_alloc (own_new (w.alloc (pnc x y z 42)) c 24) (.cells #[.int .i64 0,.int .i64 0] 29))
  have i1:=pan_drew (pan_alloc (pan_alloc (pan_new w x y z 42) (ptc c 24)) (.cells #[.int .i64 0,.int .i64 0] 29))
  have i2:=pair_drew' (pair_new ((w.alloc (pnc x y z 42)).alloc (ptc c 24)) 0 0 29)
  simp only [World.size_alloc] at i0 i2
  go_region_held3 (fun w'=>w'.cell? ⟨w.heap.size,0,none⟩=some (.int .i64 x.1)∧w'.cell? ⟨w.heap.size,1,none⟩=some (.int .i64 x.2.1)∧w'.cell? ⟨w.heap.size,2,none⟩=some (.int .i64 x.2.2)∧w'.cell? ⟨w.heap.size,3,none⟩=some (.int .i64 y.1)∧w'.cell? ⟨w.heap.size,4,none⟩=some (.int .i64 y.2.1)∧w'.cell? ⟨w.heap.size,5,none⟩=some (.int .i64 y.2.2)∧w'.cell? ⟨w.heap.size,6,none⟩=some (.int .i64 z.1)∧w'.cell? ⟨w.heap.size,7,none⟩=some (.int .i64 z.2.1)∧w'.cell? ⟨w.heap.size,8,none⟩=some (.int .i64 z.2.2)∧w'.cell? ⟨w.heap.size + 1,0,none⟩=some (.int .i64 c.1)∧w'.cell? ⟨w.heap.size + 1,1,none⟩=some (.int .i64 c.2.1)∧w'.cell? ⟨w.heap.size + 1,2,none⟩=some (.int .i64 c.2.2))
    (first | (refine sr_keep i1 i0) | (refine sr_keep q1 q0) | (refine sr_keep r1 r0))
    (first | (go_at_call 63;(with_reducible refine (FF.out _).mono ?_);rintro e v0 ⟨rfl,hv0⟩;have q0:=own_below i0 hv0;have q1:=pan_below i1 hv0;have q2:=pair_below i2 hv0) | (go_at_call 62;(with_reducible refine (NN.out _).mono ?_);rintro e v1 ⟨rfl,hv1⟩;have r0:=own_below q0 hv1;have r1:=pan_below q1 hv1;have r2:=pair_below q2 hv1))
  have BB:=Lib.hid (show Below w.heap.size w v1 by (repeat' (first | exact Below.refl _ _ | refine bstep ?_ hv1 | refine bstep ?_ hv0 | refine Below.setCell ?_ (by simp <;> omega) _ | refine balloc ?_ _ | refine Below.drew ?_ | refine bdrewN ?_ _)))
  have R2:=Lib.hid r2
  clear i0 i1 i2 q0 q1 q2 r0 r1 r2 hv0 hv1 NN FF
  obtain ⟨g0,g1,g2,g3,gl⟩:=R2.out
  go_wp2_with fail
  refine (V1.out _).mono ?_
  rintro e w2 ⟨rfl,hb2⟩
  have R4:=Lib.hid (pair_below R2.out hb2)
  clear g0 g1 g2 g3 gl
  obtain ⟨g0,g1,g2,g3,gl⟩:=R4.out
  go_wp2_with fail
  refine (V2.out _).mono ?_
  rintro e w3 ⟨rfl,hb3⟩
  have R5:=Lib.hid (pair_below (pair_alloc R4.out (.cells #[.int .i64 l1,.int .i64 u1] 29)) hb3)
  have R6:=Lib.hid (pair_below (pair_new w2 l1 u1 29) hb3)
  clear g0 g1 g2 g3 gl
  obtain ⟨g0,g1,g2,g3,gl⟩:=R5.out
  obtain ⟨e0,e1,e2,e3,el⟩:=R6.out
  go_wp2
  refine bodyPost_ret (v:=spr ((l2,u1),0)) (by rw [results_cell_tmp rfl];go_simp) rfl ⟨rfl,?_⟩
  have hB:=BB.out
  (repeat' (first | exact Below.refl _ _ | refine bstep ?_ hb3 | refine bstep ?_ hb2 | refine bstep ?_ hB | refine Below.setCell ?_ (by simp <;> omega) _ | refine balloc ?_ _ | refine Below.drew ?_ | refine bdrewN ?_ _))
theorem invR_eta {m k:Int} (h:(invR m k).2=0):invR m k=(((invR m k).1.1,(invR m k).1.2),0):=by
  generalize invR m k=r at *
  obtain ⟨⟨a,b⟩,e⟩:=r
  have h:e=0:=h
  subst h
  rfl
theorem share_any (c:P3) (i o k:Int) (t:P9) (w:World) (h:BdT 500000000 t) (g:BdP 500000000 c) (i0:0≤i) (i1:i≤1099511627776) (k1:1≤k) (k2:k≤8) (nm:nearN t c≤1099511627776) (fm:farN t c≤1099511627776):Calls Tryz.prog 78 #[p9w t,ptv c,.int .i64 i,.int .i64 o,.int .i64 k] w fun e w'=>e=.returned (spr (giR c i o k t))∧Below w.heap.size w w':=by
  obtain ⟨x,y,z⟩:=t
  have NN:=Lib.hid (fun W=>rnear8_any (x,y,z) c W h g)
  have FF:=Lib.hid (fun W=>rfar8_any (x,y,z) c W h g)
  unfold giR
  by_cases h1:farN (x,y,z) c≤i
  · rw [if_pos (Or.inl h1)]
    exact shr_1 c i o k x y z _ _ w NN FF h1
  by_cases h2:o < nearN (x,y,z) c
  · rw [if_pos (Or.inr h2)]
    exact shr_2 c i o k x y z _ _ w NN FF (decide_eq_false h1) h2
  rw [if_neg (fun e=>e.elim h1 h2)]
  by_cases h3:Sp.mx (nearN (x,y,z) c) i=0
  · rw [if_pos h3]
    exact shr_3 c i o k x y z _ _ w NN FF (decide_eq_false h1) (decide_eq_false h2) h3
  rw [if_neg h3]
  have m1:1≤Sp.mx (nearN (x,y,z) c) i∧Sp.mx (nearN (x,y,z) c) i≤1099511627776:=by
    unfold Sp.mx at h3 ⊢
    split at h3 <;> rename_i q <;> simp only [q,if_true,if_false] <;> omega
  have V1:=Lib.hid (fun W=>rinv_any (Sp.mx (nearN (x,y,z) c) i) k W)
  rw [invR_eta (invR_ok m1.1 m1.2 k1 k2)] at V1
  have h3':(Sp.mx (nearN (x,y,z) c) i == 0)=false:=beq_eq_false_iff_ne.2 h3
  by_cases h4:nearN (x,y,z) c≤i
  · rw [if_pos (Or.inl h4)]
    exact shr_4 c i o k x y z _ _ w NN FF _ _ _ (decide_eq_false h1) (decide_eq_false h2) h3' rfl V1 h4
  by_cases h5:o < farN (x,y,z) c
  · rw [if_pos (Or.inr h5)]
    exact shr_5 c i o k x y z _ _ w NN FF _ _ _ (decide_eq_false h1) (decide_eq_false h2) h3' rfl V1 (decide_eq_false h4) h5
  rw [if_neg (fun e=>e.elim h4 h5)]
  have V2:=Lib.hid (fun W=>rinv_any (farN (x,y,z) c) k W)
  rw [invR_eta (invR_ok (by omega) fm k1 k2)] at V2
  exact shr_6 c i o k x y z _ _ w NN FF _ _ _ _ _ (decide_eq_false h1) (decide_eq_false h2) h3' rfl V1 V2 (decide_eq_false h4) (decide_eq_false h5)
end Go.Proofs.YtciimaojoococaaGreat
namespace Go.Proofs.YtciimaojoococaaGreat
open Go.ChangeShapes Go.WideShapes Go.RowKit
open Sh
theorem isq_mono8 {a b:Nat} (h:a≤b):Rt.isq a≤Rt.isq b:=by
  refine Classical.byContradiction fun c=>?_
  have h1:=(Rt.isq_spec a).1
  have h2:=(Rt.isq_spec b).2
  have:=Nat.mul_le_mul (show Rt.isq b + 1≤Rt.isq a by omega) (show Rt.isq b + 1≤Rt.isq a by omega)
  omega
theorem qUp_or (t n:Nat):qUp t n 1=Rt.isq (QT t n 1)∨qUp t n 1=Rt.isq (QT t n 1) + 1:=by
  unfold qUp Rt.csq
  split
  · split
    · exact Or.inl rfl
    · exact Or.inr rfl
  · exact Or.inr rfl
theorem invR_val {m k:Int} (m1:1≤m) (m2:m≤1099511627776) (k1:1≤k) (k2:k≤8) :
    ∃ r u:Nat,invR m k=(((r:Int),(u:Int)),0)∧r=Rt.isq (k.toNat * 1048576 * (k.toNat * 1048576) / m.toNat)∧r≤u∧u≤8388609:=by
  have hk:k.toNat≤8:=by omega
  have h1:k.toNat * 1048576 * (k.toNat * 1048576)≤8 * 1048576 * (8 * 1048576):=Nat.mul_le_mul (Nat.mul_le_mul_right _ hk) (Nat.mul_le_mul_right _ hk)
  have h2:=QT_le (k.toNat * 1048576 * (k.toNat * 1048576)) m.toNat 1
  have hq:=qUp_or (k.toNat * 1048576 * (k.toNat * 1048576)) m.toNat
  have h3:Rt.isq (QT (k.toNat * 1048576 * (k.toNat * 1048576)) m.toNat 1)≤8388608:=by
    have hs:=(Rt.isq_spec (QT (k.toNat * 1048576 * (k.toNat * 1048576)) m.toNat 1)).1
    refine Classical.byContradiction fun c=>?_
    have:=Nat.mul_le_mul (show 8388609≤Rt.isq (QT (k.toNat * 1048576 * (k.toNat * 1048576)) m.toNat 1) by omega) (show 8388609≤Rt.isq (QT (k.toNat * 1048576 * (k.toNat * 1048576)) m.toNat 1) by omega)
    omega
  refine ⟨_,qUp (k.toNat * 1048576 * (k.toNat * 1048576)) m.toNat 1,?_,rfl,?_,?_⟩
  · unfold invR
    rw [if_pos ⟨m1,m2,k1,k2⟩]
    unfold belowR
    rw [Sp.told_yes (Sp.vld_iff.2 ⟨by omega,by omega,by omega⟩)]
    rfl
  · show Rt.isq (QT (k.toNat * 1048576 * (k.toNat * 1048576)) m.toNat 1)≤_
    omega
  · omega
theorem invR_mono {m f k:Int} (m1:1≤m) (mf:m≤f) (f2:f≤1099511627776) (k1:1≤k) (k2:k≤8):(invR f k).1.1≤(invR m k).1.2:=by
  obtain ⟨r,u,e,er,_,_⟩:=invR_val (by omega:1≤f) f2 k1 k2
  obtain ⟨r',u',e',er',h',_⟩:=invR_val m1 (by omega) k1 k2
  rw [e,e']
  have:r≤r':=by
    rw [er,er']
    exact isq_mono8 (Nat.div_le_div_left (by omega) (by omega))
  show (r:Int)≤(u':Int)
  omega
theorem sq_le8 {a b:Int} (h:(0≤a∧a≤b)∨(b≤a∧a≤0)):a * a≤b * b:=by
  rcases h with ⟨h1,h2⟩ | ⟨h1,h2⟩
  · exact Int.mul_le_mul h2 h2 h1 (by omega)
  · have:=Int.mul_le_mul (show -a≤-b by omega) (show -a≤-b by omega) (by omega) (by omega)
    rwa [Int.neg_mul_neg,Int.neg_mul_neg] at this
theorem nst_le (n a b c:Int):(n - nst n a b c) * (n - nst n a b c)≤(a - n) * (a - n):=by
  have e:(a - n) * (a - n)=(n - a) * (n - a):=by rw [← Int.neg_mul_neg,Int.neg_sub]
  rw [e]
  refine sq_le8 ?_
  unfold nst lo3' hi3'
  simp only [Sp.mn_eq,Sp.mx_eq]
  omega
theorem near_far (t:P9) (c:P3):nearN t c≤farN t c:=by
  have h1:=nst_le c.1 t.1.1 t.2.1.1 t.2.2.1
  have h2:=nst_le c.2.1 t.1.2.1 t.2.1.2.1 t.2.2.2.1
  have h3:=nst_le c.2.2 t.1.2.2 t.2.1.2.2 t.2.2.2.2
  have h4:nearN t c≤sq (sub t.1 c):=by
    show (c.1 - nst c.1 t.1.1 t.2.1.1 t.2.2.1) * (c.1 - nst c.1 t.1.1 t.2.1.1 t.2.2.1) + (c.2.1 - nst c.2.1 t.1.2.1 t.2.1.2.1 t.2.2.2.1) * (c.2.1 - nst c.2.1 t.1.2.1 t.2.1.2.1 t.2.2.2.1) + (c.2.2 - nst c.2.2 t.1.2.2 t.2.1.2.2 t.2.2.2.2) * (c.2.2 - nst c.2.2 t.1.2.2 t.2.1.2.2 t.2.2.2.2)≤(t.1.1 - c.1) * (t.1.1 - c.1) + (t.1.2.1 - c.2.1) * (t.1.2.1 - c.2.1) + (t.1.2.2 - c.2.2) * (t.1.2.2 - c.2.2)
    omega
  refine Int.le_trans h4 ?_
  unfold farN hi3'
  exact Int.le_trans (Sp.mx_ge1 _ _) (Sp.mx_ge1 _ _)
def gOk (r:Sp.R):Prop:=r.2=10∨(r.2=0∧0≤r.1.1∧r.1.1≤r.1.2∧r.1.2≤8388609)
theorem giR_ok (c:P3) (i o k:Int) (t:P9) (i0:0≤i) (i1:i≤1099511627776) (k1:1≤k) (k2:k≤8) (fm:farN t c≤1099511627776):gOk (giR c i o k t):=by
  have nf:=near_far t c
  unfold giR
  by_cases h1:farN t c≤i∨o < nearN t c
  · rw [if_pos h1]
    exact Or.inr ⟨rfl,by decide,by decide,by decide⟩
  rw [if_neg h1]
  by_cases h3:Sp.mx (nearN t c) i=0
  · rw [if_pos h3]
    exact Or.inl rfl
  rw [if_neg h3]
  have hm:1≤Sp.mx (nearN t c) i∧Sp.mx (nearN t c) i≤farN t c:=by
    rw [Sp.mx_eq] at h3 ⊢
    omega
  obtain ⟨r,u,e,_,h5,h6⟩:=invR_val hm.1 (by omega) k1 k2
  by_cases h4:nearN t c≤i∨o < farN t c
  · rw [if_pos h4,e]
    exact Or.inr ⟨rfl,Int.le_refl 0,by show (0:Int)≤(u:Int);omega,by show (u:Int)≤_;omega⟩
  · rw [if_neg h4]
    have mo:=invR_mono hm.1 hm.2 fm k1 k2
    obtain ⟨r',u',e',_,_,_⟩:=invR_val (by omega:1≤farN t c) fm k1 k2
    rw [e,e'] at mo ⊢
    exact Or.inr ⟨rfl,by show (0:Int)≤(r':Int);omega,mo,by show (u:Int)≤_;omega⟩
theorem gie_or {g:P9→Sp.R} {L:Nat→P9}:∀ {n:Nat},(∀ k,k < n→gOk (g (L k)))→gie g L n=0∨gie g L n=10
  | 0,_=>Or.inl rfl
  | n + 1,h=>by
    show (if gie g L n=0 then (g (L n)).2 else gie g L n)=0∨(if gie g L n=0 then (g (L n)).2 else gie g L n)=10
    rcases gie_or (n:=n) (fun k hk=>h k (by omega)) with e | e
    · rw [if_pos e]
      rcases h n (by omega) with z | z
      · exact Or.inr z
      · exact Or.inl z.1
    · rw [if_neg (by rw [e];decide)]
      exact Or.inr e
theorem gie_all {g:P9→Sp.R} {L:Nat→P9}:∀ {n:Nat},gie g L n=0→∀ k,k < n→(g (L k)).2=0
  | 0,_,k,h=>absurd h (Nat.not_lt_zero k)
  | n + 1,h,k,hk=>by
    have h:(if gie g L n=0 then (g (L n)).2 else gie g L n)=0:=h
    by_cases z:gie g L n=0
    · rw [if_pos z] at h
      by_cases e:k=n
      · subst e;exact h
      · exact gie_all z k (by omega)
    · rw [if_neg z] at h
      exact absurd h z
theorem gis_at {g:P9→Sp.R} {L:Nat→P9}:∀ {n k:Nat},k < n→(gis g L n).getD k (0,0)=(g (L k)).1
  | 0,k,h=>absurd h (Nat.not_lt_zero k)
  | n + 1,k,h=>by
    show (gis g L n ++ [(g (L n)).1]).getD k (0,0)=_
    rw [List.getD_eq_getElem?_getD]
    by_cases e:k=n
    · subst e
      rw [List.getElem?_append_right (by rw [gis_len];omega),gis_len,Nat.sub_self]
      rfl
    · rw [List.getElem?_append_left (by rw [gis_len];omega),← List.getD_eq_getElem?_getD]
      exact gis_at (by omega)
theorem sm_pos8 {l h:Nat→Int} {B:Int}:∀ {n:Nat},(∀ k,k < n→0≤l k∧l k≤h k∧h k≤B)→0≤sm l n∧sm l n≤sm h n∧sm h n≤(n:Int) * B
  | 0,_=>⟨by show (0:Int)≤0;omega,by show (0:Int)≤0;omega,by show (0:Int)≤((0:Nat):Int) * B;simp⟩
  | n + 1,q=>by
    obtain ⟨a,b,c⟩:=sm_pos8 (n:=n) (fun k hk=>q k (by omega))
    obtain ⟨d,e,f⟩:=q n (by omega)
    show 0≤sm l n + l n∧sm l n + l n≤sm h n + h n∧sm h n + h n≤((n + 1:Nat):Int) * B
    have:((n + 1:Nat):Int) * B=(n:Int) * B + B:=by rw [Int.natCast_add,Int.add_mul];simp
    omega
theorem mn8_ok {l h:Nat→Int} {n:Nat} (hn:0 < n) (q:∀ k,k < n→0≤l k∧l k≤h k∧h k≤8388609):(mnR8 l h n).2=0∧0≤(mnR8 l h n).1.1∧(mnR8 l h n).1.1≤(mnR8 l h n).1.2∧(mnR8 l h n).1.2≤8388609:=by
  obtain ⟨a,b,c⟩:=sm_pos8 q
  have hd:(0:Int) < (n:Int):=by omega
  have h1:0≤Sp.fl (sm l n) n:=by rw [Sp.fl_pos hd];exact Int.ediv_nonneg a (by omega)
  have h2:Sp.ce (sm h n) n≤8388609:=by
    have z:Sp.ce (sm h n) n≤Sp.ce ((n:Int) * 8388609) n:=Sp.ce_mono hd c
    have y:Sp.ce ((n:Int) * 8388609) n=8388609:=by
      unfold Sp.ce
      rw [Sp.fl_pos hd,← Int.mul_neg,Int.mul_ediv_cancel_left _ (by omega)]
      rfl
    omega
  have h3:Sp.fl (sm l n) n≤Sp.ce (sm h n) n:=by
    refine Int.le_trans (Sp.fl_mono hd b) ?_
    have i1:=Int.ediv_mul_le (sm h n) (show (n:Int) ≠ 0 by omega)
    have i2:=Int.ediv_mul_le (-(sm h n)) (show (n:Int) ≠ 0 by omega)
    unfold Sp.ce
    rw [Sp.fl_pos hd,Sp.fl_pos hd]
    refine Classical.byContradiction fun x=>?_
    have y:(1:Int) * n≤(sm h n / n + -(sm h n) / n) * n:=Int.mul_le_mul_of_nonneg_right (by omega) (by omega)
    rw [Int.add_mul] at y
    omega
  unfold mnR8
  rw [if_pos (all_yes fun k hk=>by obtain ⟨x,y,z⟩:=q k hk;exact Sp.vld_iff.2 ⟨by omega,y,by omega⟩)]
  unfold meanR
  rw [if_pos rfl,if_neg (by omega),Sp.told_yes (Sp.vld_iff.2 ⟨by omega,h3,by omega⟩)]
  exact ⟨rfl,h1,h3,h2⟩
theorem scale8_ok {a b p:Int} (h0:0≤a) (h1:a≤b) (h2:b≤8388609) (p1:-100≤p) (p2:p≤100):(scaleR a b p).2=0∧(scaleR a b p).1.1≤(scaleR a b p).1.2∧-838860900≤(scaleR a b p).1.1∧(scaleR a b p).1.2≤838860900∧(scaleR a b p).1=(Sp.mn (a * p) (b * p),Sp.mx (a * p) (b * p)):=by
  have q1:=mul_bd (x:=a) (y:=p) (A:=8388609) (B:=100) (by omega) (by omega) (by omega) (by omega)
  have q2:=mul_bd (x:=b) (y:=p) (A:=8388609) (B:=100) (by omega) (by omega) (by omega) (by omega)
  have e:scaleR a b p=((Sp.mn (a * p) (b * p),Sp.mx (a * p) (b * p)),0):=by
    unfold scaleR
    rw [if_pos ⟨Sp.vld_iff.2 ⟨by omega,h1,by omega⟩,by omega,by omega⟩]
    refine Sp.told_yes (Sp.vld_iff.2 ?_)
    rw [Sp.mn_eq,Sp.mx_eq]
    omega
  rw [e]
  refine ⟨rfl,?_,?_,?_,rfl⟩ <;> (try dsimp only) <;> simp only [Sp.mn_eq,Sp.mx_eq] <;> omega
theorem shG_ok {x:P3} {s d q:Int} {t:P9} (hx:BdP 256 x) (s1:1≤s) (s2:s≤16) (d1:0≤d) (d2:d≤3) (q1:1≤q) (q2:q≤2000) (ht:BdT 512 t):gOk (shG x s d q t):=by
  have scl8:1≤scl d∧scl d≤8:=by
    unfold scl
    have:d.toNat=0∨d.toNat=1∨d.toNat=2∨d.toNat=3:=by omega
    rcases this with e | e | e | e <;> rw [e] <;> decide
  have bb:=sh_bd scl8.1 scl8.2 s1 s2 q1 q2
  have hc:BdP 2048 (tim (scl d) x):=(tim_bd (K:=8) (by omega) (by omega) hx).mono (by decide)
  refine giR_ok _ _ _ _ _ bb.2.2.2.1.1 (by have:=bb.2.2.2.1.2;unfold inn;omega) scl8.1 scl8.2 ?_
  have key:∀ u:P3,BdP 512 u→sq (sub u (tim (scl d) x))≤19660800:=fun u hu=>by
    have z:=(sub_bd hu hc)
    obtain ⟨a1,a2,a3,a4,a5,a6⟩:=z.mono (B:=2560) (by decide)
    have e1:=mul_bd (x:=(sub u (tim (scl d) x)).1) (y:=(sub u (tim (scl d) x)).1) (A:=2560) (B:=2560) a1 a2 a1 a2
    have e2:=mul_bd (x:=(sub u (tim (scl d) x)).2.1) (y:=(sub u (tim (scl d) x)).2.1) (A:=2560) (B:=2560) a3 a4 a3 a4
    have e3:=mul_bd (x:=(sub u (tim (scl d) x)).2.2) (y:=(sub u (tim (scl d) x)).2.2) (A:=2560) (B:=2560) a5 a6 a5 a6
    show (sub u (tim (scl d) x)).1 * (sub u (tim (scl d) x)).1 + (sub u (tim (scl d) x)).2.1 * (sub u (tim (scl d) x)).2.1 + (sub u (tim (scl d) x)).2.2 * (sub u (tim (scl d) x)).2.2≤_
    omega
  have k1:=key _ ht.1
  have k2:=key _ ht.2.1
  have k3:=key _ ht.2.2
  unfold farN hi3'
  simp only [Sp.mx_eq]
  omega
def hOk (r:Sp.R):Prop:=(r.2=10∧r.1=(0,0))∨(r.2=0∧r.1.1≤r.1.2∧-838860900≤r.1.1∧r.1.2≤838860900)
theorem ptn_pos (d:Int):0 < ptn d:=Nat.pow_pos (by decide)
theorem hd_ok {x:P3} {s d:Int} {p:Pu} {tick:Int} (hp:pucode p=0) (hx:BdP 256 x) (s1:1≤s) (s2:s≤16) (d1:0≤d) (d2:d≤3) (_t1:0≤tick) (t2:tick≤2000):hOk (hdR x s d p tick):=by
  obtain ⟨hb,_,⟨a1,a2⟩,b1,b2⟩:=pucode_ok hp
  unfold hdR
  by_cases h1:tick≤p.2.1
  · rw [if_pos h1]
    exact Or.inr ⟨rfl,Int.le_refl 0,by decide,by decide⟩
  rw [if_neg h1]
  have G:∀ k,k < ptn d→gOk (shG x s d (tick - p.2.1) (ptk p.1 d k)):=fun k hk=>shG_ok hx s1 s2 d1 d2 (by omega) (by omega) (ptk_bd hb d1 d2 hk)
  rcases gie_or G with z | z
  · rw [if_neg (fun c=>c z)]
    have key:∀ k,k < ptn d→0≤((gis (shG x s d (tick - p.2.1)) (ptk p.1 d) (ptn d)).getD k (0,0)).1∧((gis (shG x s d (tick - p.2.1)) (ptk p.1 d) (ptn d)).getD k (0,0)).1≤((gis (shG x s d (tick - p.2.1)) (ptk p.1 d) (ptn d)).getD k (0,0)).2∧((gis (shG x s d (tick - p.2.1)) (ptk p.1 d) (ptn d)).getD k (0,0)).2≤8388609:=fun k hk=>by
      rw [gis_at hk]
      have e:=gie_all z k hk
      rcases G k hk with y | y
      · rw [y] at e;cases e
      · exact y.2
    obtain ⟨m1,m2,m3,m4⟩:=mn8_ok (ptn_pos d) key
    dsimp only
    rw [if_neg (fun c=>c m1)]
    obtain ⟨q1,q2,q3,q4,_⟩:=scale8_ok m2 m3 m4 b1 b2
    exact Or.inr ⟨q1,q2,q3,q4⟩
  · rw [if_pos (by rw [z];decide)]
    exact Or.inl ⟨z,rfl⟩
theorem hd_neg {x:P3} {s d:Int} {t:P9} {at_ pw tick:Int} (hp:pucode (t,at_,pw)=0) (hx:BdP 256 x) (s1:1≤s) (s2:s≤16) (d1:0≤d) (d2:d≤3) (_t1:0≤tick) (t2:tick≤2000) :
    hdR x s d (t,at_,-pw) tick=((-(hdR x s d (t,at_,pw) tick).1.2,-(hdR x s d (t,at_,pw) tick).1.1),(hdR x s d (t,at_,pw) tick).2):=by
  obtain ⟨hb,_,⟨a1,a2⟩,b1,b2⟩:=pucode_ok hp
  dsimp only at a1 a2 b1 b2 hb
  unfold hdR
  dsimp only
  by_cases h1:tick≤at_
  · rw [if_pos h1,if_pos h1]
    rfl
  rw [if_neg h1,if_neg h1]
  have G:∀ k,k < ptn d→gOk (shG x s d (tick - at_) (ptk t d k)):=fun k hk=>shG_ok hx s1 s2 d1 d2 (by omega) (by omega) (ptk_bd hb d1 d2 hk)
  rcases gie_or G with z | z
  · have zz:¬ (gie (shG x s d (tick - at_)) (ptk t d) (ptn d) ≠ 0):=fun c=>c z
    rw [if_neg zz,if_neg zz]
    have key:∀ k,k < ptn d→0≤((gis (shG x s d (tick - at_)) (ptk t d) (ptn d)).getD k (0,0)).1∧((gis (shG x s d (tick - at_)) (ptk t d) (ptn d)).getD k (0,0)).1≤((gis (shG x s d (tick - at_)) (ptk t d) (ptn d)).getD k (0,0)).2∧((gis (shG x s d (tick - at_)) (ptk t d) (ptn d)).getD k (0,0)).2≤8388609:=fun k hk=>by
      rw [gis_at hk]
      have e:=gie_all z k hk
      rcases G k hk with y | y
      · rw [y] at e;cases e
      · exact y.2
    obtain ⟨m1,m2,m3,m4⟩:=mn8_ok (ptn_pos d) key
    clear key
    generalize mnR8 _ _ _=m at *
    have mm:¬ (m.2 ≠ 0):=fun c=>c m1
    rw [if_neg mm,if_neg mm]
    obtain ⟨q1,_,_,_,q5⟩:=scale8_ok m2 m3 m4 b1 b2
    obtain ⟨r1,_,_,_,r5⟩:=scale8_ok m2 m3 m4 (show -100≤-pw by omega) (show -pw≤100 by omega)
    generalize scaleR m.1.1 m.1.2 (-pw)=A at *
    generalize scaleR m.1.1 m.1.2 pw=B at *
    obtain ⟨⟨A1,A2⟩,A3⟩:=A
    obtain ⟨⟨B1,B2⟩,B3⟩:=B
    simp only [Prod.mk.injEq] at q5 r5
    dsimp only at q1 r1 ⊢
    have n1:m.1.1 * -pw=-(m.1.1 * pw):=Int.mul_neg _ _
    have n2:m.1.2 * -pw=-(m.1.2 * pw):=Int.mul_neg _ _
    rw [n1,n2,Sp.mn_eq,Sp.mx_eq] at r5
    rw [Sp.mn_eq,Sp.mx_eq] at q5
    rw [q1,r1]
    refine Prod.ext (Prod.ext ?_ ?_) rfl
    · show A1=-B2;omega
    · show A2=-B1;omega
  · rw [if_pos (by rw [z];decide),if_pos (by rw [z];decide)]
    rfl
theorem hd_later (x:P3) (s d:Int) (t:P9) (at_ pw tick by_:Int):hdR x s d (t,at_ + by_,pw) (tick + by_)=hdR x s d (t,at_,pw) tick:=by
  unfold hdR
  dsimp only
  rw [show tick + by_ - (at_ + by_)=tick - at_ by omega]
  by_cases h:tick≤at_
  · rw [if_pos h,if_pos (by omega)]
  · rw [if_neg h,if_neg (by omega)]
end Go.Proofs.YtciimaojoococaaGreat
namespace Go.Proofs.YtciimaojoococaaGreat
open Go.ChangeShapes Go.WideShapes Go.RowKit
open Sh
theorem lit_src (w:World) (cl:List Value) (t:TypeId) (hm:cl.length≤maxLen) (j:Nat) (u:Value) (h:cl[j]?=some u):(w.alloc (.cells cl.toArray t)).cell? ((⟨w.heap.size,0,none⟩:Addr).add j)=some u:=by
  have hj:j < cl.length:=(List.getElem?_eq_some_iff.1 h).1
  have e:(⟨w.heap.size,0,none⟩:Addr).add j=⟨w.heap.size,j,none⟩:=by
    unfold Addr.add
    split
    · rename_i e;subst e;rfl
    · simp
  rw [e]
  have z:=(World.ownsRow_lit (base:=0) (e:=t) (size:=1) w cl.toArray cl.length (Nat.zero_le _) hm (by simp)).cellAt j (by simpa using hj)
  rw [z]
  exact h
theorem pcs_one:∀ (l:List P9),∀ u ∈ pcs l,u.oneCell'=true:=by
  intro l u hu
  unfold pcs at hu
  obtain ⟨t,_,ht⟩:=List.mem_flatMap.1 hu
  unfold pcs9 at ht
  simp at ht
  rcases ht with rfl | rfl | rfl | rfl | rfl | rfl | rfl | rfl | rfl <;> rfl
theorem pcs_app (l m:List P9):pcs (l ++ m)=pcs l ++ pcs m:=by unfold pcs;exact List.flatMap_append
theorem take_next {l:List P9} {k:Nat} (h:k < l.length):(l.take (k + 1)).flatMap qrs=(l.take k).flatMap qrs ++ qrs (l.getD k ((0,0,0),(0,0,0),(0,0,0))):=by
  rw [List.take_add_one,List.getElem?_eq_getElem h,List.flatMap_append,List.getD_eq_getElem?_getD,List.getElem?_eq_getElem h]
  show _ ++ [l[k]].flatMap qrs=_
  rw [List.flatMap_singleton]
  rfl
theorem own_row9 {w:World} {base n:Nat} {v:Value} {l:List P9} (h:w.ownsRow base 42 9 v n (pcs l)) (hn:l.length=n) (h0:0 < n):∃ g off cap,v=.slice (some ⟨g,off,none⟩) n cap∧RowP w g off n (fun k=>l.getD k ((0,0,0),(0,0,0),(0,0,0))):=by
  obtain ⟨g,cap,rfl⟩:=own_slice8 h h0
  exact ⟨g,0,cap,rfl,rowP_of h hn⟩
def GIp (w:World) (B:Nat) (v:Value) (n:Nat) (xs:List Value) (W:World):Prop:=Below w.heap.size w W∧W.ownsRow w.heap.size 42 9 v n xs∧∀ g,v.ownBlock=some g→g < B
theorem own_in9' {w w1:World} {N base:Nat} {e:TypeId} {n:Nat} {v:Value} {k:Nat} {xs:List Value} (h:w.ownsRow base e n v k xs) (hb:Below N w w1) (hg:∀ g,v.ownBlock=some g→g < N):w1.ownsRow base e n v k xs:=by
  refine ⟨h.1,?_⟩
  rcases h.2 with hn | ⟨g,cap,cur,rfl,hg',hgg,rest⟩
  · exact .inl hn
  · exact .inr ⟨g,cap,cur,rfl,hg',by rw [hb.block g (hg g rfl)];exact hgg,rest⟩
theorem step_own {P:Program} {ops:Array Oper} {o:Oper} {a:Act} {w:World} {K:Act→World→Prop} {Q:Exit→Act→World→Prop} {E:Prop} (hg:o.guard=none) (s x:Operand) (t:TypeId)
    (ho:o.op=.call { callee:=.builtin .append,args:=#[s,x],argTypes:=#[t,t] })
    (base:Nat) (e:TypeId) (i:TypeInfo) (z:Value) (size bytes:Nat) (ht:P.underlying t=some (.slice e)) (hi:P.info? e=some i) (hz:i.zero=some z)
    (hsize:i.size=size) (hby:i.bytes=bytes) (hzs:z.cells.size=size) (hsz:0 < size)
    (v:Value) (n:Nat) (xs:List Value) (hs:a.eval s=v) (hown:w.ownsRow base e size v n xs)
    (ad:Addr) (m c:Nat) (hx:a.eval x=.slice (some ad) m c) (news:List Value) (hnews:∀ j u,news[j]?=some u→w.cell? (ad.add j)=some u) (hl:news.length=m * size) (h1:∀ u ∈ news,u.oneCell'=true)
    (h63:n + m≤maxLen) (hbytes:(n + m) * bytes≤140737488355328) (hbase:base≤w.heap.size)
    (h:∀ v' w',w'.ownsRow base e size v' (n + m) (xs ++ news)→w.grownBy w' v.ownBlock→K (a.put o.dst v') w'):if Region.wanted o (yielded ops a.tmps)=true then Oper.wp P o a w K Q else E:=by
  have hw:Region.wanted o (yielded ops a.tmps)=true:=by simp [Region.wanted,hg]
  rw [if_pos hw]
  exact wp_append_own w s x t ho base e i z size bytes ht hi hz hsize hby hzs hsz v n xs hs hown ad m c news hx hl hnews h1 h63 hbytes hbase fun v' w' h2 h3 _=>h v' w' h2 h3
theorem gip_in {w W W':World} {B:Nat} {v:Value} {n:Nat} {xs:List Value} (h:GIp w B v n xs W) (hs:w.heap.size≤B) (hb:Below B W W'):GIp w B v n xs W':=⟨h.1.trans (hb.mono hs),own_in9' h.2.1 hb h.2.2,h.2.2⟩
def SX (W:World) (x y z u v q:Nat) (a b c d e f:P3):Prop:=(Own W x a∧Own W y b∧Own W z c)∧Own W u d∧Own W v e∧Own W q f
theorem sx_below {W W':World} {x y z u v q:Nat} {a b c d e f:P3} (h:SX W x y z u v q a b c d e f) (hb:Below W.heap.size W W'):SX W' x y z u v q a b c d e f :=
  ⟨⟨own_below h.1.1 hb,own_below h.1.2.1 hb,own_below h.1.2.2 hb⟩,own_below h.2.1 hb,own_below h.2.2.1 hb,own_below h.2.2.2 hb⟩
theorem gip_drew {w W:World} {B:Nat} {v:Value} {n:Nat} {xs:List Value} (h:GIp w B v n xs W):GIp w B v n xs W.drew:=⟨Below.drew h.1,h.2.1,h.2.2⟩
theorem sx_grow {W W':World} {row:Option Nat} {B x y z u v q:Nat} {a b c d e f:P3} (h:SX W x y z u v q a b c d e f) (g:W.grownBy W' row) (hr:∀ k,row=some k→k < B) (n:(B≤x∧B≤y∧B≤z)∧B≤u∧B≤v∧B≤q):W'.cell? ⟨x,0,none⟩=some (.int .i64 a.1)∧W'.cell? ⟨x,1,none⟩=some (.int .i64 a.2.1)∧W'.cell? ⟨x,2,none⟩=some (.int .i64 a.2.2)∧W'.cell? ⟨y,0,none⟩=some (.int .i64 b.1)∧W'.cell? ⟨y,1,none⟩=some (.int .i64 b.2.1)∧W'.cell? ⟨y,2,none⟩=some (.int .i64 b.2.2)∧W'.cell? ⟨z,0,none⟩=some (.int .i64 c.1)∧W'.cell? ⟨z,1,none⟩=some (.int .i64 c.2.1)∧W'.cell? ⟨z,2,none⟩=some (.int .i64 c.2.2)∧W'.cell? ⟨u,0,none⟩=some (.int .i64 d.1)∧W'.cell? ⟨u,1,none⟩=some (.int .i64 d.2.1)∧W'.cell? ⟨u,2,none⟩=some (.int .i64 d.2.2)∧W'.cell? ⟨v,0,none⟩=some (.int .i64 e.1)∧W'.cell? ⟨v,1,none⟩=some (.int .i64 e.2.1)∧W'.cell? ⟨v,2,none⟩=some (.int .i64 e.2.2)∧W'.cell? ⟨q,0,none⟩=some (.int .i64 f.1)∧W'.cell? ⟨q,1,none⟩=some (.int .i64 f.2.1)∧W'.cell? ⟨q,2,none⟩=some (.int .i64 f.2.2):=by
  have ne:∀ k,B≤k→some k ≠ row:=fun k hk e=>by have:=hr k e.symm;omega
  obtain ⟨⟨⟨a0,a1,a2,_⟩,⟨b0,b1,b2,_⟩,⟨c0,c1,c2,_⟩⟩,⟨d0,d1,d2,_⟩,⟨e0,e1,e2,_⟩,⟨f0,f1,f2,_⟩⟩:=h
  obtain ⟨⟨nx,ny,nz⟩,nu,nv,nq⟩:=n
  exact ⟨g.cell a0 (ne _ nx),g.cell a1 (ne _ nx),g.cell a2 (ne _ nx),g.cell b0 (ne _ ny),g.cell b1 (ne _ ny),g.cell b2 (ne _ ny),g.cell c0 (ne _ nz),g.cell c1 (ne _ nz),g.cell c2 (ne _ nz),g.cell d0 (ne _ nu),g.cell d1 (ne _ nu),g.cell d2 (ne _ nu),g.cell e0 (ne _ nv),g.cell e1 (ne _ nv),g.cell e2 (ne _ nv),g.cell f0 (ne _ nq),g.cell f1 (ne _ nq),g.cell f2 (ne _ nq)⟩
theorem sx_drew {W:World} {x y z u v q:Nat} {a b c d e f:P3} (h:SX W x y z u v q a b c d e f):SX W.drew x y z u v q a b c d e f:=h
theorem sx_alloc {W:World} {x y z u v q:Nat} {a b c d e f:P3} (h:SX W x y z u v q a b c d e f) (o:Obj):SX (W.alloc o) x y z u v q a b c d e f:=sx_below h ((Below.refl _ _).alloc (Nat.le_refl _) _)
theorem sx_cells {W:World} {x y z u v q:Nat} {a b c d e f:P3} (h:SX W x y z u v q a b c d e f):W.cell? ⟨x,0,none⟩=some (.int .i64 a.1)∧W.cell? ⟨x,1,none⟩=some (.int .i64 a.2.1)∧W.cell? ⟨x,2,none⟩=some (.int .i64 a.2.2)∧W.cell? ⟨y,0,none⟩=some (.int .i64 b.1)∧W.cell? ⟨y,1,none⟩=some (.int .i64 b.2.1)∧W.cell? ⟨y,2,none⟩=some (.int .i64 b.2.2)∧W.cell? ⟨z,0,none⟩=some (.int .i64 c.1)∧W.cell? ⟨z,1,none⟩=some (.int .i64 c.2.1)∧W.cell? ⟨z,2,none⟩=some (.int .i64 c.2.2)∧W.cell? ⟨u,0,none⟩=some (.int .i64 d.1)∧W.cell? ⟨u,1,none⟩=some (.int .i64 d.2.1)∧W.cell? ⟨u,2,none⟩=some (.int .i64 d.2.2)∧W.cell? ⟨v,0,none⟩=some (.int .i64 e.1)∧W.cell? ⟨v,1,none⟩=some (.int .i64 e.2.1)∧W.cell? ⟨v,2,none⟩=some (.int .i64 e.2.2)∧W.cell? ⟨q,0,none⟩=some (.int .i64 f.1)∧W.cell? ⟨q,1,none⟩=some (.int .i64 f.2.1)∧W.cell? ⟨q,2,none⟩=some (.int .i64 f.2.2):=by
  obtain ⟨⟨⟨a0,a1,a2,_⟩,⟨b0,b1,b2,_⟩,⟨c0,c1,c2,_⟩⟩,⟨d0,d1,d2,_⟩,⟨e0,e1,e2,_⟩,⟨f0,f1,f2,_⟩⟩:=h
  exact ⟨a0,a1,a2,b0,b1,b2,c0,c1,c2,d0,d1,d2,e0,e1,e2,f0,f1,f2⟩
theorem tim2_add (a:P3):tim 2 a=add a a:=Prod.ext (show 2 * a.1=a.1 + a.1 by omega) (Prod.ext (show 2 * a.2.1=a.2.1 + a.2.1 by omega) (show 2 * a.2.2=a.2.2 + a.2.2 by omega))
theorem dbl_any (a:P3) (w:World) (h:BdP 4611686018427387904 (add a a)):Calls Tryz.prog 125 #[ptv a] w fun e w'=>e=.returned (ptv (tim 2 a))∧Below w.heap.size w w':=by
  rw [tim2_add]
  have PL:=Lib.hid (fun W=>plus4_any a a W h)
  have A1:=Lib.hid (own_alloc (own_new w a 24) (.cells #[.int .i64 0,.int .i64 0,.int .i64 0] 24))
  have R1:=Lib.hid (own_new (w.alloc (ptc a 24)) (0,0,0) 24)
  simp only [World.size_alloc] at R1
  go_enter Tryz.func125,Tryz.ntmps125
  go_wp2_with fail
  refine (PL.out _).mono ?_
  rintro e w1 ⟨rfl,hb1⟩
  obtain ⟨r0,r1,r2,r3,r4,r5,r6⟩:=own_below R1.out hb1
  go_wp2
  refine bodyPost_ret (v:=ptv (add a a)) (by rw [results_cell rfl];go_simp) rfl ⟨rfl,?_⟩
  (repeat' (first | exact Below.refl _ _ | refine bstep ?_ hb1 | refine Below.setCell ?_ (by simp <;> omega) _ | refine balloc ?_ _ | refine Below.drew ?_ | refine bdrewN ?_ _))
set_option maxRecDepth 100000 in
set_option maxHeartbeats 4000000 in
theorem rparts_zero (t:P9) (w:World):Calls Tryz.prog 77 #[p9w t,.int .i64 0] w fun e w'=>∃ v,e=.returned v∧w'.ownsRow w.heap.size 42 9 v 1 (pcs [t])∧Below w.heap.size w w':=by
  have P:=Lib.hid (pan_new w t.1 t.2.1 t.2.2 42)
  have OW:=Lib.hid (fun (W:World) (h:w.heap.size≤W.heap.size)=>World.ownsRow_lit (base:=w.heap.size) (e:=42) (size:=9) W (pcs9 t).toArray 1 h (by unfold maxLen;omega) rfl)
  go_enter Tryz.func77,Tryz.ntmps77
  obtain ⟨c0,c1,c2,c3,c4,c5,c6,c7,c8,cl⟩:=P.out
  go_wp2
  go_ret
  have z:=OW.out (w.alloc (pnc t.1 t.2.1 t.2.2 42)) (by simp)
  rw [World.size_alloc] at z
  refine ⟨.slice (some ⟨w.heap.size + 1,0,none⟩) 1 1,rfl,?_,?_⟩
  · show World.ownsRow _ _ _ _ _ _ (pcs9 t ++ [])
    rw [List.append_nil]
    exact z
  · exact by (repeat' (first | exact Below.refl _ _ | refine Below.setCell ?_ (by simp <;> omega) _ | refine balloc ?_ _ | refine Below.drew ?_ | refine bdrewN ?_ _))
set_option maxRecDepth 100000 in
set_option maxHeartbeats 4000000 in
theorem rparts_succ (d:Nat) (D:Int) (t:P9) (w:World) (hD:D=(d:Int) + 1) (hd:d≤2) (hB:∀ q ∈ cutP d t,BdT 576460752303423488 q)
    (IH:Hid (∀ W,Calls Tryz.prog 77 #[p9w t,.int .i64 (d:Int)] W fun e w'=>∃ v,e=.returned v∧w'.ownsRow W.heap.size 42 9 v (4 ^ d) (pcs (cutP d t))∧Below W.heap.size W w')) :
    Calls Tryz.prog 77 #[p9w t,.int .i64 D] w fun e w'=>∃ v,e=.returned v∧w'.ownsRow w.heap.size 42 9 v (4 ^ (d + 1)) (pcs (cutP (d + 1) t))∧Below w.heap.size w w':=by
  obtain ⟨i0,hi,hz0,hz1,hz2⟩:=info_parts infoPn9
  have HI:=Lib.hid hi
  have HZ0:=Lib.hid hz0
  have HZ1:=Lib.hid hz1
  have HZ2:=Lib.hid hz2
  have P:=Lib.hid (pan_new w t.1 t.2.1 t.2.2 42)
  have hD0:(D == 0)=false:=beq_eq_false_iff_ne.2 (by omega)
  have hD1:D - 1=(d:Int):=by omega
  have hlen:(cutP d t).length=4 ^ d:=cutP_len d t
  have hp4:0 < 4 ^ d:=Nat.pow_pos (by decide)
  have hle:4 ^ d≤16:=by
    have:d=0∨d=1∨d=2:=by omega
    rcases this with rfl | rfl | rfl <;> decide
  have HB:=Lib.hid (fun k (hk:k < 4 ^ d)=>hB ((cutP d t).getD k ((0,0,0),(0,0,0),(0,0,0))) (by
    rw [List.getD_eq_getElem?_getD,List.getElem?_eq_getElem (by rw [hlen];exact hk)]
    exact List.getElem_mem _))
  have NX:=Lib.hid (fun k (hk:k < 4 ^ d)=>take_next (l:=cutP d t) (k:=k) (by rw [hlen];exact hk))
  have FI:=Lib.hid (show pcs (((cutP d t).take (4 ^ d)).flatMap qrs)=pcs (cutP (d + 1) t) by rw [← hlen,List.take_length,cutP_last])
  have P4:=Lib.hid (show 4 * 4 ^ d=4 ^ (d + 1) by rw [Nat.pow_succ];omega)
  generalize hm:4 ^ d=m at *
  have D1:1≤D:=by omega
  have D3:D≤3:=by omega
  clear hi hz0 hz1 hz2 hB
  go_enter Tryz.func77,Tryz.ntmps77
  obtain ⟨c0,c1,c2,c3,c4,c5,c6,c7,c8,cl⟩:=P.out
  go_wp2_with (go_at_call 77;(first | rw [hD1] | skip);refine (IH.out _).mono ?_;rintro e w2 ⟨v,rfl,ho,hb2⟩)
  obtain ⟨g,off,cap,rfl,hrow⟩:=own_row9 ho hlen hp4
  have B2:=Lib.hid (show Below w.heap.size w w2 by (repeat' (first | exact Below.refl _ _ | refine bstep ?_ hb2 | refine Below.setCell ?_ (by simp <;> omega) _ | refine balloc ?_ _ | refine Below.drew ?_ | refine bdrewN ?_ _)))
  have hg:g < w2.heap.size:=hrow.1
  have R:=Lib.hid hrow
  clear ho hb2 hrow c0 c1 c2 c3 c4 c5 c6 c7 c8 cl IH hD hD0 hD1 P D1 D3
  go_loopw [5,7] (fun sv kv wr=>∃ k:Nat,k≤m∧kv=.int .i64 k∧wr.ownsRow w2.heap.size 42 9 sv (4 * k) (pcs (((cutP d t).take k).flatMap qrs))∧Below w2.heap.size w2 wr) (fun _ kv _=>m - (intOf kv).toNat)
  case atStart=>exact ⟨0,Nat.zero_le _,rfl,World.ownsRow_nil _ _ _ _,Below.refl _ _⟩
  case round =>
    obtain ⟨k,hk,rfl,how,hbb⟩:=hrel
    have OW:=Lib.hid how
    have BB:=Lib.hid hbb
    clear how hbb
    by_cases hlt:k < m
    · have hk1:(k:Int) < (m:Int):=by omega
      have NXk:=Lib.hid (NX.out k hlt)
      have RK:=Lib.hid (fun (W:World) (h:Below w2.heap.size w2 W)=>(rowP_in R.out h hg).2 k hlt)
      have HBk:=Lib.hid (HB.out k hlt)
      have szw:=BB.out.size
      dsimp only at RK
      obtain ⟨q,hq⟩:∃ q,(cutP d t).getD k ((0,0,0),(0,0,0),(0,0,0))=q:=⟨_,rfl⟩
      rw [hq] at RK NXk HBk
      clear hq NX HB
      have GI0:=Lib.hid (show (GIp w2 wr.heap.size u5 (4 * k) (pcs (((cutP d t).take k).flatMap qrs))) wr from ⟨BB.out,OW.out,fun g h=>(OW.out.lt g h).2⟩)
      go_wp2_with fail
      rename_i K8 hK8
      have HK8:=Lib.hid hK8
      clear hK8
      refine rpa_reg (GIp w2 wr.heap.size u5 (4 * k) (pcs (((cutP d t).take k).flatMap qrs))) wr.heap.size g off m cap k q (Lib.hid ⟨hk1,by omega⟩) (Lib.hid fun W h=>RK.out W h.1) (Lib.hid fun W W' hb h=>gip_in h szw hb) (Nat.le_refl _) (gip_drew GI0.out) ?_
      intro x28 x29 x30 x31 x32 x33 x34 x35 x36 x37 x38 x39 x40 x41 x42 x y z w3 hN3 g3 nx ox ny oy nz oz
      have O3:=Lib.hid (show Own w3 x q.1∧Own w3 y q.2.1∧Own w3 z q.2.2 from ⟨ox,oy,oz⟩)
      have g3':=Lib.hid g3
      clear g3 ox oy oz RK GI0
      refine HK8.out _ _ ?_
      clear HK8
      go_wp2_with fail
      rename_i K9 hK9
      have HK9:=Lib.hid hK9
      clear hK9
      have L3:x < w3.heap.size∧y < w3.heap.size∧z < w3.heap.size:=⟨O3.out.1.2.2.2.2.2.2,O3.out.2.1.2.2.2.2.2.2,O3.out.2.2.2.2.2.2.2.2⟩
      refine rpb_reg (fun W=>(GIp w2 wr.heap.size u5 (4 * k) (pcs (((cutP d t).take k).flatMap qrs))) W∧Own W x q.1∧Own W y q.2.1∧Own W z q.2.2) w3.heap.size x y z q.1 q.2.1 q.2.2 (Lib.hid (add2_bd HBk.out.1 HBk.out.2.1 |>.mono (by decide))) (Lib.hid (add2_bd HBk.out.2.1 HBk.out.2.2 |>.mono (by decide))) (Lib.hid (add2_bd HBk.out.2.2 HBk.out.1 |>.mono (by decide))) (Lib.hid fun W h=>⟨h.2.1.1,h.2.1.2.1,h.2.1.2.2.1,h.2.2.1.1,h.2.2.1.2.1,h.2.2.1.2.2.1,h.2.2.2.1,h.2.2.2.2.1,h.2.2.2.2.2.1⟩) (Lib.hid fun W W' hb h=>⟨gip_in h.1 szw (hb.mono hN3),own_in' h.2.1 hb L3.1,own_in' h.2.2.1 hb L3.2.1,own_in' h.2.2.2 hb L3.2.2⟩) (Nat.le_refl _) ⟨gip_drew g3'.out,own_drew O3.out.1,own_drew O3.out.2.1,own_drew O3.out.2.2⟩ ?_
      intro x43 x44 x45 x46 x47 x48 x49 x50 x51 x' y' z' w4 hN4 g4 nx' ox' ny' oy' nz' oz'
      have SX0:=Lib.hid (show SX w4 x y z x' y' z' q.1 q.2.1 q.2.2 (add q.1 q.2.1) (add q.2.1 q.2.2) (add q.2.2 q.1) from ⟨g4.2,ox',oy',oz'⟩)
      have g4':=Lib.hid g4.1
      have sz4:wr.heap.size≤w4.heap.size:=Nat.le_trans hN3 hN4
      clear g4 ox' oy' oz' g3' O3
      refine HK9.out _ _ ?_
      clear HK9
      have DA:=Lib.hid (fun W=>dbl_any q.1 W (add2_bd HBk.out.1 HBk.out.1 |>.mono (by decide)))
      have DB:=Lib.hid (fun W=>dbl_any q.2.1 W (add2_bd HBk.out.2.1 HBk.out.2.1 |>.mono (by decide)))
      have DC:=Lib.hid (fun W=>dbl_any q.2.2 W (add2_bd HBk.out.2.2 HBk.out.2.2 |>.mono (by decide)))
      have L4:=SX0.out
      have s0:=sx_drew SX0.out
      have j0:=gip_drew g4'.out
      have szk:4 * k + 4≤64:=by omega
      clear L4 BB OW HBk SX0
      go_region_held3 (fun w'=>w'.cell? ⟨x,0,none⟩=some (.int .i64 (q.1).1)∧w'.cell? ⟨x,1,none⟩=some (.int .i64 (q.1).2.1)∧w'.cell? ⟨x,2,none⟩=some (.int .i64 (q.1).2.2)∧w'.cell? ⟨y,0,none⟩=some (.int .i64 (q.2.1).1)∧w'.cell? ⟨y,1,none⟩=some (.int .i64 (q.2.1).2.1)∧w'.cell? ⟨y,2,none⟩=some (.int .i64 (q.2.1).2.2)∧w'.cell? ⟨z,0,none⟩=some (.int .i64 (q.2.2).1)∧w'.cell? ⟨z,1,none⟩=some (.int .i64 (q.2.2).2.1)∧w'.cell? ⟨z,2,none⟩=some (.int .i64 (q.2.2).2.2)∧w'.cell? ⟨x',0,none⟩=some (.int .i64 (add q.1 q.2.1).1)∧w'.cell? ⟨x',1,none⟩=some (.int .i64 (add q.1 q.2.1).2.1)∧w'.cell? ⟨x',2,none⟩=some (.int .i64 (add q.1 q.2.1).2.2)∧w'.cell? ⟨y',0,none⟩=some (.int .i64 (add q.2.1 q.2.2).1)∧w'.cell? ⟨y',1,none⟩=some (.int .i64 (add q.2.1 q.2.2).2.1)∧w'.cell? ⟨y',2,none⟩=some (.int .i64 (add q.2.1 q.2.2).2.2)∧w'.cell? ⟨z',0,none⟩=some (.int .i64 (add q.2.2 q.1).1)∧w'.cell? ⟨z',1,none⟩=some (.int .i64 (add q.2.2 q.1).2.1)∧w'.cell? ⟨z',2,none⟩=some (.int .i64 (add q.2.2 q.1).2.2))
        (first | (refine sx_cells s0) | (refine sx_cells s1) | (refine sx_cells s2) | (refine sx_cells s3) | (refine sx_cells (sx_alloc s3 _)) | (exact s4) | fail)
        (first | (go_at_call 125;(with_reducible refine (DA.out _).mono ?_);rintro e v1 ⟨rfl,hv1⟩;have s1:=sx_below s0 hv1;have j1:=gip_in j0 szw (hv1.mono sz4);have z1:=Nat.le_trans sz4 hv1.size) | (go_at_call 125;(with_reducible refine (DB.out _).mono ?_);rintro e v2 ⟨rfl,hv2⟩;have s2:=sx_below s1 hv2;have j2:=gip_in j1 szw (hv2.mono z1);have z2:=Nat.le_trans z1 hv2.size) | (go_at_call 125;(with_reducible refine (DC.out _).mono ?_);rintro e v3 ⟨rfl,hv3⟩;have s3:=sx_below s2 hv3;have j3:=gip_in j2 szw (hv3.mono z2);have z3:=Nat.le_trans z2 hv3.size;have j4:=Lib.hid j3.2.1) | (refine step_own rfl (.tmp 52) (.tmp 72) 97 rfl w2.heap.size 42 i0 (.agg #[.int .i64 0,.int .i64 0,.int .i64 0,.int .i64 0,.int .i64 0,.int .i64 0,.int .i64 0,.int .i64 0,.int .i64 0]) 9 72 Tryz.underlying97 HI.out HZ0.out HZ1.out HZ2.out rfl (by decide) u5 (4 * k) _ (by simp [Act.eval]) (World.ownsRow.alloc j4.out _) ⟨v3.heap.size,0,none⟩ 4 4 (by simp [Act.eval]) (pcs (qrs q)) (lit_src _ (pcs (qrs q)) _ (by show 36≤maxLen;decide)) rfl (pcs_one _) (by unfold maxLen;omega) (by omega) (by simp;omega) ?_;intro v' w5 hown' hgrow;have OW5:=Lib.hid hown';have GR:=Lib.hid hgrow;clear hown' hgrow;have hb5:=((Below.refl v3.heap.size v3).alloc (Nat.le_refl _) (.cells (pcs (qrs q)).toArray 42));have s4:=sx_grow (sx_below s3 hb5) GR.out j0.2.2 ⟨⟨nx,ny,nz⟩,by omega,by omega,by omega⟩) | fail)
      all_goals
        have BG:=Lib.hid ((j3.1.trans (hb5.mono (Nat.le_trans szw z3))).grown GR.out (by have:=hb5.size;omega) (fun gg hg=>(j4.out.lt gg hg).1))
        clear s0 s1 s2 s3 s4 j0 j1 j2 j3 hv1 hv2 hv3 hb5 DA DB DC GR
        go_wp2
        go_roundw
        case rel=>exact ⟨k + 1,by omega,by go_num,by rw [show 4 * (k + 1)=4 * k + 4 by omega,NXk.out,pcs_app];exact OW5.out,BG.out⟩
        case measure=>simp [intOf];omega
    · obtain rfl:k=m:=by omega
      go_wp2
      go_ret
      refine ⟨_,rfl,?_,B2.out.trans (BB.out.mono B2.out.size)⟩
      have z:=own_base9 OW.out B2.out.size
      rw [FI.out,P4.out] at z
      exact z
theorem rparts_any:∀ (d:Nat) (B:Int) (t:P9) (w:World),d≤3→BdT B t→2 ^ d * B≤576460752303423488 →
    Calls Tryz.prog 77 #[p9w t,.int .i64 (d:Int)] w fun e w'=>∃ v,e=.returned v∧w'.ownsRow w.heap.size 42 9 v (4 ^ d) (pcs (cutP d t))∧Below w.heap.size w w'
  | 0,B,t,w,_,_,_=>rparts_zero t w
  | d + 1,B,t,w,h,hB,hb=>by
    have e2:(2:Int) ^ (d + 1) * B=2 * (2 ^ d * B):=by rw [Int.pow_succ,Int.mul_comm (2 ^ d) 2,Int.mul_assoc]
    have b0:0≤B:=by have:=hB.1.1;have:=hB.1.2.1;omega
    have p0:0≤(2:Int) ^ d * B:=Int.mul_nonneg (Int.pow_nonneg (by decide)) b0
    refine rparts_succ d ((d + 1:Nat):Int) t w (by omega) (by omega) (fun q hq=>(cutP_bd d hB q hq).mono (by omega)) (Lib.hid fun W=>rparts_any d B t W (by omega) hB (by omega))
end Go.Proofs.YtciimaojoococaaGreat
namespace Go.Proofs.YtciimaojoococaaGreat
open Go.ChangeShapes Go.WideShapes Go.RowKit
open Sh
theorem rsh_keep {W:World} {b0 b off k n:Nat} {c:P3} {L:Nat→P9} {t:P9} (h:Own W b0 c) (r:RowP W b off n L) (hk:k < n) (e:L k=t):W.cell? ⟨b0,0,none⟩=some (.int .i64 c.1)∧W.cell? ⟨b0,1,none⟩=some (.int .i64 c.2.1)∧W.cell? ⟨b0,2,none⟩=some (.int .i64 c.2.2)∧W.cell? ⟨b,off + k * 9,none⟩=some (.int .i64 t.1.1)∧W.cell? ⟨b,off + k * 9 + 1,none⟩=some (.int .i64 t.1.2.1)∧W.cell? ⟨b,off + k * 9 + 1 + 1,none⟩=some (.int .i64 t.1.2.2)∧W.cell? ⟨b,off + k * 9 + 1 + 1 + 1,none⟩=some (.int .i64 t.2.1.1)∧W.cell? ⟨b,off + k * 9 + 1 + 1 + 1 + 1,none⟩=some (.int .i64 t.2.1.2.1)∧W.cell? ⟨b,off + k * 9 + 1 + 1 + 1 + 1 + 1,none⟩=some (.int .i64 t.2.1.2.2)∧W.cell? ⟨b,off + k * 9 + 1 + 1 + 1 + 1 + 1 + 1,none⟩=some (.int .i64 t.2.2.1)∧W.cell? ⟨b,off + k * 9 + 1 + 1 + 1 + 1 + 1 + 1 + 1,none⟩=some (.int .i64 t.2.2.2.1)∧W.cell? ⟨b,off + k * 9 + 1 + 1 + 1 + 1 + 1 + 1 + 1 + 1,none⟩=some (.int .i64 t.2.2.2.2):=by
  subst e
  obtain ⟨k0,k1,k2,k3,k4,k5,k6,k7,k8⟩:=r.2 k hk
  exact ⟨h.1,h.2.1,h.2.2.1,k0,k1,k2,k3,k4,k5,k6,k7,k8⟩
theorem pair_in {w w1:World} {b N:Nat} {x y:Int} (h:Pair w b x y) (hb:Below N w w1) (hN:b < N):Pair w1 b x y:=by
  obtain ⟨h1,h2,h3,h4,h5⟩:=h
  exact ⟨(hb.cell (p:=⟨b,0,none⟩) hN).trans h1,(hb.cell (p:=⟨b,1,none⟩) hN).trans h2,(hb.frozen (p:=⟨b,0,none⟩) hN).trans h3,(hb.frozen (p:=⟨b,1,none⟩) hN).trans h4,Nat.lt_of_lt_of_le h5 hb.size⟩
theorem ownPu_in8 {w w1:World} {b N:Nat} {p:Pu} (h:OwnPu w b p) (hb:Below N w w1) (hN:b < N):OwnPu w1 b p:=by
  obtain ⟨⟨h0,h1,h2,h3,h4,h5,h6,h7,h8,h9,h10⟩,l⟩:=h
  exact ⟨⟨(hb.cell (p:=⟨b,0,none⟩) hN).trans h0,(hb.cell (p:=⟨b,1,none⟩) hN).trans h1,(hb.cell (p:=⟨b,2,none⟩) hN).trans h2,(hb.cell (p:=⟨b,3,none⟩) hN).trans h3,(hb.cell (p:=⟨b,4,none⟩) hN).trans h4,(hb.cell (p:=⟨b,5,none⟩) hN).trans h5,(hb.cell (p:=⟨b,6,none⟩) hN).trans h6,(hb.cell (p:=⟨b,7,none⟩) hN).trans h7,(hb.cell (p:=⟨b,8,none⟩) hN).trans h8,(hb.cell (p:=⟨b,9,none⟩) hN).trans h9,(hb.cell (p:=⟨b,10,none⟩) hN).trans h10⟩,Nat.lt_of_lt_of_le l hb.size⟩
set_option maxRecDepth 100000 in
set_option maxHeartbeats 4000000 in
theorem rhd_0 (p:Pu) (x:P3) (s tick d:Int) (w:World) (t1:0≤tick) (t2:tick≤2000) (t3:0≤p.2.1) (t4:p.2.1≤1000) (h1:tick - p.2.1 < 1):Calls Tryz.prog 44 #[puv p,ptv x,.int .i64 s,.int .i64 tick,.int .i64 d] w fun e w'=>e=.returned (spr ((0,0),0))∧Below w.heap.size w w':=by
  have P0:=Lib.hid (ownPu_alloc (ownPu_alloc (ownPu_new w p 44) (ptc x 24)) (.cells #[.int .i64 0,.int .i64 0] 29))
  have X0:=Lib.hid (own_alloc (own_new (w.alloc (pub p 44)) x 24) (.cells #[.int .i64 0,.int .i64 0] 29))
  have R0:=Lib.hid (pair_new ((w.alloc (pub p 44)).alloc (ptc x 24)) 0 0 29)
  simp only [World.size_alloc] at X0 R0
  go_enter Tryz.func44,Tryz.ntmps44
  obtain ⟨⟨d0,d1,d2,d3,d4,d5,d6,d7,d8,d9,d10⟩,dl⟩:=P0.out
  obtain ⟨x0,x1,x2⟩:=own_cells X0.out
  obtain ⟨g0,g1,g2,g3,gl⟩:=R0.out
  go_wp2
  refine bodyPost_ret (v:=spr ((0,0),0)) (by rw [results_cell_tmp rfl];go_simp) rfl ⟨rfl,?_⟩
  (repeat' (first | exact Below.refl _ _ | refine Below.setCell ?_ (by simp <;> omega) _ | refine balloc ?_ _ | refine Below.drew ?_ | refine bdrewN ?_ _))
set_option maxRecDepth 100000 in
set_option maxHeartbeats 4000000 in
theorem rhd_1 (p:Pu) (x:P3) (s tick d:Int) (w:World) (K A B:Int) (n:Nat) (L:Nat→P9) (g:P9→Sp.R) (ma mb:Int) (r res:Sp.R) (t1:0≤tick) (t2:tick≤2000) (t3:0≤p.2.1) (t4:p.2.1≤1000) (h1:decide (tick - p.2.1 < 1)=false)
    (HK:Hid (d=0∧K=1∨d=1∧K=2∨d=2∧K=4∨d=3∧K=8)) (HD:Hid (0≤d∧d≤3)) (k1:0≤K * s) (k2:K * s≤128) (hA:K * s * (tick - p.2.1 - 1)=A) (hB:K * s * (tick - p.2.1)=B)
    (a1:0≤A) (a2:A≤256000) (b1:0≤B) (b2:B≤256000) (a3:0≤A * A) (a4:A * A≤65536000000) (b3:0≤B * B) (b4:B * B≤65536000000)
    (TX:BdP 4096 (tim K x)) (hn:n≤64) (n0:0 < n)
    (PP:Hid (∀ W,Calls Tryz.prog 77 #[p9w p.1,.int .i64 d] W fun e w'=>∃ g off cap,e=.returned (.slice (some ⟨g,off,none⟩) n cap)∧RowP w' g off n L∧Below W.heap.size W w'))
    (G:Hid (∀ k,k < n→∀ W,Calls Tryz.prog 78 #[p9w (L k),ptv (tim K x),.int .i64 (A * A),.int .i64 (B * B),.int .i64 K] W fun e w'=>e=.returned (spr (g (L k)))∧Below W.heap.size W w'))
    (MN:Hid (gie g L n=0→∀ u W,World.ownsRow W 0 29 2 u n (svs (gis g L n))→Calls Tryz.prog 79 #[u] W fun e w'=>e=.returned (spr ((ma,mb),0))∧Below W.heap.size W w'))
    (SC:Hid (∀ W,Calls Tryz.prog 27 #[spv ma mb,.int .i64 p.2.2] W fun e w'=>e=.returned (spr r)∧Below W.heap.size W w'))
    (R1:Hid (gie g L n ≠ 0→res=((0,0),gie g L n))) (R2:Hid (gie g L n=0→res=r)):Calls Tryz.prog 44 #[puv p,ptv x,.int .i64 s,.int .i64 tick,.int .i64 d] w fun e w'=>e=.returned (spr res)∧Below w.heap.size w w':=by
  obtain ⟨i0,hi,hz0,hz1,hz2⟩:=info_parts infoSp8
  have HI:=Lib.hid hi
  have HZ0:=Lib.hid hz0
  have HZ1:=Lib.hid hz1
  have HZ2:=Lib.hid hz2
  clear hi hz0 hz1 hz2
  have eA:IntKind.i64.wrap (A * A)=A * A:=IntWalk.i64_in _ (by omega)
  have eB:IntKind.i64.wrap (B * B)=B * B:=IntWalk.i64_in _ (by omega)
  rw [← eA,← eB] at G
  clear eA eB
  obtain ⟨y1,y2,y3,y4,y5,y6⟩:=TX
  have YY:=Lib.hid (own_new (((w.alloc (pub p 44)).alloc (ptc x 24)).alloc (.cells #[.int .i64 0,.int .i64 0] 29)) (tim K x) 24)
  have P0:=Lib.hid (ownPu_alloc (ownPu_alloc (ownPu_new w p 44) (ptc x 24)) (.cells #[.int .i64 0,.int .i64 0] 29))
  have X0:=Lib.hid (own_alloc (own_new (w.alloc (pub p 44)) x 24) (.cells #[.int .i64 0,.int .i64 0] 29))
  have R0:=Lib.hid (pair_new ((w.alloc (pub p 44)).alloc (ptc x 24)) 0 0 29)
  simp only [World.size_alloc] at X0 R0
  go_enter Tryz.func44,Tryz.ntmps44
  obtain ⟨⟨d0,d1,d2,d3,d4,d5,d6,d7,d8,d9,d10⟩,dl⟩:=P0.out
  obtain ⟨x0,x1,x2⟩:=own_cells X0.out
  obtain ⟨g0,g1,g2,g3,gl⟩:=R0.out
  go_upto_region 4 with fail
  go_cut [13] (fun v wx=>v=.int .i64 K∧wx=((w.alloc (pub p 44)).alloc (ptc x 24)).alloc (.cells #[.int .i64 0,.int .i64 0] 29))
  case first =>
    rcases HK.out with ⟨rfl,rfl⟩ | ⟨rfl,rfl⟩ | ⟨rfl,rfl⟩ | ⟨rfl,rfl⟩
    all_goals
      go_wp2
      go_meet
      exact ⟨rfl,rfl⟩
  case rest =>
    obtain ⟨rfl,rfl⟩:=hcut
    have Y0:=Lib.hid (own_new (((w.alloc (pub p 44)).alloc (ptc x 24)).alloc (.cells #[.int .i64 0,.int .i64 0] 29)) (tim K x) 24)
    simp only [World.size_alloc] at Y0
    have y1':-4096≤K * x.1:=y1
    have y2':K * x.1≤4096:=y2
    have y3':-4096≤K * x.2.1:=y3
    have y4':K * x.2.1≤4096:=y4
    have y5':-4096≤K * x.2.2:=y5
    have y6':K * x.2.2≤4096:=y6
    go_wp2_with (go_at_call 77;refine (PP.out _).mono ?_;rintro e w2 ⟨gb,off,cap,rfl,hrow,hb2⟩)
    have Y2:=Lib.hid (own_below Y0.out hb2)
    have P2:=Lib.hid (ownPu_below (ownPu_alloc P0.out (ptc (tim K x) 24)) hb2)
    have Q2:=Lib.hid (pair_below (pair_alloc R0.out (ptc (tim K x) 24)) hb2)
    have B2:=Lib.hid (show Below w.heap.size w w2 by (repeat' (first | exact Below.refl _ _ | refine bstep ?_ hb2 | refine Below.setCell ?_ (by simp <;> omega) _ | refine balloc ?_ _ | refine Below.drew ?_ | refine bdrewN ?_ _)))
    have R:=Lib.hid hrow
    have hgb:gb < w2.heap.size:=hrow.1
    have hn':(n:Int)≤64:=by omega
    have sz2:w.heap.size + 1 + 1 + 1 < w2.heap.size:=Y2.out.2.2.2.2.2.2
    clear hb2 hrow d0 d1 d2 d3 d4 d5 d6 d7 d8 d9 d10 dl x0 x1 x2 g0 g1 g2 g3 gl P0 X0 R0 Y0 y1' y2' y3' y4' y5' y6' y1 y2 y3 y4 y5 y6 hA hB
    go_loopw [18,19] (fun sv kv wr=>∃ k:Nat,k≤n∧kv=.int .i64 k∧gie g L k=0∧wr.ownsRow w2.heap.size 29 2 sv k (svs (gis g L k))∧Below w2.heap.size w2 wr) (fun _ kv _=>n - (intOf kv).toNat)
    case atStart=>exact ⟨0,Nat.zero_le _,rfl,rfl,World.ownsRow_nil _ _ _ _,Below.refl _ _⟩
    case round =>
      obtain ⟨k,hk,rfl,good,how,hbb⟩:=hrel
      have GOOD:=Lib.hid good
      have ROW:=Lib.hid how
      have BB:=Lib.hid hbb
      clear good how hbb
      have szw:=BB.out.size
      by_cases hlt:k < n
      · have hk1:(k:Int) < (n:Int):=by omega
        have RR:=Lib.hid (rowP_in R.out BB.out hgb)
        have YY:=Lib.hid (own_in' Y2.out BB.out sz2)
        have GK:=Lib.hid (G.out k hlt)
        have HIT:=Lib.hid (fun h:(g (L k)).2 ≠ 0=>gie_hit hlt GOOD.out h)
        have NEXT:=Lib.hid (fun h:(g (L k)).2=0=>gie_next GOOD.out h)
        have GS:=Lib.hid (show gis g L (k + 1)=gis g L k ++ [(g (L k)).1] from rfl)
        have hbl:gb < wr.heap.size:=RR.out.1
        obtain ⟨t,ht⟩:∃ t,L k=t:=⟨_,rfl⟩
        rw [ht] at GK HIT NEXT GS
        generalize g t=gr at *
        go_upto_region 12 with fail
        go_cut [20,21] (fun t20 t21 wx=>∃ b8:Nat,t20=.pointer (some ⟨b8,0,none⟩)∧t21=.int .i64 gr.2∧Pair wx b8 gr.1.1 gr.1.2∧Below wr.heap.size wr wx)
        case first =>
          have j0:=own_drew YY.out
          have j1:=rowP_in RR.out (Below.drew (Below.refl wr.heap.size wr)) hbl
          go_region_held3 (fun w'=>w'.cell? ⟨w.heap.size + 1 + 1 + 1,0,none⟩=some (.int .i64 (tim K x).1)∧w'.cell? ⟨w.heap.size + 1 + 1 + 1,1,none⟩=some (.int .i64 (tim K x).2.1)∧w'.cell? ⟨w.heap.size + 1 + 1 + 1,2,none⟩=some (.int .i64 (tim K x).2.2)∧w'.cell? ⟨gb,off + k * 9,none⟩=some (.int .i64 t.1.1)∧w'.cell? ⟨gb,off + k * 9 + 1,none⟩=some (.int .i64 t.1.2.1)∧w'.cell? ⟨gb,off + k * 9 + 1 + 1,none⟩=some (.int .i64 t.1.2.2)∧w'.cell? ⟨gb,off + k * 9 + 1 + 1 + 1,none⟩=some (.int .i64 t.2.1.1)∧w'.cell? ⟨gb,off + k * 9 + 1 + 1 + 1 + 1,none⟩=some (.int .i64 t.2.1.2.1)∧w'.cell? ⟨gb,off + k * 9 + 1 + 1 + 1 + 1 + 1,none⟩=some (.int .i64 t.2.1.2.2)∧w'.cell? ⟨gb,off + k * 9 + 1 + 1 + 1 + 1 + 1 + 1,none⟩=some (.int .i64 t.2.2.1)∧w'.cell? ⟨gb,off + k * 9 + 1 + 1 + 1 + 1 + 1 + 1 + 1,none⟩=some (.int .i64 t.2.2.2.1)∧w'.cell? ⟨gb,off + k * 9 + 1 + 1 + 1 + 1 + 1 + 1 + 1 + 1,none⟩=some (.int .i64 t.2.2.2.2))
            (first | (refine rsh_keep j0 j1 hlt ht) | (refine rsh_keep q0 q1 hlt ht) | (refine rsh_keep (own_drew (own_alloc YY.out _)) (rowP_in RR.out (Below.drew ((Below.refl _ _).alloc (Nat.le_refl _) _)) hbl) hlt ht) | (refine rsh_keep (own_alloc q0 _) (rowP_in q1 ((Below.refl v0.heap.size v0).alloc (Nat.le_refl _) _) q1.1) hlt ht) | (refine rsh_keep (own_in' q0 (((Below.refl wr.heap.size v0).setCell (p:=⟨wr.heap.size,0,none⟩) (Nat.le_refl _) _).setCell (p:=⟨wr.heap.size,1,none⟩) (Nat.le_refl _) _) (by omega)) (rowP_in q1 (((Below.refl wr.heap.size v0).setCell (p:=⟨wr.heap.size,0,none⟩) (Nat.le_refl _) _).setCell (p:=⟨wr.heap.size,1,none⟩) (Nat.le_refl _) _) hbl) hlt ht) | fail)
            (first | (go_at_call 78;(with_reducible refine (GK.out _).mono ?_);rintro e v0 ⟨rfl,hv0⟩;(first | (have q0:=own_below j0 hv0;have q1:=rowP_in j1 hv0 hbl;have sz0:wr.heap.size≤v0.heap.size:=hv0.size) | (have q0:=own_below (own_drew (own_alloc YY.out _)) hv0;have q1:=rowP_in RR.out ((Below.drew ((Below.refl _ _).alloc (Nat.le_refl _) _)).trans (hv0.mono (by simp))) hbl;have sz0:wr.heap.size + 1≤v0.heap.size:=(by have:=hv0.size;simp at this;omega);have pz:=pair_below (pair_drew' (pair_new wr 0 0 29)) hv0;obtain ⟨za,zb,zc,zd,ze⟩:=id pz))) | fail)
          all_goals
            go_wp2
            go_meet
            first
              | exact ⟨_,rfl,rfl,pair_new _ _ _ _,by (repeat' (first | exact Below.refl _ _ | refine bstep ?_ hv0 | refine Below.setCell ?_ (by simp <;> omega) _ | refine balloc ?_ _ | refine Below.drew ?_))⟩
              | exact ⟨_,rfl,rfl,pair_put8 pz _ _,by (repeat' (first | exact Below.refl _ _ | refine bstep ?_ hv0 | refine Below.setCell ?_ (by simp <;> omega) _ | refine balloc ?_ _ | refine Below.drew ?_))⟩
        case rest =>
          obtain ⟨b8,rfl,rfl,hP,hB8⟩:=hcut
          have Bc:=Lib.hid (BB.out.trans (hB8.mono szw))
          have ROWc:=Lib.hid (own_below9 ROW.out hB8)
          obtain ⟨p0,p1,p2,p3,p4⟩:=hP
          have hszc:w2.heap.size≤wc.heap.size:=Nat.le_trans szw hB8.size
          clear hB8 BB ROW RR YY GK
          obtain ⟨⟨u,v⟩,z⟩:=gr
          dsimp only at *
          by_cases z0:z=0
          · subst z0
            have NX:=Lib.hid (NEXT.out (by first | rfl | trivial))
            clear HIT NEXT
            go_wp2_with (at_builtin;(refine wpList_append_own _ rfl _ _ 60 rfl w2.heap.size 29 i0 (.agg #[.int .i64 0,.int .i64 0]) 2 16 Tryz.underlying60 HI.out HZ0.out HZ1.out HZ2.out rfl (by decide) _ k (svs (gis g L k)) rfl (ROWc.out.alloc _) ⟨wc.heap.size,0,none⟩ 1 1 [.int .i64 u,.int .i64 v] rfl rfl (sp2_new _ _ _ _) (by intro u hu;simp at hu;rcases hu with rfl | rfl <;> rfl) (by unfold maxLen;omega) (by omega) (by simp;omega) ?_);intro v' w5 hown' hgrow _;have OW:=Lib.hid hown';have GR:=Lib.hid hgrow;clear hown' hgrow)
            have BG:=Lib.hid (Bc.out.trans (((Below.refl w2.heap.size wc).alloc (by omega) _).grown GR.out (by simp;omega) (fun gg hg=>(ROWc.out.lt gg hg).1)))
            go_roundw
            case rel=>exact ⟨k + 1,by omega,by go_num,NX.out,by rw [GS.out,← svs_snoc];exact OW.out,BG.out⟩
            case measure=>simp [intOf];omega
          · have z1:(z != 0)=true:=bne_iff_ne.2 z0
            have hf:res=((0,0),z):=by
              have hh:=HIT.out z0
              rw [← hh]
              exact R1.out (by rw [hh];exact z0)
            subst hf
            obtain ⟨c0,c1,c2,c3,c4⟩:=pair_in Q2.out Bc.out (by omega)
            clear HIT NEXT
            go_wp2
            refine bodyPost_ret (v:=spr ((0,0),z)) (by rw [results_cell_tmp rfl];go_simp) rfl ⟨rfl,?_⟩
            refine Below.setCell (Below.setCell (B2.out.trans (Bc.out.mono B2.out.size)) ?_ _) ?_ _ <;> (show w.heap.size≤w.heap.size + 1 + 1;exact Nat.le_add_right_of_le (Nat.le_add_right _ _))
      · obtain rfl:k=n:=by omega
        have hf:=R2.out GOOD.out
        subst hf
        have MN0:=Lib.hid (MN.out GOOD.out)
        have UV:=Lib.hid (own_base9 ROW.out (Nat.zero_le _))
        have P3:=Lib.hid (ownPu_below (ownPu_below P2.out (Below.refl _ _)) (Below.refl _ _))
        have P4:=Lib.hid (show OwnPu wr w.heap.size p from ownPu_in8 P2.out BB.out (by omega))
        have Q4:=Lib.hid (pair_in Q2.out BB.out (by omega))
        clear P3 G HI HZ0 HZ1 HZ2 ROW P2 Q2 Y2 R1 R2 GOOD MN
        go_wp2_with fail
        refine (MN0.out _ _ UV.out).mono ?_
        rintro e w5 ⟨rfl,hb5⟩
        have Q5:=Lib.hid (pair_below (pair_alloc (pair_below Q4.out hb5) (.cells #[.int .i64 ma,.int .i64 mb] 29)) (Below.refl _ _))
        obtain ⟨e0,e1,e2,e3,el⟩:=pair_new w5 ma mb 29
        obtain ⟨⟨d0,d1,d2,d3,d4,d5,d6,d7,d8,d9,d10⟩,dl⟩:=ownPu_alloc (ownPu_below P4.out hb5) (.cells #[.int .i64 ma,.int .i64 mb] 29)
        go_wp2_with fail
        refine (SC.out _).mono ?_
        rintro e w6 ⟨rfl,hb6⟩
        clear d0 d1 d2 d3 d4 d5 d6 d7 d8 d9 d10 dl e0 e1 e2 e3 el
        obtain ⟨c0,c1,c2,c3,c4⟩:=pair_below Q5.out hb6
        go_wp2
        refine bodyPost_ret (v:=spr res) (by rw [results_cell_tmp rfl];go_simp) rfl ⟨rfl,?_⟩
        refine Below.setCell (Below.setCell ((B2.out.trans (BB.out.mono B2.out.size)).trans ((hb5.trans ((((Below.refl w5.heap.size w5).alloc (Nat.le_refl _) _).trans (hb6.mono (by simp))).mono hb5.size)).mono (Nat.le_trans B2.out.size BB.out.size))) ?_ _) ?_ _ <;> (show w.heap.size≤w.heap.size + 1 + 1;exact Nat.le_add_right_of_le (Nat.le_add_right _ _))
end Go.Proofs.YtciimaojoococaaGreat
namespace Go.Proofs.YtciimaojoococaaGreat
open Go.ChangeShapes Go.WideShapes Go.RowKit
open Sh
theorem rmean8_any (b off n cap:Nat) (l h:Nat→Int) (w:World) (r:Row w b off n l h) (hm:n≤1000) :
    Calls Tryz.prog 79 #[.slice (some ⟨b,off,none⟩) n cap] w fun e w'=>e=.returned (spr (mnR8 l h n))∧Below w.heap.size w w':=by
  unfold mnR8
  rcases first_bad8 (fun k=>Sp.vldB (l k) (h k)) n with v | ⟨k0,hk,nv,v⟩
  · rw [if_pos (all_yes v)]
    have bd1:=sm_bd (f:=l) (k:=n) (fun i hi=>by have:=Sp.vld_iff.1 (v i hi);omega)
    have bd2:=sm_bd (f:=h) (k:=n) (fun i hi=>by have:=Sp.vld_iff.1 (v i hi);omega)
    have T1:TotC 58 (some ⟨b,off,none⟩) n cap (sm l n) (sm h n) 0 w:=fun W B=>rtotal_ok b off n cap l h W (row_below r B) (by omega) v
    have S1:Sm (sm l n) (n:Int):=⟨by omega,by omega,by omega,by omega⟩
    have S2:Sm (sm h n) (n:Int):=⟨by omega,by omega,by omega,by omega⟩
    exact rmean_any _ n cap _ _ 0 w w (Lib.hid T1) (Below.refl _ _) (by omega) (Lib.hid S1) (Lib.hid S2)
  · rw [if_neg (all_no hk nv)]
    have T1:TotC 58 (some ⟨b,off,none⟩) n cap 0 0 1 w:=fun W B=>rtotal_bad b off n cap k0 l h W (row_below r B) (by omega) hk v nv
    have S1:Sm 0 (n:Int):=⟨by omega,by omega,by omega,by omega⟩
    exact rmean_any _ n cap 0 0 1 w w (Lib.hid T1) (Below.refl _ _) (by omega) (Lib.hid S1) (Lib.hid S1)
theorem scl_k {d:Int} (d1:0≤d) (d2:d≤3):d=0∧scl d=1∨d=1∧scl d=2∨d=2∧scl d=4∨d=3∧scl d=8:=by
  have:d=0∨d=1∨d=2∨d=3:=by omega
  rcases this with rfl | rfl | rfl | rfl
  · exact Or.inl ⟨rfl,by decide⟩
  · exact Or.inr (Or.inl ⟨rfl,by decide⟩)
  · exact Or.inr (Or.inr (Or.inl ⟨rfl,by decide⟩))
  · exact Or.inr (Or.inr (Or.inr ⟨rfl,by decide⟩))
theorem ptn_le {d:Int} (d1:0≤d) (d2:d≤3):ptn d≤64:=by
  unfold ptn
  have:d.toNat=0∨d.toNat=1∨d.toNat=2∨d.toNat=3:=by omega
  rcases this with e | e | e | e <;> rw [e] <;> decide
theorem far_le {x:P3} {d:Int} {t:P9} (hx:BdP 256 x) (d1:0≤d) (d2:d≤3) (ht:BdT 512 t):farN t (tim (scl d) x)≤19660800:=by
  have s8:=scl_k d1 d2
  have hc:BdP 2048 (tim (scl d) x):=(tim_bd (K:=8) (by omega) (by omega) hx).mono (by decide)
  have key:∀ u:P3,BdP 512 u→sq (sub u (tim (scl d) x))≤19660800:=fun u hu=>by
    obtain ⟨a1,a2,a3,a4,a5,a6⟩:=(sub_bd hu hc).mono (B:=2560) (by decide)
    have e1:=mul_bd (x:=(sub u (tim (scl d) x)).1) (y:=(sub u (tim (scl d) x)).1) (A:=2560) (B:=2560) a1 a2 a1 a2
    have e2:=mul_bd (x:=(sub u (tim (scl d) x)).2.1) (y:=(sub u (tim (scl d) x)).2.1) (A:=2560) (B:=2560) a3 a4 a3 a4
    have e3:=mul_bd (x:=(sub u (tim (scl d) x)).2.2) (y:=(sub u (tim (scl d) x)).2.2) (A:=2560) (B:=2560) a5 a6 a5 a6
    show (sub u (tim (scl d) x)).1 * (sub u (tim (scl d) x)).1 + (sub u (tim (scl d) x)).2.1 * (sub u (tim (scl d) x)).2.1 + (sub u (tim (scl d) x)).2.2 * (sub u (tim (scl d) x)).2.2≤_
    omega
  have k1:=key _ ht.1
  have k2:=key _ ht.2.1
  have k3:=key _ ht.2.2
  unfold farN hi3'
  simp only [Sp.mx_eq]
  omega
theorem rhd_any (x:P3) (s d:Int) (p:Pu) (tick:Int) (w:World) (hp:pucode p=0) (hx:BdP 256 x) (s1:1≤s) (s2:s≤16) (d1:0≤d) (d2:d≤3) (t1:0≤tick) (t2:tick≤2000):Calls Tryz.prog 44 #[puv p,ptv x,.int .i64 s,.int .i64 tick,.int .i64 d] w fun e w'=>e=.returned (spr (hdR x s d p tick))∧Below w.heap.size w w':=by
  obtain ⟨hb,hpc,⟨a1,a2⟩,q1,q2⟩:=pucode_ok hp
  by_cases h1:tick≤p.2.1
  · have e:hdR x s d p tick=((0,0),0):=by unfold hdR;rw [if_pos h1]
    rw [e]
    exact rhd_0 p x s tick d w t1 t2 a1 a2 (by omega)
  have s8:=scl_k d1 d2
  have bb:=sh_bd (K:=scl d) (by omega) (by omega) s1 s2 (show 1≤tick - p.2.1 by omega) (by omega)
  have G:∀ k,k < ptn d→gOk (shG x s d (tick - p.2.1) (ptk p.1 d k)):=fun k hk=>shG_ok hx s1 s2 d1 d2 (by omega) (by omega) (ptk_bd hb d1 d2 hk)
  have hlen:(cutP d.toNat p.1).length=ptn d:=cutP_len _ _
  have PP:Hid (∀ W,Calls Tryz.prog 77 #[p9w p.1,.int .i64 d] W fun e w'=>∃ g off cap,e=.returned (.slice (some ⟨g,off,none⟩) (ptn d) cap)∧RowP w' g off (ptn d) (ptk p.1 d)∧Below W.heap.size W w'):=Lib.hid fun W=>by
    have z:=rparts_any d.toNat 64 p.1 W (by omega) hb (by
      have:d.toNat=0∨d.toNat=1∨d.toNat=2∨d.toNat=3:=by omega
      rcases this with e | e | e | e <;> rw [e] <;> decide)
    rw [show ((d.toNat:Nat):Int)=d by omega] at z
    refine z.mono fun e w' h=>?_
    obtain ⟨v,k1,k2,k3⟩:=h
    obtain ⟨g,off,cap,rfl,hr⟩:=own_row9 k2 hlen (ptn_pos d)
    exact ⟨g,off,cap,k1,hr,k3⟩
  have GG:Hid (∀ k,k < ptn d→∀ W,Calls Tryz.prog 78 #[p9w (ptk p.1 d k),ptv (tim (scl d) x),.int .i64 (scl d * s * (tick - p.2.1 - 1) * (scl d * s * (tick - p.2.1 - 1))),.int .i64 (scl d * s * (tick - p.2.1) * (scl d * s * (tick - p.2.1))),.int .i64 (scl d)] W fun e w'=>e=.returned (spr (shG x s d (tick - p.2.1) (ptk p.1 d k)))∧Below W.heap.size W w'):=Lib.hid fun k hk W=>by
    have hf:=far_le hx d1 d2 (ptk_bd hb d1 d2 hk)
    have hn:=near_far (ptk p.1 d k) (tim (scl d) x)
    exact share_any (tim (scl d) x) _ _ (scl d) (ptk p.1 d k) W ((ptk_bd hb d1 d2 hk).mono (by decide)) ((tim_bd (K:=8) (by omega) (by omega) hx).mono (by decide)) bb.2.2.2.1.1 (by have:=bb.2.2.2.1.2;omega) (by omega) (by omega) (by omega) (by omega)
  have key:gie (shG x s d (tick - p.2.1)) (ptk p.1 d) (ptn d)=0→∀ k,k < ptn d→0≤((gis (shG x s d (tick - p.2.1)) (ptk p.1 d) (ptn d)).getD k (0,0)).1∧((gis (shG x s d (tick - p.2.1)) (ptk p.1 d) (ptn d)).getD k (0,0)).1≤((gis (shG x s d (tick - p.2.1)) (ptk p.1 d) (ptn d)).getD k (0,0)).2∧((gis (shG x s d (tick - p.2.1)) (ptk p.1 d) (ptn d)).getD k (0,0)).2≤8388609:=fun z k hk=>by
    rw [gis_at hk]
    have e:=gie_all z k hk
    rcases G k hk with y | y
    · rw [y] at e;cases e
    · exact y.2
  have TX:BdP 4096 (tim (scl d) x):=(tim_bd (K:=8) (by omega) (by omega) hx).mono (by decide)
  rcases gie_or G with z | z
  · obtain ⟨m1,m2,m3,m4⟩:=mn8_ok (ptn_pos d) (key z)
    have MN:Hid (∀ u W,World.ownsRow W 0 29 2 u (ptn d) (svs (gis (shG x s d (tick - p.2.1)) (ptk p.1 d) (ptn d)))→Calls Tryz.prog 79 #[u] W fun e w'=>e=.returned (spr (mnR8 (fun k=>((gis (shG x s d (tick - p.2.1)) (ptk p.1 d) (ptn d)).getD k (0,0)).1) (fun k=>((gis (shG x s d (tick - p.2.1)) (ptk p.1 d) (ptn d)).getD k (0,0)).2) (ptn d)))∧Below W.heap.size W w'):=Lib.hid fun u W ho=>by
      obtain ⟨g,cap,rfl⟩:=own_slice8 ho (ptn_pos d)
      exact rmean8_any g 0 (ptn d) cap _ _ W (row_of8 ho (gis_len _ _ _)) (by have:=ptn_le d1 d2;omega)
    have e:hdR x s d p tick=scaleR (mnR8 (fun k=>((gis (shG x s d (tick - p.2.1)) (ptk p.1 d) (ptn d)).getD k (0,0)).1) (fun k=>((gis (shG x s d (tick - p.2.1)) (ptk p.1 d) (ptn d)).getD k (0,0)).2) (ptn d)).1.1 (mnR8 (fun k=>((gis (shG x s d (tick - p.2.1)) (ptk p.1 d) (ptn d)).getD k (0,0)).1) (fun k=>((gis (shG x s d (tick - p.2.1)) (ptk p.1 d) (ptn d)).getD k (0,0)).2) (ptn d)).1.2 p.2.2:=by
      unfold hdR
      rw [if_neg h1,if_neg (show ¬ (gie (shG x s d (tick - p.2.1)) (ptk p.1 d) (ptn d) ≠ 0) from fun c=>c z)]
      dsimp only
      rw [if_neg (fun c=>c m1)]
    rw [e]
    clear e key m2 m3 m4
    generalize mnR8 (fun k=>((gis (shG x s d (tick - p.2.1)) (ptk p.1 d) (ptn d)).getD k (0,0)).1) (fun k=>((gis (shG x s d (tick - p.2.1)) (ptk p.1 d) (ptn d)).getD k (0,0)).2) (ptn d)=m at *
    obtain ⟨⟨ma,mb⟩,mc⟩:=m
    have m1:mc=0:=m1
    subst m1
    exact rhd_1 p x s tick d w (scl d) _ _ (ptn d) (ptk p.1 d) (shG x s d (tick - p.2.1)) ma mb _ _ t1 t2 a1 a2 (decide_eq_false (by omega)) (Lib.hid s8) (Lib.hid ⟨d1,d2⟩) (by omega) bb.1.2 rfl rfl bb.2.1.1 bb.2.1.2 bb.2.2.1.1 bb.2.2.1.2 bb.2.2.2.1.1 bb.2.2.2.1.2 bb.2.2.2.2.1 bb.2.2.2.2.2 TX (ptn_le d1 d2) (ptn_pos d) PP GG (Lib.hid fun _=>MN.out) (Lib.hid fun W=>rscale_any ma mb p.2.2 W) (Lib.hid fun c=>absurd z c) (Lib.hid fun _=>rfl)
  · have z0:gie (shG x s d (tick - p.2.1)) (ptk p.1 d) (ptn d) ≠ 0:=by rw [z];decide
    have e:hdR x s d p tick=((0,0),gie (shG x s d (tick - p.2.1)) (ptk p.1 d) (ptn d)):=by
      unfold hdR
      rw [if_neg h1,if_pos z0]
    exact rhd_1 p x s tick d w (scl d) _ _ (ptn d) (ptk p.1 d) (shG x s d (tick - p.2.1)) 0 0 _ _ t1 t2 a1 a2 (decide_eq_false (by omega)) (Lib.hid s8) (Lib.hid ⟨d1,d2⟩) (by omega) bb.1.2 rfl rfl bb.2.1.1 bb.2.1.2 bb.2.2.1.1 bb.2.2.1.2 bb.2.2.2.1.1 bb.2.2.2.1.2 bb.2.2.2.2.1 bb.2.2.2.2.2 TX (ptn_le d1 d2) (ptn_pos d) PP GG (Lib.hid fun c=>absurd c z0) (Lib.hid fun W=>rscale_any 0 0 p.2.2 W) (Lib.hid fun _=>e) (Lib.hid fun c=>absurd c z0)
end Go.Proofs.YtciimaojoococaaGreat
namespace Go.Proofs.YtciimaojoococaaGreat
open Go.ChangeShapes Go.WideShapes Go.RowKit
open Sh
def gsN (g:Nat→Sp.R):Nat→List (Int × Int)
  | 0=>[]
  | k + 1=>gsN g k ++ [(g k).1]
theorem gsN_len (g:Nat→Sp.R):∀ k,(gsN g k).length=k
  | 0=>rfl
  | k + 1=>by show (gsN g k ++ [_]).length=_;rw [List.length_append,gsN_len g k];rfl
def geN (g:Nat→Sp.R):Nat→Int
  | 0=>0
  | k + 1=>if geN g k=0 then (g k).2 else geN g k
theorem geN_stop {g:Nat→Sp.R} {k:Nat} (h:geN g k ≠ 0):∀ {n:Nat},k≤n→geN g n=geN g k
  | 0,hn=>by
    have:k=0:=by omega
    subst this;rfl
  | n + 1,hn=>by
    by_cases e:k=n + 1
    · subst e;rfl
    · have z:=geN_stop h (n:=n) (by omega)
      show (if geN g n=0 then _ else _)=_
      rw [z,if_neg h]
theorem geN_hit {g:Nat→Sp.R} {k n:Nat} (hk:k < n) (e:geN g k=0) (h:(g k).2 ≠ 0):geN g n=(g k).2:=by
  have q:geN g (k + 1)=(g k).2:=by
    show (if geN g k=0 then _ else _)=_
    rw [if_pos e]
  rw [geN_stop (k:=k + 1) (by rw [q];exact h) (by omega),q]
theorem geN_next {g:Nat→Sp.R} {k:Nat} (e:geN g k=0) (h:(g k).2=0):geN g (k + 1)=0:=by
  show (if geN g k=0 then _ else _)=_
  rw [if_pos e,h]
def smR8 (l h:Nat→Int) (n:Nat):Sp.R:=if (List.range n).all (fun k=>Sp.vldB (l k) (h k))=true then sumR (sm l n) (sm h n) 0 else ((0,0),1)
def sceR (g:Nat→Sp.R) (n:Nat):Sp.R:=if geN g n ≠ 0 then ((0,0),geN g n) else smR8 (fun k=>((gsN g n).getD k (0,0)).1) (fun k=>((gsN g n).getD k (0,0)).2) n
theorem sum8_row (b off n cap:Nat) (l h:Nat→Int) (w:World) (r:Row w b off n l h) (hm:n≤1000) :
    Calls Tryz.prog 40 #[.slice (some ⟨b,off,none⟩) n cap] w fun e w'=>e=.returned (spr (smR8 l h n))∧Below w.heap.size w w':=by
  unfold smR8
  rcases first_bad8 (fun k=>Sp.vldB (l k) (h k)) n with v | ⟨k0,hk,nv,v⟩
  · rw [if_pos (all_yes v)]
    have T1:TotC 73 (some ⟨b,off,none⟩) n cap (sm l n) (sm h n) 0 w:=fun W B=>total_ok b off n cap l h W (row_below r B) (by omega) v
    exact sum_any _ n cap _ _ 0 w w (Lib.hid T1) (Below.refl _ _)
  · rw [if_neg (all_no hk nv)]
    have T1:TotC 73 (some ⟨b,off,none⟩) n cap 0 0 1 w:=fun W B=>total_bad b off n cap k0 l h W (row_below r B) (by omega) hk v nv
    exact sum_any _ n cap 0 0 1 w w (Lib.hid T1) (Below.refl _ _)
theorem sum8_own (u:Value) (n:Nat) (l:List (Int × Int)) (w:World) (h:w.ownsRow 0 29 2 u n (svs l)) (hl:l.length=n) (hm:n≤1000) :
    Calls Tryz.prog 40 #[u] w fun e w'=>e=.returned (spr (smR8 (fun k=>(l.getD k (0,0)).1) (fun k=>(l.getD k (0,0)).2) n))∧Below w.heap.size w w':=by
  rcases Nat.eq_zero_or_pos n with h0 | h0
  · subst h0
    have key:∃ a c,u=.slice a 0 c:=by
      rcases h.2 with ⟨e,_⟩ | ⟨g,cap,cur,e,_⟩
      · exact ⟨none,0,e⟩
      · exact ⟨_,cap,e⟩
    obtain ⟨a,c,rfl⟩:=key
    have T1:TotC 73 a 0 c 0 0 0 w:=fun W B=>total_zero a c W
    exact sum_any a 0 c 0 0 0 w w (Lib.hid T1) (Below.refl _ _)
  · obtain ⟨g,cap,rfl⟩:=own_slice8 h h0
    exact sum8_row g 0 n cap _ _ w (row_of8 h hl) hm
theorem rsum8_row (b off n cap:Nat) (l h:Nat→Int) (w:World) (r:Row w b off n l h) (hm:n≤1000) :
    Calls Tryz.prog 28 #[.slice (some ⟨b,off,none⟩) n cap] w fun e w'=>e=.returned (spr (smR8 l h n))∧Below w.heap.size w w':=by
  unfold smR8
  rcases first_bad8 (fun k=>Sp.vldB (l k) (h k)) n with v | ⟨k0,hk,nv,v⟩
  · rw [if_pos (all_yes v)]
    have T1:TotC 58 (some ⟨b,off,none⟩) n cap (sm l n) (sm h n) 0 w:=fun W B=>rtotal_ok b off n cap l h W (row_below r B) (by omega) v
    exact rsum_any _ n cap _ _ 0 w w (Lib.hid T1) (Below.refl _ _)
  · rw [if_neg (all_no hk nv)]
    have T1:TotC 58 (some ⟨b,off,none⟩) n cap 0 0 1 w:=fun W B=>rtotal_bad b off n cap k0 l h W (row_below r B) (by omega) hk v nv
    exact rsum_any _ n cap 0 0 1 w w (Lib.hid T1) (Below.refl _ _)
theorem rsum8_own (u:Value) (n:Nat) (l:List (Int × Int)) (w:World) (h:w.ownsRow 0 29 2 u n (svs l)) (hl:l.length=n) (hm:n≤1000) :
    Calls Tryz.prog 28 #[u] w fun e w'=>e=.returned (spr (smR8 (fun k=>(l.getD k (0,0)).1) (fun k=>(l.getD k (0,0)).2) n))∧Below w.heap.size w w':=by
  rcases Nat.eq_zero_or_pos n with h0 | h0
  · subst h0
    have key:∃ a c,u=.slice a 0 c:=by
      rcases h.2 with ⟨e,_⟩ | ⟨g,cap,cur,e,_⟩
      · exact ⟨none,0,e⟩
      · exact ⟨_,cap,e⟩
    obtain ⟨a,c,rfl⟩:=key
    have T1:TotC 58 a 0 c 0 0 0 w:=fun W B=>rtotal_zero a c W
    exact rsum_any a 0 c 0 0 0 w w (Lib.hid T1) (Below.refl _ _)
  · obtain ⟨g,cap,rfl⟩:=own_slice8 h h0
    exact rsum8_row g 0 n cap _ _ w (row_of8 h hl) hm
theorem sp2_new' (w:World) (b:Nat) (x y:Int) (t:TypeId) (hb:b=w.heap.size):∀ j u,([.int .i64 x,.int .i64 y]:List Value)[j]?=some u→(w.alloc (.cells #[.int .i64 x,.int .i64 y] t)).cell? ((⟨b,0,none⟩:Addr).add j)=some u:=by
  subst hb
  exact sp2_new w x y t
theorem ownMic_in8 {w w1:World} {b N:Nat} {x:P3} {s d:Int} (h:OwnMic w b x s d) (hb:Below N w w1) (hN:b < N):OwnMic w1 b x s d:=by
  obtain ⟨⟨h0,h1,h2,h3,h4⟩,l⟩:=h
  exact ⟨⟨(hb.cell (p:=⟨b,0,none⟩) hN).trans h0,(hb.cell (p:=⟨b,1,none⟩) hN).trans h1,(hb.cell (p:=⟨b,2,none⟩) hN).trans h2,(hb.cell (p:=⟨b,3,none⟩) hN).trans h3,(hb.cell (p:=⟨b,4,none⟩) hN).trans h4⟩,Nat.lt_of_lt_of_le l hb.size⟩
theorem pair_set2 {N:Nat} {u w:World} {b:Nat} {x y:Value} (h:Below N u w) (k:N≤b):Below N u ((w.setCell ⟨b,0,none⟩ x).setCell ⟨b,1,none⟩ y):=(h.setCell k _).setCell k _
set_option maxRecDepth 100000 in
set_option maxHeartbeats 4000000 in
theorem sce_walk (x:P3) (s d tick:Int) (a:Option Addr) (n c:Nat) (Q:Nat→Pu) (w:World) (g:Nat→Sp.R) (r res:Sp.R) (rr:LstU w a n Q) (hn:n≤60)
    (G:Hid (∀ k,k < n→∀ W,Calls Tryz.prog 38 #[micv x s d,puv (Q k),.int .i64 tick] W fun e w'=>e=.returned (spr (g k))∧Below W.heap.size W w'))
    (R1:Hid (geN g n ≠ 0→res=((0,0),geN g n))) (R2:Hid (geN g n=0→res=r)) (SM:Hid (geN g n=0→∀ u W,World.ownsRow W 0 29 2 u n (svs (gsN g n))→Calls Tryz.prog 40 #[u] W fun e w'=>e=.returned (spr r)∧Below W.heap.size W w')):Calls Tryz.prog 19 #[micv x s d,.slice a n c,.int .i64 tick] w fun e w'=>e=.returned (spr res)∧Below w.heap.size w w':=by
  obtain ⟨i0,hi,hz0,hz1,hz2⟩:=info_parts infoSp8
  have HI:=Lib.hid hi
  have HZ0:=Lib.hid hz0
  have HZ1:=Lib.hid hz1
  have HZ2:=Lib.hid hz2
  clear hi hz0 hz1 hz2
  have hn':(n:Int)≤60:=by omega
  have RR:=Lib.hid rr
  have M0:=Lib.hid (ownMic_alloc (ownMic_new w x s d 50) (.cells #[.int .i64 0,.int .i64 0] 29))
  have R0:=Lib.hid (pair_new (w.alloc (micb x s d 50)) 0 0 29)
  have B0:=Lib.hid (show Below w.heap.size w ((w.alloc (micb x s d 50)).alloc (.cells #[.int .i64 0,.int .i64 0] 29)) by (repeat' (first | exact Below.refl _ _ | refine Below.setCell ?_ (by simp <;> omega) _ | refine balloc ?_ _ | refine Below.drew ?_ | refine bdrewN ?_ _)))
  simp only [World.size_alloc] at R0
  clear rr
  go_enter Tryz.func19,Tryz.ntmps19
  go_wp2
  have z0:((w.alloc (micb x s d 50)).alloc (.cells #[.int .i64 0,.int .i64 0] 29)).heap.size=w.heap.size + 1 + 1:=by simp
  generalize (w.alloc (micb x s d 50)).alloc (.cells #[.int .i64 0,.int .i64 0] 29)=w2 at *
  have Z0:=Lib.hid z0
  have l0:w.heap.size < w2.heap.size:=by omega
  have l1:w.heap.size + 1 < w2.heap.size:=by omega
  clear z0
  go_loopw [8,15] (fun sv kv wr=>∃ k:Nat,k≤n∧kv=.int .i64 k∧geN g k=0∧wr.ownsRow w2.heap.size 29 2 sv k (svs (gsN g k))∧Below w2.heap.size w2 wr) (fun _ kv _=>n - (intOf kv).toNat)
  case atStart=>exact ⟨0,Nat.zero_le _,rfl,rfl,World.ownsRow_nil _ _ _ _,Below.refl _ _⟩
  case round =>
    obtain ⟨k,hk,rfl,good,how,hbb⟩:=hrel
    have GOOD:=Lib.hid good
    have ROW:=Lib.hid how
    have BB:=Lib.hid hbb
    clear good how hbb
    have szw:=BB.out.size
    by_cases hlt:k < n
    · have hk1:(k:Int) < (n:Int):=by omega
      obtain ⟨b,off,rfl,rw0⟩:=RR.out (show 0 < n by omega)
      have hbl:b < w.heap.size:=rw0.1
      have RB:=Lib.hid (rowU_in (rowU_in rw0 B0.out hbl) BB.out (by omega))
      have MW:=Lib.hid (ownMic_in8 M0.out BB.out l0)
      have GK:=Lib.hid (G.out k hlt)
      have HIT:=Lib.hid (fun h:(g k).2 ≠ 0=>geN_hit hlt GOOD.out h)
      have NEXT:=Lib.hid (fun h:(g k).2=0=>geN_next GOOD.out h)
      have GS:=Lib.hid (show gsN g (k + 1)=gsN g k ++ [(g k).1] from rfl)
      have hbr:b < wr.heap.size:=by omega
      obtain ⟨c0,c1,c2,c3,c4,c5,c6,c7,c8,c9,c10⟩:=RB.out.2 k hlt
      generalize Q k=q at *
      generalize g k=gr at *
      have P3:=Lib.hid (ownPu_new wr q 44)
      have M3:=Lib.hid (ownMic_alloc MW.out (pub q 44))
      have ZB:=Lib.hid (((Below.refl wr.heap.size wr).alloc (Nat.le_refl _) (pub q 44)))
      obtain ⟨⟨m0,m1,m2,m3,m4⟩,ml⟩:=MW.out
      clear rw0 RB MW
      go_wp2_with fail
      refine (GK.out _).mono ?_
      rintro e w5 ⟨rfl,hb5⟩
      obtain ⟨⟨u,v⟩,z⟩:=gr
      dsimp only at *
      have BW:=Lib.hid (BB.out.trans ((ZB.out.trans (hb5.mono (by simp))).mono szw))
      have ROWc:=Lib.hid (own_below9 (own_below9 ROW.out ZB.out) hb5)
      have sz5:=BW.out.size
      clear hb5 ROW c0 c1 c2 c3 c4 c5 c6 c7 c8 c9 c10 m0 m1 m2 m3 m4 ml P3 M3 ZB GK
      obtain ⟨e0,e1,e2,e3,el⟩:=pair_new w5 u v 29
      by_cases z0:z=0
      · subst z0
        have NX:=Lib.hid (NEXT.out (by first | rfl | trivial))
        clear HIT NEXT
        have ROWd:=ROWc
        clear ROWc
        have ROWc:=Lib.hid (ROWd.out.alloc (.cells #[.int .i64 u,.int .i64 v] 29))
        have hm60:k + 1≤60:=by omega
        go_wp2_with (at_builtin;(refine wpList_append_own _ rfl _ _ 60 rfl w2.heap.size 29 i0 (.agg #[.int .i64 0,.int .i64 0]) 2 16 Tryz.underlying60 HI.out HZ0.out HZ1.out HZ2.out rfl (by decide) _ k (svs (gsN g k)) rfl (ROWc.out.alloc _) ⟨_,0,none⟩ 1 1 [.int .i64 u,.int .i64 v] rfl rfl (sp2_new' _ _ _ _ _ (by simp)) (by intro u hu;simp at hu;rcases hu with rfl | rfl <;> rfl) (by unfold maxLen;omega) (by omega) (by simp;omega) ?_);intro v' w7 hown' hgrow _;have OW:=Lib.hid hown';have GR:=Lib.hid hgrow;clear hown' hgrow)
        have BG:=Lib.hid (BW.out.trans ((((Below.refl w2.heap.size w5).alloc (by omega) _).alloc (by simp;omega) _).grown GR.out (by simp;omega) (fun gg hg=>(ROWd.out.lt gg hg).1)))
        go_roundw
        case rel=>exact ⟨k + 1,by omega,by go_num,NX.out,by rw [GS.out,← svs_snoc];exact OW.out,BG.out⟩
        case measure=>simp [intOf];omega
      · have z1:(z != 0)=true:=bne_iff_ne.2 z0
        have hf:res=((0,0),z):=by
          have hh:=HIT.out z0
          rw [← hh]
          exact R1.out (by rw [hh];exact z0)
        subst hf
        obtain ⟨g0,g1,g2,g3,gl⟩:=pair_alloc (pair_in R0.out BW.out l1) (.cells #[.int .i64 u,.int .i64 v] 29)
        clear HIT NEXT
        go_wp2
        refine bodyPost_ret (v:=spr ((0,0),z)) (by rw [results_cell_tmp rfl];go_simp) rfl ⟨rfl,?_⟩
        exact pair_set2 (balloc (B0.out.trans (BW.out.mono B0.out.size)) _) (by show w.heap.size≤w.heap.size + 1;omega)
    · obtain rfl:k=n:=by omega
      have hf:=R2.out GOOD.out
      subst hf
      have UV:=Lib.hid (own_base9 ROW.out (Nat.zero_le _))
      have SM0:=Lib.hid (SM.out GOOD.out)
      have Q4:=Lib.hid (pair_in R0.out BB.out l1)
      clear G HI HZ0 HZ1 HZ2 ROW R1 R2 GOOD SM M0 R0
      go_wp2_with fail
      refine (SM0.out _ _ UV.out).mono ?_
      rintro e w5 ⟨rfl,hb5⟩
      obtain ⟨g0,g1,g2,g3,gl⟩:=pair_below Q4.out hb5
      go_wp2
      refine bodyPost_ret (v:=spr res) (by rw [results_cell_tmp rfl];go_simp) rfl ⟨rfl,?_⟩
      exact pair_set2 ((B0.out.trans (BB.out.mono B0.out.size)).trans (hb5.mono (Nat.le_trans B0.out.size szw))) (by show w.heap.size≤w.heap.size + 1;omega)
theorem rsc_keep {W:World} {b0 b off k n:Nat} {x:P3} {Q:Nat→Pu} {q:Pu} (h:Own W b0 x) (r:RowU W b off n Q) (hk:k < n) (e:Q k=q):W.cell? ⟨b,off + k * 11,none⟩=some (.int .i64 q.1.1.1)∧W.cell? ⟨b,off + k * 11 + 1,none⟩=some (.int .i64 q.1.1.2.1)∧W.cell? ⟨b,off + k * 11 + 1 + 1,none⟩=some (.int .i64 q.1.1.2.2)∧W.cell? ⟨b,off + k * 11 + 1 + 1 + 1,none⟩=some (.int .i64 q.1.2.1.1)∧W.cell? ⟨b,off + k * 11 + 1 + 1 + 1 + 1,none⟩=some (.int .i64 q.1.2.1.2.1)∧W.cell? ⟨b,off + k * 11 + 1 + 1 + 1 + 1 + 1,none⟩=some (.int .i64 q.1.2.1.2.2)∧W.cell? ⟨b,off + k * 11 + 1 + 1 + 1 + 1 + 1 + 1,none⟩=some (.int .i64 q.1.2.2.1)∧W.cell? ⟨b,off + k * 11 + 1 + 1 + 1 + 1 + 1 + 1 + 1,none⟩=some (.int .i64 q.1.2.2.2.1)∧W.cell? ⟨b,off + k * 11 + 1 + 1 + 1 + 1 + 1 + 1 + 1 + 1,none⟩=some (.int .i64 q.1.2.2.2.2)∧W.cell? ⟨b,off + k * 11 + 1 + 1 + 1 + 1 + 1 + 1 + 1 + 1 + 1,none⟩=some (.int .i64 q.2.1)∧W.cell? ⟨b,off + k * 11 + 1 + 1 + 1 + 1 + 1 + 1 + 1 + 1 + 1 + 1,none⟩=some (.int .i64 q.2.2)∧W.cell? ⟨b0,0,none⟩=some (.int .i64 x.1)∧W.cell? ⟨b0,1,none⟩=some (.int .i64 x.2.1)∧W.cell? ⟨b0,2,none⟩=some (.int .i64 x.2.2):=by
  subst e
  obtain ⟨k0,k1,k2,k3,k4,k5,k6,k7,k8,k9,k10⟩:=r.2 k hk
  exact ⟨k0,k1,k2,k3,k4,k5,k6,k7,k8,k9,k10,h.1,h.2.1,h.2.2.1⟩
set_option maxRecDepth 100000 in
set_option maxHeartbeats 4000000 in
theorem rsce_walk (x:P3) (s d tick:Int) (a:Option Addr) (n c:Nat) (Q:Nat→Pu) (w:World) (g:Nat→Sp.R) (r res:Sp.R) (rr:LstU w a n Q) (hn:n≤60)
    (G:Hid (∀ k,k < n→∀ W,Calls Tryz.prog 44 #[puv (Q k),ptv x,.int .i64 s,.int .i64 tick,.int .i64 d] W fun e w'=>e=.returned (spr (g k))∧Below W.heap.size W w'))
    (R1:Hid (geN g n ≠ 0→res=((0,0),geN g n))) (R2:Hid (geN g n=0→res=r)) (SM:Hid (geN g n=0→∀ u W,World.ownsRow W 0 29 2 u n (svs (gsN g n))→Calls Tryz.prog 28 #[u] W fun e w'=>e=.returned (spr r)∧Below W.heap.size W w')):Calls Tryz.prog 22 #[.slice a n c,ptv x,.int .i64 s,.int .i64 tick,.int .i64 d] w fun e w'=>e=.returned (spr res)∧Below w.heap.size w w':=by
  obtain ⟨i0,hi,hz0,hz1,hz2⟩:=info_parts infoSp8
  have HI:=Lib.hid hi
  have HZ0:=Lib.hid hz0
  have HZ1:=Lib.hid hz1
  have HZ2:=Lib.hid hz2
  clear hi hz0 hz1 hz2
  have hn':(n:Int)≤60:=by omega
  have RR:=Lib.hid rr
  have M0:=Lib.hid (own_alloc (own_new w x 24) (.cells #[.int .i64 0,.int .i64 0] 29))
  have R0:=Lib.hid (pair_new (w.alloc (ptc x 24)) 0 0 29)
  have B0:=Lib.hid (show Below w.heap.size w ((w.alloc (ptc x 24)).alloc (.cells #[.int .i64 0,.int .i64 0] 29)) by (repeat' (first | exact Below.refl _ _ | refine Below.setCell ?_ (by simp <;> omega) _ | refine balloc ?_ _ | refine Below.drew ?_ | refine bdrewN ?_ _)))
  simp only [World.size_alloc] at R0
  clear rr
  go_enter Tryz.func22,Tryz.ntmps22
  go_wp2
  have z0:((w.alloc (ptc x 24)).alloc (.cells #[.int .i64 0,.int .i64 0] 29)).heap.size=w.heap.size + 1 + 1:=by simp
  generalize (w.alloc (ptc x 24)).alloc (.cells #[.int .i64 0,.int .i64 0] 29)=w2 at *
  have l0:w.heap.size < w2.heap.size:=by omega
  have l1:w.heap.size + 1 < w2.heap.size:=by omega
  clear z0
  go_loopw [12,13] (fun sv kv wr=>∃ k:Nat,k≤n∧kv=.int .i64 k∧geN g k=0∧wr.ownsRow w2.heap.size 29 2 sv k (svs (gsN g k))∧Below w2.heap.size w2 wr) (fun _ kv _=>n - (intOf kv).toNat)
  case atStart=>exact ⟨0,Nat.zero_le _,rfl,rfl,World.ownsRow_nil _ _ _ _,Below.refl _ _⟩
  case round =>
    obtain ⟨k,hk,rfl,good,how,hbb⟩:=hrel
    have GOOD:=Lib.hid good
    have ROW:=Lib.hid how
    have BB:=Lib.hid hbb
    clear good how hbb
    have szw:=BB.out.size
    by_cases hlt:k < n
    · have hk1:(k:Int) < (n:Int):=by omega
      obtain ⟨b,off,rfl,rw0⟩:=RR.out (show 0 < n by omega)
      have hbl:b < w.heap.size:=rw0.1
      have RB:=Lib.hid (rowU_in (rowU_in rw0 B0.out hbl) BB.out (by omega))
      have MW:=Lib.hid (own_in' M0.out BB.out l0)
      have GK:=Lib.hid (G.out k hlt)
      have HIT:=Lib.hid (fun h:(g k).2 ≠ 0=>geN_hit hlt GOOD.out h)
      have NEXT:=Lib.hid (fun h:(g k).2=0=>geN_next GOOD.out h)
      have GS:=Lib.hid (show gsN g (k + 1)=gsN g k ++ [(g k).1] from rfl)
      have hbr:b < wr.heap.size:=by omega
      obtain ⟨q,hq⟩:∃ q,Q k=q:=⟨_,rfl⟩
      rw [hq] at GK
      generalize g k=gr at *
      clear rw0
      go_upto_region 5 with fail
      go_cut [14,15] (fun t20 t21 wx=>∃ b8:Nat,t20=.pointer (some ⟨b8,0,none⟩)∧t21=.int .i64 gr.2∧Pair wx b8 gr.1.1 gr.1.2∧Below wr.heap.size wr wx)
      case first =>
        have j0:=own_drew MW.out
        have j1:=rowU_in RB.out (Below.drew (Below.refl wr.heap.size wr)) hbr
        go_region_held3 (fun w'=>w'.cell? ⟨b,off + k * 11,none⟩=some (.int .i64 q.1.1.1)∧w'.cell? ⟨b,off + k * 11 + 1,none⟩=some (.int .i64 q.1.1.2.1)∧w'.cell? ⟨b,off + k * 11 + 1 + 1,none⟩=some (.int .i64 q.1.1.2.2)∧w'.cell? ⟨b,off + k * 11 + 1 + 1 + 1,none⟩=some (.int .i64 q.1.2.1.1)∧w'.cell? ⟨b,off + k * 11 + 1 + 1 + 1 + 1,none⟩=some (.int .i64 q.1.2.1.2.1)∧w'.cell? ⟨b,off + k * 11 + 1 + 1 + 1 + 1 + 1,none⟩=some (.int .i64 q.1.2.1.2.2)∧w'.cell? ⟨b,off + k * 11 + 1 + 1 + 1 + 1 + 1 + 1,none⟩=some (.int .i64 q.1.2.2.1)∧w'.cell? ⟨b,off + k * 11 + 1 + 1 + 1 + 1 + 1 + 1 + 1,none⟩=some (.int .i64 q.1.2.2.2.1)∧w'.cell? ⟨b,off + k * 11 + 1 + 1 + 1 + 1 + 1 + 1 + 1 + 1,none⟩=some (.int .i64 q.1.2.2.2.2)∧w'.cell? ⟨b,off + k * 11 + 1 + 1 + 1 + 1 + 1 + 1 + 1 + 1 + 1,none⟩=some (.int .i64 q.2.1)∧w'.cell? ⟨b,off + k * 11 + 1 + 1 + 1 + 1 + 1 + 1 + 1 + 1 + 1 + 1,none⟩=some (.int .i64 q.2.2)∧w'.cell? ⟨w.heap.size,0,none⟩=some (.int .i64 x.1)∧w'.cell? ⟨w.heap.size,1,none⟩=some (.int .i64 x.2.1)∧w'.cell? ⟨w.heap.size,2,none⟩=some (.int .i64 x.2.2))
          (first | (refine rsc_keep j0 j1 hlt hq) | (refine rsc_keep q0 q1 hlt hq) | (refine rsc_keep (own_drew (own_alloc MW.out _)) (rowU_in RB.out (Below.drew ((Below.refl _ _).alloc (Nat.le_refl _) _)) hbr) hlt hq) | (refine rsc_keep (own_alloc q0 _) (rowU_in q1 ((Below.refl v0.heap.size v0).alloc (Nat.le_refl _) _) q1.1) hlt hq) | (refine rsc_keep (own_in' q0 (((Below.refl wr.heap.size v0).setCell (p:=⟨wr.heap.size,0,none⟩) (Nat.le_refl _) _).setCell (p:=⟨wr.heap.size,1,none⟩) (Nat.le_refl _) _) (by omega)) (rowU_in q1 (((Below.refl wr.heap.size v0).setCell (p:=⟨wr.heap.size,0,none⟩) (Nat.le_refl _) _).setCell (p:=⟨wr.heap.size,1,none⟩) (Nat.le_refl _) _) hbr) hlt hq) | fail)
          (first | (go_at_call 44;(with_reducible refine (GK.out _).mono ?_);rintro e v0 ⟨rfl,hv0⟩;(first | (have q0:=own_below j0 hv0;have q1:=rowU_in j1 hv0 hbr;have sz0:wr.heap.size≤v0.heap.size:=hv0.size) | (have q0:=own_below (own_drew (own_alloc MW.out _)) hv0;have q1:=rowU_in RB.out ((Below.drew ((Below.refl _ _).alloc (Nat.le_refl _) _)).trans (hv0.mono (by simp))) hbr;have sz0:wr.heap.size + 1≤v0.heap.size:=(by have:=hv0.size;simp at this;omega);have pz:=pair_below (pair_drew' (pair_new wr 0 0 29)) hv0;obtain ⟨za,zb,zc,zd,ze⟩:=id pz))) | fail)
        all_goals
          go_wp2
          go_meet
          first
            | exact ⟨_,rfl,rfl,pair_new _ _ _ _,by (repeat' (first | exact Below.refl _ _ | refine bstep ?_ hv0 | refine Below.setCell ?_ (by simp <;> omega) _ | refine balloc ?_ _ | refine Below.drew ?_))⟩
            | exact ⟨_,rfl,rfl,pair_put8 pz _ _,by (repeat' (first | exact Below.refl _ _ | refine bstep ?_ hv0 | refine Below.setCell ?_ (by simp <;> omega) _ | refine balloc ?_ _ | refine Below.drew ?_))⟩
      case rest =>
        obtain ⟨b8,rfl,rfl,hP,hB8⟩:=hcut
        have BW:=Lib.hid (BB.out.trans (hB8.mono szw))
        have ROWc:=Lib.hid (own_below9 ROW.out hB8)
        obtain ⟨p0,p1,p2,p3,p4⟩:=hP
        have hszc:w2.heap.size≤wc.heap.size:=Nat.le_trans szw hB8.size
        clear hB8 BB ROW RB MW GK
        obtain ⟨⟨u,v⟩,z⟩:=gr
        dsimp only at *
        by_cases z0:z=0
        · subst z0
          have NX:=Lib.hid (NEXT.out (by first | rfl | trivial))
          clear HIT NEXT
          have hm60:k + 1≤60:=by omega
          go_wp2_with (at_builtin;(refine wpList_append_own _ rfl _ _ 60 rfl w2.heap.size 29 i0 (.agg #[.int .i64 0,.int .i64 0]) 2 16 Tryz.underlying60 HI.out HZ0.out HZ1.out HZ2.out rfl (by decide) _ k (svs (gsN g k)) rfl (ROWc.out.alloc _) ⟨_,0,none⟩ 1 1 [.int .i64 u,.int .i64 v] rfl rfl (sp2_new' _ _ _ _ _ (by simp)) (by intro u hu;simp at hu;rcases hu with rfl | rfl <;> rfl) (by unfold maxLen;omega) (by omega) (by simp;omega) ?_);intro v' w7 hown' hgrow _;have OW:=Lib.hid hown';have GR:=Lib.hid hgrow;clear hown' hgrow)
          have BG:=Lib.hid (BW.out.trans (((Below.refl w2.heap.size wc).alloc (by omega) _).grown GR.out (by simp;omega) (fun gg hg=>(ROWc.out.lt gg hg).1)))
          go_roundw
          case rel=>exact ⟨k + 1,by omega,by go_num,NX.out,by rw [GS.out,← svs_snoc];exact OW.out,BG.out⟩
          case measure=>simp [intOf];omega
        · have z1:(z != 0)=true:=bne_iff_ne.2 z0
          have hf:res=((0,0),z):=by
            have hh:=HIT.out z0
            rw [← hh]
            exact R1.out (by rw [hh];exact z0)
          subst hf
          obtain ⟨g0,g1,g2,g3,gl⟩:=pair_in R0.out BW.out l1
          clear HIT NEXT
          go_wp2
          refine bodyPost_ret (v:=spr ((0,0),z)) (by rw [results_cell_tmp rfl];go_simp) rfl ⟨rfl,?_⟩
          exact pair_set2 (B0.out.trans (BW.out.mono B0.out.size)) (by show w.heap.size≤w.heap.size + 1;omega)
    · obtain rfl:k=n:=by omega
      have hf:=R2.out GOOD.out
      subst hf
      have UV:=Lib.hid (own_base9 ROW.out (Nat.zero_le _))
      have SM0:=Lib.hid (SM.out GOOD.out)
      have Q4:=Lib.hid (pair_in R0.out BB.out l1)
      clear G HI HZ0 HZ1 HZ2 ROW R1 R2 GOOD SM M0 R0
      go_wp2_with fail
      refine (SM0.out _ _ UV.out).mono ?_
      rintro e w5 ⟨rfl,hb5⟩
      obtain ⟨g0,g1,g2,g3,gl⟩:=pair_below Q4.out hb5
      go_wp2
      refine bodyPost_ret (v:=spr res) (by rw [results_cell_tmp rfl];go_simp) rfl ⟨rfl,?_⟩
      exact pair_set2 ((B0.out.trans (BB.out.mono B0.out.size)).trans (hb5.mono (Nat.le_trans B0.out.size szw))) (by show w.heap.size≤w.heap.size + 1;omega)
end Go.Proofs.YtciimaojoococaaGreat
namespace Go.Proofs.YtciimaojoococaaGreat
open Go.ChangeShapes Go.WideShapes Go.RowKit
open Sh
def sceQ (x:P3) (s d:Int) (Q:Nat→Pu) (n:Nat) (t:Int):Sp.R:=sceR (fun k=>hdR x s d (Q k) t) n
def scode (n:Nat) (Q:Nat→Pu) (x:P3) (s t d:Int):Int:=if vpcode n Q=0 then acode8 x s t d else vpcode n Q
theorem scode_m (n:Nat) (Q:Nat→Pu) (x:P3) (s t d:Int):mcode8 (vpcode n Q) x s d (tcode (fun _=>t) 1)=scode n Q x s t d:=by
  have f:tcode (fun _=>t) 1=if rngB t 0 2000 then 0 else 1:=by
    show (if (0:Int)=0 then (if rngB t 0 2000 then (0:Int) else 1) else 1)=_
    rw [if_pos rfl]
  rw [f]
  unfold mcode8 scode acode8
  cases inP 256 x <;> cases rngB s 1 16 <;> cases rngB t 0 2000 <;> cases rngB d 0 3 <;> rfl
theorem vpk_ok {n:Nat} {Q:Nat→Pu} (h:vpcode n Q=0):n≤16∧∀ k,k < n→pucode (Q k)=0:=by
  unfold vpcode at h
  by_cases z:n≤16
  · rw [if_pos z] at h;exact ⟨z,fun k hk=>pucodes_all h k hk⟩
  · rw [if_neg z] at h;exact absurd h (by decide)
theorem scode_ok {n:Nat} {Q:Nat→Pu} {x:P3} {s t d:Int} (h:scode n Q x s t d=0):(n≤16∧∀ k,k < n→pucode (Q k)=0)∧BdP 256 x∧(1≤s∧s≤16)∧(0≤t∧t≤2000)∧(0≤d∧d≤3):=by
  unfold scode at h
  by_cases z:vpcode n Q=0
  · rw [if_pos z] at h
    exact ⟨vpk_ok z,acode8_ok h⟩
  · rw [if_neg z] at h
    exact absurd h z
def scnR (n:Nat) (Q:Nat→Pu) (x:P3) (s t d:Int):Sp.R:=if scode n Q x s t d=0 then sceQ x s d Q n t else ((0,0),scode n Q x s t d)
theorem sce_any (x:P3) (s d tick:Int) (a:Option Addr) (n c:Nat) (Q:Nat→Pu) (w:World) (rr:LstU w a n Q) (hn:n≤60) (hp:∀ k,k < n→pucode (Q k)=0) (hx:BdP 256 x) (s1:1≤s) (s2:s≤16) (d1:0≤d) (d2:d≤3) (t1:0≤tick) (t2:tick≤2000):Calls Tryz.prog 19 #[micv x s d,.slice a n c,.int .i64 tick] w fun e w'=>e=.returned (spr (sceQ x s d Q n tick))∧Below w.heap.size w w':=by
  unfold sceQ
  refine sce_walk x s d tick a n c Q w (fun k=>hdR x s d (Q k) tick) (smR8 (fun k=>((gsN (fun k=>hdR x s d (Q k) tick) n).getD k (0,0)).1) (fun k=>((gsN (fun k=>hdR x s d (Q k) tick) n).getD k (0,0)).2) n) _ rr hn (Lib.hid fun k hk W=>hrd_any x s d (Q k) tick W (hp k hk) hx s1 s2 d1 d2 t1 t2) (Lib.hid fun h=>?_) (Lib.hid fun h=>?_) (Lib.hid fun h u W ho=>sum8_own u n _ W ho (gsN_len _ _) (by omega))
  · unfold sceR;rw [if_pos h]
  · unfold sceR;rw [if_neg (show ¬ (geN (fun k=>hdR x s d (Q k) tick) n ≠ 0) from fun c=>c h)]
theorem rsce_any (x:P3) (s d tick:Int) (a:Option Addr) (n c:Nat) (Q:Nat→Pu) (w:World) (rr:LstU w a n Q) (hn:n≤60) (hp:∀ k,k < n→pucode (Q k)=0) (hx:BdP 256 x) (s1:1≤s) (s2:s≤16) (d1:0≤d) (d2:d≤3) (t1:0≤tick) (t2:tick≤2000):Calls Tryz.prog 22 #[.slice a n c,ptv x,.int .i64 s,.int .i64 tick,.int .i64 d] w fun e w'=>e=.returned (spr (sceQ x s d Q n tick))∧Below w.heap.size w w':=by
  unfold sceQ
  refine rsce_walk x s d tick a n c Q w (fun k=>hdR x s d (Q k) tick) (smR8 (fun k=>((gsN (fun k=>hdR x s d (Q k) tick) n).getD k (0,0)).1) (fun k=>((gsN (fun k=>hdR x s d (Q k) tick) n).getD k (0,0)).2) n) _ rr hn (Lib.hid fun k hk W=>rhd_any x s d (Q k) tick W (hp k hk) hx s1 s2 d1 d2 t1 t2) (Lib.hid fun h=>?_) (Lib.hid fun h=>?_) (Lib.hid fun h u W ho=>rsum8_own u n _ W ho (gsN_len _ _) (by omega))
  · unfold sceR;rw [if_pos h]
  · unfold sceR;rw [if_neg (show ¬ (geN (fun k=>hdR x s d (Q k) tick) n ≠ 0) from fun c=>c h)]
set_option maxRecDepth 100000 in
set_option maxHeartbeats 4000000 in
theorem scn_no (a:Option Addr) (n c:Nat) (x:P3) (s t d:Int) (cc:Int) (w:World) (C:Hid (∀ (W:World) (b:Nat),Below w.heap.size w W→b=W.heap.size→Calls Tryz.prog 18 #[micv x s d,.slice a n c,.slice (some ⟨b,0,none⟩) 1 1] (W.alloc (.cells #[.int .i64 t] 3)) fun e w'=>e=.returned (.int .i64 cc)∧Below (W.alloc (.cells #[.int .i64 t] 3)).heap.size (W.alloc (.cells #[.int .i64 t] 3)) w')) (z:(cc != 0)=true):Calls Tryz.prog 6 #[.slice a n c,ptv x,.int .i64 s,.int .i64 t,.int .i64 d] w fun e w'=>e=.returned (spr ((0,0),cc))∧Below w.heap.size w w':=by
  have R:=Lib.hid (pair_alloc (pair_new (w.alloc (ptc x 24)) 0 0 29) (micb x s d 50))
  have M:=Lib.hid (ownMic_new ((w.alloc (ptc x 24)).alloc (.cells #[.int .i64 0,.int .i64 0] 29)) x s d 50)
  have B0:=Lib.hid (show Below w.heap.size w (((w.alloc (ptc x 24)).alloc (.cells #[.int .i64 0,.int .i64 0] 29)).alloc (micb x s d 50)) by (repeat' (first | exact Below.refl _ _ | refine Below.setCell ?_ (by simp <;> omega) _ | refine balloc ?_ _ | refine Below.drew ?_ | refine bdrewN ?_ _)))
  have C0:=Lib.hid (C.out (((w.alloc (ptc x 24)).alloc (.cells #[.int .i64 0,.int .i64 0] 29)).alloc (micb x s d 50)) (w.heap.size + 1 + 1 + 1) B0.out (by simp))
  simp only [World.size_alloc] at R M
  go_enter Tryz.func6,Tryz.ntmps6
  go_wp2_with fail
  refine C0.out.mono ?_
  rintro e w1 ⟨rfl,hb1⟩
  obtain ⟨g0,g1,g2,g3,gl⟩:=pair_below (pair_alloc R.out (.cells #[.int .i64 t] 3)) hb1
  go_wp2
  refine bodyPost_ret (v:=spr ((0,0),cc)) (by rw [results_cell_tmp rfl];go_simp) rfl ⟨rfl,?_⟩
  (repeat' (first | exact Below.refl _ _ | refine bstep ?_ hb1 | refine Below.setCell ?_ (by simp <;> omega) _ | refine balloc ?_ _ | refine Below.drew ?_ | refine bdrewN ?_ _))
set_option maxRecDepth 100000 in
set_option maxHeartbeats 4000000 in
theorem scn_ok (a:Option Addr) (n c:Nat) (x:P3) (s t d:Int) (r:Sp.R) (w:World) (C:Hid (∀ (W:World) (b:Nat),Below w.heap.size w W→b=W.heap.size→Calls Tryz.prog 18 #[micv x s d,.slice a n c,.slice (some ⟨b,0,none⟩) 1 1] (W.alloc (.cells #[.int .i64 t] 3)) fun e w'=>e=.returned (.int .i64 0)∧Below (W.alloc (.cells #[.int .i64 t] 3)).heap.size (W.alloc (.cells #[.int .i64 t] 3)) w')) (H:Hid (∀ W,Below w.heap.size w W→Calls Tryz.prog 19 #[micv x s d,.slice a n c,.int .i64 t] W fun e w'=>e=.returned (spr r)∧Below W.heap.size W w')):Calls Tryz.prog 6 #[.slice a n c,ptv x,.int .i64 s,.int .i64 t,.int .i64 d] w fun e w'=>e=.returned (spr r)∧Below w.heap.size w w':=by
  have R:=Lib.hid (pair_alloc (pair_new (w.alloc (ptc x 24)) 0 0 29) (micb x s d 50))
  have M:=Lib.hid (ownMic_new ((w.alloc (ptc x 24)).alloc (.cells #[.int .i64 0,.int .i64 0] 29)) x s d 50)
  have B0:=Lib.hid (show Below w.heap.size w (((w.alloc (ptc x 24)).alloc (.cells #[.int .i64 0,.int .i64 0] 29)).alloc (micb x s d 50)) by (repeat' (first | exact Below.refl _ _ | refine Below.setCell ?_ (by simp <;> omega) _ | refine balloc ?_ _ | refine Below.drew ?_ | refine bdrewN ?_ _)))
  have C0:=Lib.hid (C.out (((w.alloc (ptc x 24)).alloc (.cells #[.int .i64 0,.int .i64 0] 29)).alloc (micb x s d 50)) (w.heap.size + 1 + 1 + 1) B0.out (by simp))
  simp only [World.size_alloc] at R M
  go_enter Tryz.func6,Tryz.ntmps6
  go_wp2_with fail
  refine C0.out.mono ?_
  rintro e w1 ⟨rfl,hb1⟩
  obtain ⟨g0,g1,g2,g3,gl⟩:=pair_below (pair_alloc R.out (.cells #[.int .i64 t] 3)) hb1
  obtain ⟨⟨m0,m1,m2,m3,m4⟩,ml⟩:=ownMic_below (ownMic_alloc M.out (.cells #[.int .i64 t] 3)) hb1
  have E0:=Lib.hid (show Pair w1 (w.heap.size + 1) 0 0 from ⟨g0,g1,g2,g3,gl⟩)
  have B1:=Lib.hid (show Below w.heap.size w w1 by (repeat' (first | exact Below.refl _ _ | refine bstep ?_ hb1 | refine Below.setCell ?_ (by simp <;> omega) _ | refine balloc ?_ _ | refine Below.drew ?_ | refine bdrewN ?_ _)))
  go_wp2_with fail
  refine (H.out _ B1.out).mono ?_
  rintro e w2 ⟨rfl,hb2⟩
  clear g0 g1 g2 g3 gl m0 m1 m2 m3 m4 ml
  obtain ⟨g0,g1,g2,g3,gl⟩:=pair_below E0.out hb2
  go_wp2
  refine bodyPost_ret (v:=spr r) (by rw [results_cell_tmp rfl];go_simp) rfl ⟨rfl,?_⟩
  (repeat' (first | exact Below.refl _ _ | refine bstep ?_ hb2 | refine bstep ?_ hb1 | refine Below.setCell ?_ (by simp <;> omega) _ | refine balloc ?_ _ | refine Below.drew ?_ | refine bdrewN ?_ _))
theorem lstT_one (W:World) (b:Nat) (t:Int) (h:b=W.heap.size):LstT (W.alloc (.cells #[.int .i64 t] 3)) (some ⟨b,0,none⟩) 1 (fun _=>t):=fun _=>⟨_,_,rfl,by simp [h],fun k hk=>by
    obtain rfl:k=0:=by omega
    subst h
    rw [Nat.add_zero]
    go_simp⟩
theorem scn_any (a:Option Addr) (n c:Nat) (Q:Nat→Pu) (x:P3) (s t d:Int) (w:World) (rr:LstU w a n Q) (hn:n≤140737488355328):Calls Tryz.prog 6 #[.slice a n c,ptv x,.int .i64 s,.int .i64 t,.int .i64 d] w fun e w'=>e=.returned (spr (scnR n Q x s t d))∧Below w.heap.size w w':=by
  have C:=fun (W:World) (b:Nat) (B:Below w.heap.size w W) (e:b=W.heap.size)=>mck_any x s d a n c (some ⟨b,0,none⟩) 1 1 Q (fun _=>t) (W.alloc (.cells #[.int .i64 t] 3)) (lstU_below (lstU_below rr B) ((Below.refl _ _).alloc (Nat.le_refl _) _)) hn (lstT_one W b t e) (by decide)
  rw [scode_m] at C
  unfold scnR
  by_cases z:scode n Q x s t d=0
  · rw [if_pos z]
    rw [z] at C
    obtain ⟨⟨h0,h1⟩,h2,h3,h4,h5⟩:=scode_ok z
    exact scn_ok a n c x s t d _ w (Lib.hid C) (Lib.hid fun W B=>sce_any x s d t a n c Q W (lstU_below rr B) (by omega) h1 h2 h3.1 h3.2 h5.1 h5.2 h4.1 h4.2)
  · rw [if_neg z]
    exact scn_no a n c x s t d _ w (Lib.hid C) (bne_iff_ne.2 z)
set_option maxRecDepth 100000 in
set_option maxHeartbeats 4000000 in
theorem rscn_v (a:Option Addr) (n c:Nat) (x:P3) (s t d:Int) (cc:Int) (w:World) (V:Hid (∀ W,Below w.heap.size w W→Calls Tryz.prog 20 #[.slice a n c] W fun e w'=>e=.returned (.int .i64 cc)∧Below W.heap.size W w')) (z:(cc != 0)=true):Calls Tryz.prog 7 #[.slice a n c,ptv x,.int .i64 s,.int .i64 t,.int .i64 d] w fun e w'=>e=.returned (spr ((0,0),cc))∧Below w.heap.size w w':=by
  have X0:=Lib.hid (own_alloc (own_new w x 24) (.cells #[.int .i64 0,.int .i64 0] 29))
  have R0:=Lib.hid (pair_new (w.alloc (ptc x 24)) 0 0 29)
  have B0:=Lib.hid (show Below w.heap.size w ((w.alloc (ptc x 24)).alloc (.cells #[.int .i64 0,.int .i64 0] 29)) by (repeat' (first | exact Below.refl _ _ | refine Below.setCell ?_ (by simp <;> omega) _ | refine balloc ?_ _ | refine Below.drew ?_ | refine bdrewN ?_ _)))
  simp only [World.size_alloc] at R0
  go_enter Tryz.func7,Tryz.ntmps7
  go_wp2_with fail
  refine (V.out _ B0.out).mono ?_
  rintro e w1 ⟨rfl,hb1⟩
  have X1:=Lib.hid (own_below X0.out hb1)
  have R1:=Lib.hid (pair_below R0.out hb1)
  obtain ⟨g0,g1,g2,g3,gl⟩:=R1.out
  go_wp2
  refine bodyPost_ret (v:=spr ((0,0),cc)) (by rw [results_cell_tmp rfl];go_simp) rfl ⟨rfl,?_⟩
  (repeat' (first | exact Below.refl _ _ | refine bstep ?_ hb1 | refine Below.setCell ?_ (by simp <;> omega) _ | refine balloc ?_ _ | refine Below.drew ?_ | refine bdrewN ?_ _))
set_option maxRecDepth 100000 in
set_option maxHeartbeats 4000000 in
theorem rscn_a (a:Option Addr) (n c:Nat) (x:P3) (s t d:Int) (cc:Int) (w:World) (V:Hid (∀ W,Below w.heap.size w W→Calls Tryz.prog 20 #[.slice a n c] W fun e w'=>e=.returned (.int .i64 0)∧Below W.heap.size W w')) (A:Hid (∀ W,Calls Tryz.prog 21 #[ptv x,.int .i64 s,.int .i64 t,.int .i64 d] W fun e w'=>e=.returned (.int .i64 cc)∧Below W.heap.size W w')) (z:(cc != 0)=true):Calls Tryz.prog 7 #[.slice a n c,ptv x,.int .i64 s,.int .i64 t,.int .i64 d] w fun e w'=>e=.returned (spr ((0,0),cc))∧Below w.heap.size w w':=by
  have X0:=Lib.hid (own_alloc (own_new w x 24) (.cells #[.int .i64 0,.int .i64 0] 29))
  have R0:=Lib.hid (pair_new (w.alloc (ptc x 24)) 0 0 29)
  have B0:=Lib.hid (show Below w.heap.size w ((w.alloc (ptc x 24)).alloc (.cells #[.int .i64 0,.int .i64 0] 29)) by (repeat' (first | exact Below.refl _ _ | refine Below.setCell ?_ (by simp <;> omega) _ | refine balloc ?_ _ | refine Below.drew ?_ | refine bdrewN ?_ _)))
  simp only [World.size_alloc] at R0
  go_enter Tryz.func7,Tryz.ntmps7
  go_wp2_with fail
  refine (V.out _ B0.out).mono ?_
  rintro e w1 ⟨rfl,hb1⟩
  have X1:=Lib.hid (own_below X0.out hb1)
  have R1:=Lib.hid (pair_below R0.out hb1)
  obtain ⟨x0,x1,x2⟩:=own_cells X1.out
  go_wp2_with fail
  refine (A.out _).mono ?_
  rintro e w2 ⟨rfl,hb2⟩
  have X2:=Lib.hid (own_below X1.out hb2)
  have R2:=Lib.hid (pair_below R1.out hb2)
  clear x0 x1 x2
  obtain ⟨g0,g1,g2,g3,gl⟩:=R2.out
  go_wp2
  refine bodyPost_ret (v:=spr ((0,0),cc)) (by rw [results_cell_tmp rfl];go_simp) rfl ⟨rfl,?_⟩
  (repeat' (first | exact Below.refl _ _ | refine bstep ?_ hb2 | refine bstep ?_ hb1 | refine Below.setCell ?_ (by simp <;> omega) _ | refine balloc ?_ _ | refine Below.drew ?_ | refine bdrewN ?_ _))
set_option maxRecDepth 100000 in
set_option maxHeartbeats 4000000 in
theorem rscn_ok (a:Option Addr) (n c:Nat) (x:P3) (s t d:Int) (r:Sp.R) (w:World) (V:Hid (∀ W,Below w.heap.size w W→Calls Tryz.prog 20 #[.slice a n c] W fun e w'=>e=.returned (.int .i64 0)∧Below W.heap.size W w')) (A:Hid (∀ W,Calls Tryz.prog 21 #[ptv x,.int .i64 s,.int .i64 t,.int .i64 d] W fun e w'=>e=.returned (.int .i64 0)∧Below W.heap.size W w')) (H:Hid (∀ W,Below w.heap.size w W→Calls Tryz.prog 22 #[.slice a n c,ptv x,.int .i64 s,.int .i64 t,.int .i64 d] W fun e w'=>e=.returned (spr r)∧Below W.heap.size W w')):Calls Tryz.prog 7 #[.slice a n c,ptv x,.int .i64 s,.int .i64 t,.int .i64 d] w fun e w'=>e=.returned (spr r)∧Below w.heap.size w w':=by
  have X0:=Lib.hid (own_alloc (own_new w x 24) (.cells #[.int .i64 0,.int .i64 0] 29))
  have R0:=Lib.hid (pair_new (w.alloc (ptc x 24)) 0 0 29)
  have B0:=Lib.hid (show Below w.heap.size w ((w.alloc (ptc x 24)).alloc (.cells #[.int .i64 0,.int .i64 0] 29)) by (repeat' (first | exact Below.refl _ _ | refine Below.setCell ?_ (by simp <;> omega) _ | refine balloc ?_ _ | refine Below.drew ?_ | refine bdrewN ?_ _)))
  simp only [World.size_alloc] at R0
  go_enter Tryz.func7,Tryz.ntmps7
  go_wp2_with fail
  refine (V.out _ B0.out).mono ?_
  rintro e w1 ⟨rfl,hb1⟩
  have X1:=Lib.hid (own_below X0.out hb1)
  have R1:=Lib.hid (pair_below R0.out hb1)
  obtain ⟨x0,x1,x2⟩:=own_cells X1.out
  go_wp2_with fail
  refine (A.out _).mono ?_
  rintro e w2 ⟨rfl,hb2⟩
  have X2:=Lib.hid (own_below X1.out hb2)
  have R2:=Lib.hid (pair_below R1.out hb2)
  clear x0 x1 x2
  obtain ⟨x0,x1,x2⟩:=own_cells X2.out
  have B2:=Lib.hid (show Below w.heap.size w w2 by (repeat' (first | exact Below.refl _ _ | refine bstep ?_ hb2 | refine bstep ?_ hb1 | refine Below.setCell ?_ (by simp <;> omega) _ | refine balloc ?_ _ | refine Below.drew ?_ | refine bdrewN ?_ _)))
  go_wp2_with fail
  refine (H.out _ B2.out).mono ?_
  rintro e w3 ⟨rfl,hb3⟩
  clear x0 x1 x2
  obtain ⟨g0,g1,g2,g3,gl⟩:=pair_below R2.out hb3
  go_wp2
  refine bodyPost_ret (v:=spr r) (by rw [results_cell_tmp rfl];go_simp) rfl ⟨rfl,?_⟩
  (repeat' (first | exact Below.refl _ _ | refine bstep ?_ hb3 | refine bstep ?_ hb2 | refine bstep ?_ hb1 | refine Below.setCell ?_ (by simp <;> omega) _ | refine balloc ?_ _ | refine Below.drew ?_ | refine bdrewN ?_ _))
theorem rscn_any (a:Option Addr) (n c:Nat) (Q:Nat→Pu) (x:P3) (s t d:Int) (w:World) (rr:LstU w a n Q) (hn:n≤140737488355328):Calls Tryz.prog 7 #[.slice a n c,ptv x,.int .i64 s,.int .i64 t,.int .i64 d] w fun e w'=>e=.returned (spr (scnR n Q x s t d))∧Below w.heap.size w w':=by
  have V:=fun W (B:Below w.heap.size w W)=>rsvp_any a n c Q W (lstU_below rr B) hn
  have A:=fun W=>ask_any x s t d W
  unfold scnR scode
  by_cases z:vpcode n Q=0
  · rw [if_pos z]
    rw [z] at V
    by_cases y:acode8 x s t d=0
    · rw [if_pos y]
      rw [y] at A
      obtain ⟨h0,h1⟩:=vpk_ok z
      obtain ⟨h2,h3,h4,h5⟩:=acode8_ok y
      exact rscn_ok a n c x s t d _ w (Lib.hid V) (Lib.hid A) (Lib.hid fun W B=>rsce_any x s d t a n c Q W (lstU_below rr B) (by omega) h1 h2 h3.1 h3.2 h5.1 h5.2 h4.1 h4.2)
    · rw [if_neg y]
      exact rscn_a a n c x s t d _ w (Lib.hid V) (Lib.hid A) (bne_iff_ne.2 y)
  · rw [if_neg z,if_neg z]
    exact rscn_v a n c x s t d _ w (Lib.hid V) (bne_iff_ne.2 z)
end Go.Proofs.YtciimaojoococaaGreat
namespace Go.Proofs.YtciimaojoococaaGreat
open Go.ChangeShapes Go.WideShapes Go.RowKit
open Sh
attribute [local go_sem 1000000] run_min_mn run_max_mx
def T2 (f t:Int) (k:Nat):Int:=if k=0 then f else t
end Go.Proofs.YtciimaojoococaaGreat
