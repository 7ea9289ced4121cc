import Derived.OwnWalk
import Derived.Test.YtgchcnpgjfoadaaGreatSoMc
namespace Go.Proofs.YtgchcnpgjfoadaaGreat
open Go.ChangeShapes Go.WideShapes Go.RowKit
open Sh
attribute [local go_sem 1000000] run_min_mn run_max_mx
def mcT (n:Nat) (Q:Nat→Pu) (x:P3) (s:Int):Int:=if vpcode n Q=0 then acode8 x s 0 0 else vpcode n Q
theorem mcT_m (n:Nat) (Q:Nat→Pu) (x:P3) (s:Int) (T:Nat→Int):mcode8 (vpcode n Q) x s 0 (tcode T 0)=mcT n Q x s:=by
  unfold mcode8 mcT acode8
  cases inP 256 x <;> cases rngB s 1 16 <;> rfl
theorem mcT_ok {n:Nat} {Q:Nat→Pu} {x:P3} {s:Int} (h:mcT n Q x s=0):(n≤16∧∀ k,k < n→pucode (Q k)=0)∧BdP 256 x∧1≤s∧s≤16:=by
  unfold mcT at h
  by_cases z:vpcode n Q=0
  · rw [if_pos z] at h
    obtain ⟨h2,h3,_,_⟩:=acode8_ok h
    exact ⟨vpk_ok z,h2,h3.1,h3.2⟩
  · rw [if_neg z] at h
    exact absurd h z
def fT (Q:Nat→Pu) (x:P3) (s:Int) (k:Nat):Int:=(Q k).2.1 + (tkf (nearN (Q k).1 x) s:Nat)
def gT (Q:Nat→Pu) (x:P3) (s:Int) (k:Nat):Int:=(Q k).2.1 + (tkf (farN (Q k).1 x) s:Nat)
def mnf (f:Nat→Int):Nat→Int
  | 0=>f 0
  | k + 1=>Sp.mn (mnf f k) (f (k + 1))
def mxf (f:Nat→Int):Nat→Int
  | 0=>f 0
  | k + 1=>Sp.mx (mxf f k) (f (k + 1))
def tkE (n:Nat) (Q:Nat→Pu) (x:P3) (s:Int):Int:=if mcT n Q x s=0 then (if n=0 then 5 else 0) else mcT n Q x s
def tk1 (n:Nat) (Q:Nat→Pu) (x:P3) (s:Int):Int:=if tkE n Q x s=0 then mnf (fT Q x s) (n - 1) else 0
def tk2 (n:Nat) (Q:Nat→Pu) (x:P3) (s:Int):Int:=if tkE n Q x s=0 then mxf (gT Q x s) (n - 1) else 0
theorem sizeP8 (w:World):(sizeOf (Tryz.prog.elem 22)).run Tryz.prog w=.ok 11 w:=by kernel_rfl
theorem undP8:Tryz.prog.underlying 22=some (.slice (Tryz.prog.elem 22)):=by kernel_rfl
theorem run_lo8 (b off n c:Nat) (_:1≤n):∃ A,(∀ w,(Instr.slice 22 (.slice (some ⟨b,off,none⟩) n c) (some (.int .i64 1)) none none).run Tryz.prog w=.ok (.slice A (n - 1) (c - 1)) w)∧(2≤n→n≤c→A=some ⟨b,off + 11,none⟩):=by
  refine ⟨_,fun w=>by rw [run_slice_l _ _ _ _ _ undP8 .i64 1 (by decide) (by omega),sizeP8];rfl,fun h2 h3=>?_⟩
  rw [if_neg (show ¬ c=(1:Int).toNat by show ¬ c=1;omega)]
  rfl
def KP (w1 W:World) (mb b off n:Nat) (Q:Nat→Pu) (x:P3) (s:Int):Prop:=OwnMic W mb x s 0∧RowU W b off n Q∧Below w1.heap.size w1 W
theorem kp_below {w1 W W':World} {mb b off n:Nat} {Q:Nat→Pu} {x:P3} {s:Int} (h:KP w1 W mb b off n Q x s) (hb:Below W.heap.size W W'):KP w1 W' mb b off n Q x s :=
  ⟨ownMic_below h.1 hb,rowU_in h.2.1 hb h.2.1.1,h.2.2.trans (hb.mono h.2.2.size)⟩
theorem kp_drew {w1 W:World} {mb b off n:Nat} {Q:Nat→Pu} {x:P3} {s:Int} (h:KP w1 W mb b off n Q x s):KP w1 W.drew mb b off n Q x s:=⟨ownMic_drew h.1,h.2.1,Below.drew h.2.2⟩
theorem kp_cells {w1 W:World} {mb b off n:Nat} {Q:Nat→Pu} {x:P3} {s:Int} (h:KP w1 W mb b off n Q x s) (h0:0 < n) {q:Pu} (e:Q 0=q):W.cell? ⟨b,off,none⟩=some (.int .i64 q.1.1.1)∧W.cell? ⟨b,off + 1,none⟩=some (.int .i64 q.1.1.2.1)∧W.cell? ⟨b,off + 1 + 1,none⟩=some (.int .i64 q.1.1.2.2)∧W.cell? ⟨b,off + 1 + 1 + 1,none⟩=some (.int .i64 q.1.2.1.1)∧W.cell? ⟨b,off + 1 + 1 + 1 + 1,none⟩=some (.int .i64 q.1.2.1.2.1)∧W.cell? ⟨b,off + 1 + 1 + 1 + 1 + 1,none⟩=some (.int .i64 q.1.2.1.2.2)∧W.cell? ⟨b,off + 1 + 1 + 1 + 1 + 1 + 1,none⟩=some (.int .i64 q.1.2.2.1)∧W.cell? ⟨b,off + 1 + 1 + 1 + 1 + 1 + 1 + 1,none⟩=some (.int .i64 q.1.2.2.2.1)∧W.cell? ⟨b,off + 1 + 1 + 1 + 1 + 1 + 1 + 1 + 1,none⟩=some (.int .i64 q.1.2.2.2.2)∧W.cell? ⟨b,off + 1 + 1 + 1 + 1 + 1 + 1 + 1 + 1 + 1,none⟩=some (.int .i64 q.2.1)∧W.cell? ⟨b,off + 1 + 1 + 1 + 1 + 1 + 1 + 1 + 1 + 1 + 1,none⟩=some (.int .i64 q.2.2)∧W.cell? ⟨mb,0,none⟩=some (.int .i64 x.1)∧W.cell? ⟨mb,1,none⟩=some (.int .i64 x.2.1)∧W.cell? ⟨mb,2,none⟩=some (.int .i64 x.2.2)∧W.cell? ⟨mb,3,none⟩=some (.int .i64 s)∧W.cell? ⟨mb,4,none⟩=some (.int .i64 0):=by
  subst e
  obtain ⟨⟨⟨m0,m1,m2,m3,m4⟩,ml⟩,r,_⟩:=h
  obtain ⟨k0,k1,k2,k3,k4,k5,k6,k7,k8,k9,k10⟩:=r.2 0 h0
  simp only [Nat.zero_mul,Nat.add_zero] at k0 k1 k2 k3 k4 k5 k6 k7 k8 k9 k10
  exact ⟨k0,k1,k2,k3,k4,k5,k6,k7,k8,k9,k10,m0,m1,m2,m3,m4⟩
def KB (w1 W:World) (mb b off n:Nat) (Q:Nat→Pu) (x:P3) (s:Int) (pb:Nat) (q:Pu):Prop:=KP w1 W mb b off n Q x s∧OwnPu W pb q
theorem kb_below {w1 W W':World} {mb b off n pb:Nat} {Q:Nat→Pu} {x:P3} {s:Int} {q:Pu} (h:KB w1 W mb b off n Q x s pb q) (hb:Below W.heap.size W W'):KB w1 W' mb b off n Q x s pb q:=⟨kp_below h.1 hb,ownPu_below h.2 hb⟩
theorem kb_cells {w1 W:World} {mb b off n pb:Nat} {Q:Nat→Pu} {x:P3} {s:Int} {q:Pu} (h:KB w1 W mb b off n Q x s pb q):W.cell? ⟨pb,0,none⟩=some (.int .i64 q.1.1.1)∧W.cell? ⟨pb,1,none⟩=some (.int .i64 q.1.1.2.1)∧W.cell? ⟨pb,2,none⟩=some (.int .i64 q.1.1.2.2)∧W.cell? ⟨pb,3,none⟩=some (.int .i64 q.1.2.1.1)∧W.cell? ⟨pb,4,none⟩=some (.int .i64 q.1.2.1.2.1)∧W.cell? ⟨pb,5,none⟩=some (.int .i64 q.1.2.1.2.2)∧W.cell? ⟨pb,6,none⟩=some (.int .i64 q.1.2.2.1)∧W.cell? ⟨pb,7,none⟩=some (.int .i64 q.1.2.2.2.1)∧W.cell? ⟨pb,8,none⟩=some (.int .i64 q.1.2.2.2.2)∧W.cell? ⟨pb,9,none⟩=some (.int .i64 q.2.1)∧W.cell? ⟨pb,10,none⟩=some (.int .i64 q.2.2)∧W.cell? ⟨mb,0,none⟩=some (.int .i64 x.1)∧W.cell? ⟨mb,1,none⟩=some (.int .i64 x.2.1)∧W.cell? ⟨mb,2,none⟩=some (.int .i64 x.2.2)∧W.cell? ⟨mb,3,none⟩=some (.int .i64 s)∧W.cell? ⟨mb,4,none⟩=some (.int .i64 0):=by
  obtain ⟨⟨⟨⟨m0,m1,m2,m3,m4⟩,ml⟩,_⟩,⟨k0,k1,k2,k3,k4,k5,k6,k7,k8,k9,k10⟩,_⟩:=h
  exact ⟨k0,k1,k2,k3,k4,k5,k6,k7,k8,k9,k10,m0,m1,m2,m3,m4⟩
set_option maxRecDepth 100000 in
set_option maxHeartbeats 4000000 in
theorem tic_c (a:Option Addr) (n c:Nat) (x:P3) (s:Int) (mc:Int) (w:World) (C:Hid (∀ W,Below w.heap.size w W→Calls Tryz.prog 24 #[micv x s 0,.slice a n c,.slice none 0 0] W fun e w'=>e=.returned (.int .i64 mc)∧Below W.heap.size W w')) (z:(mc != 0)=true):Calls Tryz.prog 7 #[.slice a n c,ptv x,.int .i64 s] w fun e w'=>e=.returned (.tuple #[.int .i64 0,.int .i64 0,.int .i64 mc])∧Below w.heap.size w w':=by
  have M0:=Lib.hid (ownMic_new (w.alloc (ptc x 24)) x s 0 55)
  have B0:=Lib.hid (show Below w.heap.size w ((w.alloc (ptc x 24)).alloc (micb x s 0 55)) by (repeat' (first | exact Below.refl _ _ | refine Below.setCell ?_ (by simp <;> omega) _ | refine balloc ?_ _ | refine Below.drew ?_ | refine bdrewN ?_ _)))
  simp only [World.size_alloc] at M0
  go_enter Tryz.func7,Tryz.ntmps7
  go_wp2_with fail
  refine (C.out _ B0.out).mono ?_
  rintro e w1 ⟨rfl,hb1⟩
  have M1:=Lib.hid (ownMic_below M0.out hb1)
  have B1:=Lib.hid (bstep B0.out hb1)
  clear hb1 M0 B0
  have hB:=B1.out
  go_wp2
  go_ret3
  exact ⟨rfl,by (repeat' (first | with_reducible exact hB | with_reducible refine Below.drew ?_ | (with_reducible refine balloc ?_ _) | (with_reducible refine Below.setCell ?_ (by simp <;> omega) _)))⟩
set_option maxRecDepth 100000 in
set_option maxHeartbeats 4000000 in
theorem tic_n (a:Option Addr) (c:Nat) (x:P3) (s:Int) (w:World) (C:Hid (∀ W,Below w.heap.size w W→Calls Tryz.prog 24 #[micv x s 0,.slice a 0 c,.slice none 0 0] W fun e w'=>e=.returned (.int .i64 0)∧Below W.heap.size W w')):Calls Tryz.prog 7 #[.slice a 0 c,ptv x,.int .i64 s] w fun e w'=>e=.returned (.tuple #[.int .i64 0,.int .i64 0,.int .i64 5])∧Below w.heap.size w w':=by
  have M0:=Lib.hid (ownMic_new (w.alloc (ptc x 24)) x s 0 55)
  have B0:=Lib.hid (show Below w.heap.size w ((w.alloc (ptc x 24)).alloc (micb x s 0 55)) by (repeat' (first | exact Below.refl _ _ | refine Below.setCell ?_ (by simp <;> omega) _ | refine balloc ?_ _ | refine Below.drew ?_ | refine bdrewN ?_ _)))
  simp only [World.size_alloc] at M0
  go_enter Tryz.func7,Tryz.ntmps7
  go_wp2_with fail
  refine (C.out _ B0.out).mono ?_
  rintro e w1 ⟨rfl,hb1⟩
  have M1:=Lib.hid (ownMic_below M0.out hb1)
  have B1:=Lib.hid (bstep B0.out hb1)
  clear hb1 M0 B0
  have hB:=B1.out
  go_wp2
  go_ret3
  exact ⟨rfl,by (repeat' (first | with_reducible exact hB | with_reducible refine Below.drew ?_ | (with_reducible refine balloc ?_ _) | (with_reducible refine Below.setCell ?_ (by simp <;> omega) _)))⟩
set_option maxRecDepth 100000 in
set_option maxHeartbeats 4000000 in
theorem tic_ok (b off n c:Nat) (x:P3) (s:Int) (Q:Nat→Pu) (f g:Nat→Int) (w:World) (C:Hid (∀ W,Below w.heap.size w W→Calls Tryz.prog 24 #[micv x s 0,.slice (some ⟨b,off,none⟩) n c,.slice none 0 0] W fun e w'=>e=.returned (.int .i64 0)∧Below W.heap.size W w')) (r:RowU w b off n Q) (h0:0 < n) (hn:n≤16) (hc:n≤c)
    (FI:Hid (∀ k,k < n→∀ W,Calls Tryz.prog 25 #[micv x s 0,puv (Q k)] W fun e w'=>e=.returned (.int .i64 (f k))∧Below W.heap.size W w'))
    (LA:Hid (∀ k,k < n→∀ W,Calls Tryz.prog 26 #[micv x s 0,puv (Q k)] W fun e w'=>e=.returned (.int .i64 (g k))∧Below W.heap.size W w')) :
    Calls Tryz.prog 7 #[.slice (some ⟨b,off,none⟩) n c,ptv x,.int .i64 s] w fun e w'=>e=.returned (.tuple #[.int .i64 (mnf f (n - 1)),.int .i64 (mxf g (n - 1)),.int .i64 0])∧Below w.heap.size w w':=by
  have RR:=Lib.hid r
  have hn1:(n:Int) ≠ 0:=by omega
  clear r
  have M0:=Lib.hid (ownMic_new (w.alloc (ptc x 24)) x s 0 55)
  have B0:=Lib.hid (show Below w.heap.size w ((w.alloc (ptc x 24)).alloc (micb x s 0 55)) by (repeat' (first | exact Below.refl _ _ | refine Below.setCell ?_ (by simp <;> omega) _ | refine balloc ?_ _ | refine Below.drew ?_ | refine bdrewN ?_ _)))
  simp only [World.size_alloc] at M0
  go_enter Tryz.func7,Tryz.ntmps7
  go_wp2_with fail
  refine (C.out _ B0.out).mono ?_
  rintro e w1 ⟨rfl,hb1⟩
  have M1:=Lib.hid (ownMic_below M0.out hb1)
  have B1:=Lib.hid (bstep B0.out hb1)
  clear hb1 M0 B0
  have K1:=Lib.hid (show KP w1 w1 (w.heap.size + 1) b off n Q x s from ⟨M1.out,rowU_in RR.out B1.out RR.out.1,Below.refl _ _⟩)
  have F0:=Lib.hid (FI.out 0 h0)
  have G0:=Lib.hid (LA.out 0 h0)
  obtain ⟨q,hq⟩:∃ q,Q 0=q:=⟨_,rfl⟩
  rw [hq] at F0 G0
  have lb:b < w1.heap.size:=K1.out.2.1.1
  have lm:w.heap.size + 1 < w1.heap.size:=K1.out.1.2
  go_upto_region 7 with fail
  go_cut [6,7] (fun t6 t7 wx=>t6=.int .i64 (f 0)∧t7=.int .i64 (g 0)∧KP w1 wx (w.heap.size + 1) b off n Q x s)
  case first =>
    have p0:=kp_drew K1.out
    go_region_held3 (fun w'=>w'.cell? ⟨b,off,none⟩=some (.int .i64 q.1.1.1)∧w'.cell? ⟨b,off + 1,none⟩=some (.int .i64 q.1.1.2.1)∧w'.cell? ⟨b,off + 1 + 1,none⟩=some (.int .i64 q.1.1.2.2)∧w'.cell? ⟨b,off + 1 + 1 + 1,none⟩=some (.int .i64 q.1.2.1.1)∧w'.cell? ⟨b,off + 1 + 1 + 1 + 1,none⟩=some (.int .i64 q.1.2.1.2.1)∧w'.cell? ⟨b,off + 1 + 1 + 1 + 1 + 1,none⟩=some (.int .i64 q.1.2.1.2.2)∧w'.cell? ⟨b,off + 1 + 1 + 1 + 1 + 1 + 1,none⟩=some (.int .i64 q.1.2.2.1)∧w'.cell? ⟨b,off + 1 + 1 + 1 + 1 + 1 + 1 + 1,none⟩=some (.int .i64 q.1.2.2.2.1)∧w'.cell? ⟨b,off + 1 + 1 + 1 + 1 + 1 + 1 + 1 + 1,none⟩=some (.int .i64 q.1.2.2.2.2)∧w'.cell? ⟨b,off + 1 + 1 + 1 + 1 + 1 + 1 + 1 + 1 + 1,none⟩=some (.int .i64 q.2.1)∧w'.cell? ⟨b,off + 1 + 1 + 1 + 1 + 1 + 1 + 1 + 1 + 1 + 1,none⟩=some (.int .i64 q.2.2)∧w'.cell? ⟨w.heap.size + 1,0,none⟩=some (.int .i64 x.1)∧w'.cell? ⟨w.heap.size + 1,1,none⟩=some (.int .i64 x.2.1)∧w'.cell? ⟨w.heap.size + 1,2,none⟩=some (.int .i64 x.2.2)∧w'.cell? ⟨w.heap.size + 1,3,none⟩=some (.int .i64 s)∧w'.cell? ⟨w.heap.size + 1,4,none⟩=some (.int .i64 0))
      (first | (with_reducible exact kp_cells p0 h0 hq) | (with_reducible exact kp_cells p1 h0 hq) | (with_reducible exact kp_cells p2 h0 hq) | fail)
      (first | (go_at_call 25;(with_reducible refine (F0.out _).mono ?_);rintro e v ⟨rfl,hv⟩;(first | (have p2:=kp_below p1 hv) | (have p1:=kp_below p0 hv))) | (go_at_call 26;(with_reducible refine (G0.out _).mono ?_);rintro e v ⟨rfl,hv⟩;(first | (have p2:=kp_below p1 hv) | (have p1:=kp_below p0 hv))) | fail)
    all_goals
      go_wp2
      go_meet
      exact ⟨rfl,rfl,p2⟩
  case rest =>
    obtain ⟨rfl,rfl,kc⟩:=hcut
    have KC:=Lib.hid kc
    clear kc K1 F0 G0 hq lb lm
    obtain ⟨A,RUN,hA⟩:=run_lo8 b off n c h0
    obtain ⟨m,hm⟩:∃ m,n - 1=m:=⟨_,rfl⟩
    rw [hm] at RUN
    go_wp2
    go_loopw [6,7,38] (fun t6 t7 kv wr=>∃ k:Nat,k≤m∧kv=.int .i64 k∧t6=.int .i64 (mnf f k)∧t7=.int .i64 (mxf g k)∧KP w1 wr (w.heap.size + 1) b off n Q x s) (fun _ _ kv _=>m - (intOf kv).toNat)
    case atStart=>exact ⟨0,Nat.zero_le _,rfl,rfl,rfl,KC.out⟩
    case round =>
      obtain ⟨k,hk,rfl,rfl,rfl,kp⟩:=hrel
      have KR:=Lib.hid kp
      by_cases hlt:k < m
      · have hk1:(k:Int) < (m:Int):=by omega
        obtain rfl:=hA (by omega) hc
        obtain ⟨c0,c1,c2,c3,c4,c5,c6,c7,c8,c9,c10⟩:=kp.2.1.2 (k + 1) (by omega)
        rw [show off + (k + 1) * 11=off + 11 + k * 11 by omega] at c0 c1 c2 c3 c4 c5 c6 c7 c8 c9 c10
        have lbw:=kp.2.1.1
        have F1:=Lib.hid (FI.out (k + 1) (by omega))
        have G1:=Lib.hid (LA.out (k + 1) (by omega))
        have E1:=Lib.hid (show mnf f (k + 1)=Sp.mn (mnf f k) (f (k + 1))∧mxf g (k + 1)=Sp.mx (mxf g k) (g (k + 1)) from ⟨rfl,rfl⟩)
        clear kp
        generalize Q (k + 1)=q at *
        generalize f (k + 1)=fk at *
        generalize g (k + 1)=gk at *
        generalize mnf f k=u at *
        generalize mxf g k=v at *
        go_upto_region 11 with fail
        have p0:KB w1 (wr.alloc (pub q 61)).drew (w.heap.size + 1) b off n Q x s wr.heap.size q:=⟨kp_drew (kp_below KR.out ((Below.refl _ _).alloc (Nat.le_refl _) _)),ownPu_drew (ownPu_new wr q 61)⟩
        clear c0 c1 c2 c3 c4 c5 c6 c7 c8 c9 c10
        go_region_held3 (fun w'=>w'.cell? ⟨wr.heap.size,0,none⟩=some (.int .i64 q.1.1.1)∧w'.cell? ⟨wr.heap.size,1,none⟩=some (.int .i64 q.1.1.2.1)∧w'.cell? ⟨wr.heap.size,2,none⟩=some (.int .i64 q.1.1.2.2)∧w'.cell? ⟨wr.heap.size,3,none⟩=some (.int .i64 q.1.2.1.1)∧w'.cell? ⟨wr.heap.size,4,none⟩=some (.int .i64 q.1.2.1.2.1)∧w'.cell? ⟨wr.heap.size,5,none⟩=some (.int .i64 q.1.2.1.2.2)∧w'.cell? ⟨wr.heap.size,6,none⟩=some (.int .i64 q.1.2.2.1)∧w'.cell? ⟨wr.heap.size,7,none⟩=some (.int .i64 q.1.2.2.2.1)∧w'.cell? ⟨wr.heap.size,8,none⟩=some (.int .i64 q.1.2.2.2.2)∧w'.cell? ⟨wr.heap.size,9,none⟩=some (.int .i64 q.2.1)∧w'.cell? ⟨wr.heap.size,10,none⟩=some (.int .i64 q.2.2)∧w'.cell? ⟨w.heap.size + 1,0,none⟩=some (.int .i64 x.1)∧w'.cell? ⟨w.heap.size + 1,1,none⟩=some (.int .i64 x.2.1)∧w'.cell? ⟨w.heap.size + 1,2,none⟩=some (.int .i64 x.2.2)∧w'.cell? ⟨w.heap.size + 1,3,none⟩=some (.int .i64 s)∧w'.cell? ⟨w.heap.size + 1,4,none⟩=some (.int .i64 0))
          (first | (with_reducible exact kb_cells p0) | (with_reducible exact kb_cells p1) | (with_reducible exact kb_cells p2) | fail)
          (first | (go_at_call 25;(with_reducible refine (F1.out _).mono ?_);rintro e y ⟨rfl,hv⟩;(first | (have p2:=kb_below p1 hv) | (have p1:=kb_below p0 hv))) | (go_at_call 26;(with_reducible refine (G1.out _).mono ?_);rintro e y ⟨rfl,hv⟩;(first | (have p2:=kb_below p1 hv) | (have p1:=kb_below p0 hv))) | fail)
        all_goals
          go_wp2
          go_roundw
          case rel=>exact ⟨k + 1,by omega,by go_num,by rw [E1.out.1],by rw [E1.out.2],p2.1⟩
          case measure=>simp [intOf];omega
      · obtain rfl:k=m:=by omega
        have hB:Below w.heap.size w wr:=B1.out.trans (kp.2.2.mono B1.out.size)
        clear kp
        go_wp2
        go_ret3
        exact ⟨by rw [hm];rfl,by (repeat' (first | with_reducible exact hB | with_reducible refine Below.drew ?_ | (with_reducible refine balloc ?_ _) | (with_reducible refine Below.setCell ?_ (by simp <;> omega) _)))⟩
theorem tic_any (a:Option Addr) (n c:Nat) (Q:Nat→Pu) (x:P3) (s:Int) (w:World) (rr:LstU w a n Q) (hn:n≤140737488355328) (hc:n≤c):Calls Tryz.prog 7 #[.slice a n c,ptv x,.int .i64 s] w fun e w'=>e=.returned (.tuple #[.int .i64 (tk1 n Q x s),.int .i64 (tk2 n Q x s),.int .i64 (tkE n Q x s)])∧Below w.heap.size w w':=by
  have C:=fun W (B:Below w.heap.size w W)=>mck_any x s 0 a n c none 0 0 Q (fun _=>0) W (lstU_below rr B) hn (fun h=>absurd h (by decide)) (by decide)
  rw [mcT_m] at C
  unfold tk1 tk2 tkE
  by_cases z:mcT n Q x s=0
  · rw [if_pos z]
    rw [z] at C
    obtain ⟨⟨h16,hp⟩,hx,s1,s2⟩:=mcT_ok z
    by_cases y:n=0
    · subst y
      rw [if_pos rfl,if_neg (by decide),if_neg (by decide)]
      exact tic_n a c x s w (Lib.hid C)
    · rw [if_neg y,if_pos rfl,if_pos rfl]
      obtain ⟨b,off,rfl,r⟩:=rr (by omega)
      exact tic_ok b off n c x s Q (fT Q x s) (gT Q x s) w (Lib.hid C) r (by omega) h16 hc
        (Lib.hid fun k hk W=>by obtain ⟨hb,_,⟨a1,a2⟩,_,_⟩:=pucode_ok (hp k hk);exact mfi_any x s 0 (Q k) W hb hx s1 s2 a1 a2)
        (Lib.hid fun k hk W=>by obtain ⟨hb,_,⟨a1,a2⟩,_,_⟩:=pucode_ok (hp k hk);exact mla_any x s 0 (Q k) W hb hx s1 s2 a1 a2)
  · simp only [if_neg z]
    exact tic_c a n c x s _ w (Lib.hid C) (bne_iff_ne.2 z)
end Go.Proofs.YtgchcnpgjfoadaaGreat
