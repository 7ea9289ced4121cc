import Derived.RangeFuncBox
import Derived.Deep.QuietTactic
import Derived.BigQuiet
import Derived.Test.YtpocbdompamnnaaTr16
import Derived.Test.YtpocbdompamnnaaLen
namespace Go.Proofs.Ytpocbdompamnnaa
open Go.ChangeShapes Go.WideShapes Go.RowKit
open Sh
def NdB (W:World) (g:Nat) (x:Ni):Prop:=W.heap[g]?=some (nib x 44)
theorem ndB_below {W V:World} {g:Nat} {x:Ni} (h:NdB W g x) (b:Below W.heap.size W V):NdB V g x:=(b.block g (Array.getElem?_eq_some_iff.1 (show W.heap[g]?=_ from h)).1).trans h
theorem ndB_new1 (W:World) (x:Ni) (g:Nat) (e:g=W.heap.size):NdB (W.alloc (nib x 44)) g x:=by
  subst e
  exact World.alloc_heap_new W _
theorem ndB_new (W:World) (x:Ni) (o:Obj):NdB ((W.alloc (nib x 44)).alloc o) W.heap.size x:=ndB_below (ndB_new1 W x _ rfl) ((Below.refl _ _).alloc (Nat.le_refl _) _)
theorem ndB_cells {W:World} {g:Nat} {x:Ni} (h:NdB W g x):W.cell? ⟨g,0,none⟩=some (.int .i64 x.1)∧W.cell? ⟨g,1,none⟩=some (.int .i64 x.2.1)∧W.cell? ⟨g,2,none⟩=some (.int .i64 x.2.2.1)∧W.cell? ⟨g,3,none⟩=some (.int .i64 x.2.2.2.1)∧W.cell? ⟨g,4,none⟩=some (.int .i64 x.2.2.2.2.1.1)∧W.cell? ⟨g,5,none⟩=some (.int .i64 x.2.2.2.2.1.2.1)∧W.cell? ⟨g,6,none⟩=some (.int .i64 x.2.2.2.2.1.2.2)∧W.cell? ⟨g,7,none⟩=some (.int .i64 x.2.2.2.2.2):=by
  have h':W.heap[g]?=_:=h
  refine ⟨?_,?_,?_,?_,?_,?_,?_,?_⟩ <;> simp [World.cell?,h']
set_option maxRecDepth 100000 in
set_option maxHeartbeats 4000000 in
theorem reach_any (a b:Ni) (d r s:Int × Int) (w:World) (ha:BdP 100000 a.2.2.2.2.1) (hb:BdP 100000 b.2.2.2.2.1)
    (h1:lenR (sq (sub a.2.2.2.2.1 b.2.2.2.2.1))=(d,0)) (h2:lenR a.2.2.2.2.2=(r,0)) (h3:lenR b.2.2.2.2.2=(s,0)) (bd:0≤d.1∧d.1≤1099511627776∧0≤d.2∧d.2≤1099511627776) (br:0≤r.2∧r.2≤1099511627776) (bs:0≤s.2∧s.2≤1099511627776) :
    Calls Try.prog 37 #[niv a,niv b] w fun e w'=>e=.returned (.tuple #[.int .i64 (d.1 - (r.2 + s.2)),.int .i64 (d.2 + (r.2 + s.2)),.int .i64 0])∧Below w.heap.size w w':=by
  have D:=Lib.hid (fun W=>dst_any a.2.2.2.2.1 b.2.2.2.2.1 W ha hb)
  have L1:=Lib.hid (show ∀ W,_ from fun W=>by have:=len_any (sq (sub a.2.2.2.2.1 b.2.2.2.2.1)) W;rw [h1] at this;exact this)
  have L2:=Lib.hid (show ∀ W,_ from fun W=>by have:=len_any a.2.2.2.2.2 W;rw [h2] at this;exact this)
  have L3:=Lib.hid (show ∀ W,_ from fun W=>by have:=len_any b.2.2.2.2.2 W;rw [h3] at this;exact this)
  clear h1 h2 h3 ha hb
  obtain ⟨a1,a2,a3,a4,⟨a5,a6,a7⟩,a8⟩:=a
  obtain ⟨b1,b2,b3,b4,⟨b5,b6,b7⟩,b8⟩:=b
  obtain ⟨d1,d2⟩:=d
  obtain ⟨r1,r2⟩:=r
  obtain ⟨s1,s2⟩:=s
  obtain ⟨bd0,bd1,bd2,bd3⟩:=bd
  obtain ⟨br0,br1⟩:=br
  obtain ⟨bs0,bs1⟩:=bs
  dsimp only at *
  generalize sq (sub (a5,a6,a7) (b5,b6,b7))=q at *
  have ix0:∀ w,(Instr.index 93 (.agg #[.int .i64 a1,.int .i64 a2,.int .i64 a3,.int .i64 a4,.int .i64 a5,.int .i64 a6,.int .i64 a7,.int .i64 a8,.int .i64 b1,.int .i64 b2,.int .i64 b3,.int .i64 b4,.int .i64 b5,.int .i64 b6,.int .i64 b7,.int .i64 b8]) (.int .i64 0)).run Try.prog w=.ok (niv (a1,a2,a3,a4,(a5,a6,a7),a8)) w:=fun _=>by kernel_rfl
  have ix1:∀ w,(Instr.index 93 (.agg #[.int .i64 a1,.int .i64 a2,.int .i64 a3,.int .i64 a4,.int .i64 a5,.int .i64 a6,.int .i64 a7,.int .i64 a8,.int .i64 b1,.int .i64 b2,.int .i64 b3,.int .i64 b4,.int .i64 b5,.int .i64 b6,.int .i64 b7,.int .i64 b8]) (.int .i64 1)).run Try.prog w=.ok (niv (b1,b2,b3,b4,(b5,b6,b7),b8)) w:=fun _=>by kernel_rfl
  go_enter Try.func37,Try.ntmps37
  go_wp2_with fail
  have G0:=Lib.hid (ndB_new w (a1,a2,a3,a4,(a5,a6,a7),a8) (nib (b1,b2,b3,b4,(b5,b6,b7),b8) 44))
  have G1:=Lib.hid (ndB_new1 (w.alloc (nib (a1,a2,a3,a4,(a5,a6,a7),a8) 44)) (b1,b2,b3,b4,(b5,b6,b7),b8) (w.heap.size + 1) (by simp))
  have W0:=Lib.hid (show Below w.heap.size w ((w.alloc (nib (a1,a2,a3,a4,(a5,a6,a7),a8) 44)).alloc (nib (b1,b2,b3,b4,(b5,b6,b7),b8) 44)) from ((Below.refl _ w).alloc (Nat.le_refl _) _).alloc (by simp) _)
  refine (D.out _).mono ?_
  rintro e w1 ⟨rfl,hb1⟩
  have F0:=Lib.hid (ndB_below G0.out hb1.1)
  have F1:=Lib.hid (ndB_below G1.out hb1.1)
  have W1:=Lib.hid (bstep W0.out hb1.1)
  clear G0 G1 W0 hb1 D
  go_wp2_with fail
  refine (L1.out _).mono ?_
  rintro e w2 ⟨rfl,hb2⟩
  have G0:=Lib.hid (ndB_below (ndB_below F0.out hb2) ((Below.refl w2.heap.size w2).alloc (Nat.le_refl _) (.cells #[.int .i64 d1,.int .i64 d2] 47)))
  have G1:=Lib.hid (ndB_below (ndB_below F1.out hb2) ((Below.refl w2.heap.size w2).alloc (Nat.le_refl _) (.cells #[.int .i64 d1,.int .i64 d2] 47)))
  have W2:=Lib.hid (bstep (bstep W1.out hb2) ((Below.refl w2.heap.size w2).alloc (Nat.le_refl _) (.cells #[.int .i64 d1,.int .i64 d2] 47)))
  have d0:(w2.alloc (.cells #[.int .i64 d1,.int .i64 d2] 47)).cell? ⟨w2.heap.size,0,none⟩=some (.int .i64 d1):=by go_simp
  have d0':(w2.alloc (.cells #[.int .i64 d1,.int .i64 d2] 47)).cell? ⟨w2.heap.size,1,none⟩=some (.int .i64 d2):=by go_simp
  have dl:w2.heap.size < (w2.alloc (.cells #[.int .i64 d1,.int .i64 d2] 47)).heap.size:=by simp
  clear F0 F1 W1 hb2
  go_upto_region 5 with fail
  generalize w2.alloc (.cells #[.int .i64 d1,.int .i64 d2] 47)=w3 at *
  obtain ⟨x0,x1,x2,x3,x4,x5,x6,x7⟩:=ndB_cells G0.out
  obtain ⟨y0,y1,y2,y3,y4,y5,y6,y7⟩:=ndB_cells G1.out
  go_wp2
  clear x0 x1 x2 x3 x4 x5 x6 x7 y0 y1 y2 y3 y4 y5 y6 y7 G0 G1
  go_loopw [8,28] (fun sv kv wr=>∃ j:Nat,j≤2∧kv=.int .i64 j∧sv=.int .i64 (if j=0 then 0 else if j=1 then r2 else r2 + s2)∧Below w3.heap.size w3 wr) (fun _ kv _=>2 - (intOf kv).toNat)
  case atStart=>exact ⟨0,Nat.zero_le _,rfl,rfl,Below.refl _ _⟩
  case round =>
    obtain ⟨j,hj,rfl,rfl,hb⟩:=hrel
    have HB:=Lib.hid hb
    clear hb
    by_cases e2:j=2
    · subst e2
      have z0:=(HB.out.cell (p:=⟨w2.heap.size,0,none⟩) dl).trans d0
      have z1:=(HB.out.cell (p:=⟨w2.heap.size,1,none⟩) dl).trans d0'
      simp only [show ¬ ((2:Nat)=0) by decide,show ¬ ((2:Nat)=1) by decide,if_false]
      have v1:IntKind.i64.wrap (d1 - (r2 + s2))=d1 - (r2 + s2):=by simp [IntKind.wrap,IntKind.bits,IntKind.signed];omega
      have v2:IntKind.i64.wrap (d2 + (r2 + s2))=d2 + (r2 + s2):=by simp [IntKind.wrap,IntKind.bits,IntKind.signed];omega
      go_wp2_with fail
      go_quiet (fail)
      go_wp2
      go_ret3
      exact ⟨rfl,(bstep W2.out HB.out).trans (by (repeat' (first | exact Below.refl _ _ | refine Below.setCell ?_ (by simp <;> omega) _ | refine balloc ?_ _ | refine Below.drew ?_ | refine bdrewN ?_ _)))⟩
    have e01:j=0∨j=1:=by omega
    clear e2 hj
    rcases e01 with rfl | rfl
    · simp only [if_true]
      go_wp2_with fail
      refine (L2.out _).mono ?_
      rintro e w4 ⟨rfl,hb4⟩
      have wv:IntKind.i64.wrap (0 + r2)=r2:=by simp [IntKind.wrap,IntKind.bits,IntKind.signed];omega
      have B4:=Lib.hid (bstep (balloc HB.out (nib (a1,a2,a3,a4,(a5,a6,a7),a8) 44)) hb4)
      clear hb4
      go_wp2
      go_roundw
      case rel=>exact ⟨1,by decide,rfl,rfl,balloc B4.out _⟩
      case measure=>simp [intOf]
    · simp only [show ¬ ((1:Nat)=0) by decide,if_false,if_true]
      go_wp2_with fail
      refine (L3.out _).mono ?_
      rintro e w4 ⟨rfl,hb4⟩
      have wv:IntKind.i64.wrap (r2 + s2)=r2 + s2:=by simp [IntKind.wrap,IntKind.bits,IntKind.signed];omega
      have B4:=Lib.hid (bstep (balloc HB.out (nib (b1,b2,b3,b4,(b5,b6,b7),b8) 44)) hb4)
      clear hb4
      go_wp2
      go_roundw
      case rel=>exact ⟨2,by decide,rfl,rfl,balloc B4.out _⟩
      case measure=>simp [intOf]
end Go.Proofs.Ytpocbdompamnnaa
