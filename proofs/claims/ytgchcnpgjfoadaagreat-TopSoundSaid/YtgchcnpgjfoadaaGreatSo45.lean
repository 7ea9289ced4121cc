import Derived.Test.YtgchcnpgjfoadaaGreatSoMf
import Derived.Test.YtgchcnpgjfoadaaGreatSoE
namespace Go.Proofs.YtgchcnpgjfoadaaGreat
open Go.ChangeShapes Go.WideShapes Go.RowKit
open Sh
set_option maxRecDepth 100000 in
set_option maxHeartbeats 4000000 in
theorem walls_long (a:Option Addr) (n c:Nat) (x:P3) (s t d:Int) (w:World) (h1:(60:Int) < (n:Int)) (K:Hid (∀ W,Calls Tryz.prog 16 #[] W fun e w'=>e=.returned (.bool true)∧Below W.heap.size W w')):Calls Tryz.prog 6 #[.slice a n c,earv x s t d] w fun e w'=>e=.returned (.bool true)∧Below w.heap.size w w':=by
  go_enter Tryz.func6,Tryz.ntmps6
  go_wp2_with fail
  refine (K.out _).mono ?_
  rintro e w1 ⟨rfl,hb1⟩
  go_wp2
  go_ret
  exact ⟨rfl,by (repeat' (first | exact Below.refl _ _ | refine bstep ?_ hb1 | refine Below.setCell ?_ (by simp <;> omega) _ | refine balloc ?_ _ | refine Below.drew ?_ | refine bdrewN ?_ _))⟩
set_option maxRecDepth 100000 in
set_option maxHeartbeats 4000000 in
theorem walls_e (a:Option Addr) (n c:Nat) (x:P3) (s t d:Int) (o1 o2 oe u1 u2 v1 v2 er:Int) (w:World) (h1:decide ((60:Int) < (n:Int))=false) (z:(er != 0)=true) (S1:Hid (∀ W,Below w.heap.size w W→Calls Tryz.prog 21 #[.slice a n c,ptv (x.1,x.2.1,0),.int .i64 s,.int .i64 t,.int .i64 d] W fun e w'=>e=.returned (spr ((o1,o2),oe))∧Below W.heap.size W w')) (H1:Hid (∀ W,Below w.heap.size w W→Calls Tryz.prog 22 #[.slice a n c,ptv (x.1,x.2.1,0),.bool false,.int .i64 s,.int .i64 t,.int .i64 d] W fun e w'=>e=.returned (spr ((u1,u2),er))∧Below W.heap.size W w')) (T1:Hid (∀ W,Below w.heap.size w W→Calls Tryz.prog 22 #[.slice a n c,ptv (x.1,x.2.1,0),.bool true,.int .i64 s,.int .i64 t,.int .i64 d] W fun e w'=>e=.returned (spr ((v1,v2),er))∧Below W.heap.size W w')) (K:Hid (∀ W,Calls Tryz.prog 16 #[] W fun e w'=>e=.returned (.bool true)∧Below W.heap.size W w')):Calls Tryz.prog 6 #[.slice a n c,earv x s t d] w fun e w'=>e=.returned (.bool true)∧Below w.heap.size w w':=by
  have E0:=Lib.hid (ownE_new w (x.1,x.2.1,0) s t d 26)
  have B0:=Lib.hid (show Below w.heap.size w (w.alloc (earb (x.1,x.2.1,0) s t d 26)) by (repeat' (first | exact Below.refl _ _ | refine Below.setCell ?_ (by simp <;> omega) _ | refine balloc ?_ _ | refine Below.drew ?_ | refine bdrewN ?_ _)))
  go_enter Tryz.func6,Tryz.ntmps6
  go_wp2_with fail
  refine (S1.out _ B0.out).mono ?_
  rintro e w1 ⟨rfl,hb1⟩
  have E1:=Lib.hid (ownE_alloc (ownE_below E0.out hb1) (.cells #[.int .i64 o1,.int .i64 o2] 34))
  have Z1_1:=Lib.hid (pair_new w1 o1 o2 34)
  have B1:=Lib.hid (balloc (bstep B0.out hb1) (.cells #[.int .i64 o1,.int .i64 o2] 34))
  clear hb1
  obtain ⟨⟨q0,q1,q2,q3,q4,q5⟩,el⟩:=E1.out
  go_wp2_with fail
  refine (H1.out _ B1.out).mono ?_
  rintro e w2 ⟨rfl,hb2⟩
  clear q0 q1 q2 q3 q4 q5 el
  have E2:=Lib.hid (ownE_alloc (ownE_below E1.out hb2) (.cells #[.int .i64 u1,.int .i64 u2] 34))
  have Z1_2:=Lib.hid (pair_alloc (pair_below Z1_1.out hb2) (.cells #[.int .i64 u1,.int .i64 u2] 34))
  have Z2_2:=Lib.hid (pair_new w2 u1 u2 34)
  have B2:=Lib.hid (balloc (bstep B1.out hb2) (.cells #[.int .i64 u1,.int .i64 u2] 34))
  clear hb2
  obtain ⟨⟨q0,q1,q2,q3,q4,q5⟩,el⟩:=E2.out
  go_wp2_with fail
  refine (T1.out _ B2.out).mono ?_
  rintro e w3 ⟨rfl,hb3⟩
  clear q0 q1 q2 q3 q4 q5 el
  have Z1_3:=Lib.hid (pair_alloc (pair_below Z1_2.out hb3) (.cells #[.int .i64 v1,.int .i64 v2] 34))
  have Z2_3:=Lib.hid (pair_alloc (pair_below Z2_2.out hb3) (.cells #[.int .i64 v1,.int .i64 v2] 34))
  have Z3_3:=Lib.hid (pair_new w3 v1 v2 34)
  have B3:=Lib.hid (balloc (bstep B2.out hb3) (.cells #[.int .i64 v1,.int .i64 v2] 34))
  clear hb3
  go_wp2_with fail
  refine (K.out _).mono ?_
  rintro e w6 ⟨rfl,hb6⟩
  go_wp2
  go_ret
  exact ⟨rfl,bstep B3.out hb6⟩
set_option maxRecDepth 100000 in
set_option maxHeartbeats 4000000 in
theorem walls_ok (a:Option Addr) (n c:Nat) (x:P3) (s t d:Int) (o1 o2 u1 u2 v1 v2:Int) (w:World) (h1:decide ((60:Int) < (n:Int))=false) (z1:v1≤0) (z2:0≤v2) (S1:Hid (∀ W,Below w.heap.size w W→Calls Tryz.prog 21 #[.slice a n c,ptv (x.1,x.2.1,0),.int .i64 s,.int .i64 t,.int .i64 d] W fun e w'=>e=.returned (spr ((o1,o2),0))∧Below W.heap.size W w')) (H1:Hid (∀ W,Below w.heap.size w W→Calls Tryz.prog 22 #[.slice a n c,ptv (x.1,x.2.1,0),.bool false,.int .i64 s,.int .i64 t,.int .i64 d] W fun e w'=>e=.returned (spr ((u1,u2),0))∧Below W.heap.size W w')) (T1:Hid (∀ W,Below w.heap.size w W→Calls Tryz.prog 22 #[.slice a n c,ptv (x.1,x.2.1,0),.bool true,.int .i64 s,.int .i64 t,.int .i64 d] W fun e w'=>e=.returned (spr ((v1,v2),0))∧Below W.heap.size W w')) (SS:Hid (∀ W,Calls Tryz.prog 23 #[spv o1 o2,.int .i64 2] W fun e w'=>e=.returned (spr ((u1,u2),0))∧Below W.heap.size W w')) (K:Hid (∀ W,Calls Tryz.prog 16 #[] W fun e w'=>e=.returned (.bool true)∧Below W.heap.size W w')):Calls Tryz.prog 6 #[.slice a n c,earv x s t d] w fun e w'=>e=.returned (.bool true)∧Below w.heap.size w w':=by
  have E0:=Lib.hid (ownE_new w (x.1,x.2.1,0) s t d 26)
  have B0:=Lib.hid (show Below w.heap.size w (w.alloc (earb (x.1,x.2.1,0) s t d 26)) by (repeat' (first | exact Below.refl _ _ | refine Below.setCell ?_ (by simp <;> omega) _ | refine balloc ?_ _ | refine Below.drew ?_ | refine bdrewN ?_ _)))
  go_enter Tryz.func6,Tryz.ntmps6
  go_wp2_with fail
  refine (S1.out _ B0.out).mono ?_
  rintro e w1 ⟨rfl,hb1⟩
  have E1:=Lib.hid (ownE_alloc (ownE_below E0.out hb1) (.cells #[.int .i64 o1,.int .i64 o2] 34))
  have Z1_1:=Lib.hid (pair_new w1 o1 o2 34)
  have B1:=Lib.hid (balloc (bstep B0.out hb1) (.cells #[.int .i64 o1,.int .i64 o2] 34))
  clear hb1
  obtain ⟨⟨q0,q1,q2,q3,q4,q5⟩,el⟩:=E1.out
  go_wp2_with fail
  refine (H1.out _ B1.out).mono ?_
  rintro e w2 ⟨rfl,hb2⟩
  clear q0 q1 q2 q3 q4 q5 el
  have E2:=Lib.hid (ownE_alloc (ownE_below E1.out hb2) (.cells #[.int .i64 u1,.int .i64 u2] 34))
  have Z1_2:=Lib.hid (pair_alloc (pair_below Z1_1.out hb2) (.cells #[.int .i64 u1,.int .i64 u2] 34))
  have Z2_2:=Lib.hid (pair_new w2 u1 u2 34)
  have B2:=Lib.hid (balloc (bstep B1.out hb2) (.cells #[.int .i64 u1,.int .i64 u2] 34))
  clear hb2
  obtain ⟨⟨q0,q1,q2,q3,q4,q5⟩,el⟩:=E2.out
  go_wp2_with fail
  refine (T1.out _ B2.out).mono ?_
  rintro e w3 ⟨rfl,hb3⟩
  clear q0 q1 q2 q3 q4 q5 el
  have Z1_3:=Lib.hid (pair_alloc (pair_below Z1_2.out hb3) (.cells #[.int .i64 v1,.int .i64 v2] 34))
  have Z2_3:=Lib.hid (pair_alloc (pair_below Z2_2.out hb3) (.cells #[.int .i64 v1,.int .i64 v2] 34))
  have Z3_3:=Lib.hid (pair_new w3 v1 v2 34)
  have B3:=Lib.hid (balloc (bstep B2.out hb3) (.cells #[.int .i64 v1,.int .i64 v2] 34))
  clear hb3
  obtain ⟨p0,p1,p2,p3,pl⟩:=Z1_3.out
  go_wp2_with fail
  refine (SS.out _).mono ?_
  rintro e w4 ⟨rfl,hb4⟩
  clear p0 p1 p2 p3 pl
  obtain ⟨p0,p1,p2,p3,pl⟩:=pair_alloc (pair_below Z2_3.out hb4) (.cells #[.int .i64 u1,.int .i64 u2] 34)
  obtain ⟨q0,q1,q2,q3,ql⟩:=pair_alloc (pair_below Z3_3.out hb4) (.cells #[.int .i64 u1,.int .i64 u2] 34)
  obtain ⟨r0,r1,r2,r3,rl⟩:=pair_new w4 u1 u2 34
  have B4:=Lib.hid (balloc (bstep B3.out hb4) (.cells #[.int .i64 u1,.int .i64 u2] 34))
  clear hb4
  go_wp2_with fail
  refine (K.out _).mono ?_
  rintro e w6 ⟨rfl,hb6⟩
  go_wp2
  go_ret
  exact ⟨rfl,bstep B4.out hb6⟩
theorem walls_walk (a:Option Addr) (n c:Nat) (Q:Nat→Pu) (x:P3) (s t d:Int) (w:World) (_:n≤maxLen) (hnil:a=none→c=0) (r:LstU w a n Q):Calls Tryz.prog 6 #[.slice a n c,earv x s t d] w fun e w'=>e=.returned (.bool true)∧Below w.heap.size w w':=by
  have K:=Lib.hid fun W=>sane_any W
  by_cases h1:(60:Int) < (n:Int)
  · exact walls_long a n c x s t d w h1 K
  have S1:=Lib.hid fun W (B:Below w.heap.size w W)=>scn_any a n c Q (x.1,x.2.1,0) s t d W (lstU_below r B) (by omega)
  have H1:=Lib.hid fun W (B:Below w.heap.size w W)=>ech_any a n c Q (x.1,x.2.1,0) false s t d W (lstU_below r B) hnil (by omega)
  have T1:=Lib.hid fun W (B:Below w.heap.size w W)=>ech_any a n c Q (x.1,x.2.1,0) true s t d W (lstU_below r B) hnil (by omega)
  obtain ⟨f1,f2⟩:=walls_fact n Q (x.1,x.2.1,0) s t d rfl
  generalize scnR n Q (x.1,x.2.1,0) s t d=ro at *
  generalize echR n Q false (x.1,x.2.1,0) s t d=rh at *
  generalize echR n Q true (x.1,x.2.1,0) s t d=rs at *
  obtain ⟨⟨o1,o2⟩,oe⟩:=ro
  obtain ⟨⟨u1,u2⟩,er⟩:=rh
  obtain ⟨⟨v1,v2⟩,er'⟩:=rs
  obtain rfl:er=er':=f1
  by_cases z:er=0
  · subst z
    obtain ⟨g1,g2,g3,g4⟩:=f2 rfl
    obtain rfl:oe=0:=g1
    have SS:=Lib.hid fun W=>scale_any o1 o2 2 W
    rw [show scaleR o1 o2 2=((u1,u2),0) from g2] at SS
    exact walls_ok a n c x s t d o1 o2 u1 u2 v1 v2 w (decide_eq_false h1) g3 g4 S1 H1 T1 SS K
  · exact walls_e a n c x s t d o1 o2 oe u1 u2 v1 v2 er w (decide_eq_false h1) (bne_iff_ne.2 z) S1 H1 T1 K
end Go.Proofs.YtgchcnpgjfoadaaGreat
