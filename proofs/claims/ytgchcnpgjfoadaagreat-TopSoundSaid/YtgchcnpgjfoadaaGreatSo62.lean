import Derived.Test.YtgchcnpgjfoadaaGreatSo60
import Derived.Test.YtgchcnpgjfoadaaGreatSo61
import Derived.Test.YtgchcnpgjfoadaaGreatSoE
namespace Go.Proofs.YtgchcnpgjfoadaaGreat
open Go.ChangeShapes Go.WideShapes Go.RowKit
open Sh
set_option maxRecDepth 100000 in
set_option maxHeartbeats 4000000 in
theorem quiet_hi (a:Option Addr) (n c:Nat) (x:P3) (s t d:Int) (w:World) (h:(60:Int) < (n:Int)) (K:Hid (∀ W,Calls Tryz.prog 16 #[] W fun e w'=>e=.returned (.bool true)∧Below W.heap.size W w')):Calls Tryz.prog 5 #[.slice a n c,earv x s t d] w fun e w'=>e=.returned (.bool true)∧Below w.heap.size w w':=by
  have E0:=Lib.hid (ownE_new w x s t d 26)
  have B0:=Lib.hid (show Below w.heap.size w (w.alloc (earb x s t d 26)) from (Below.refl _ w).alloc (Nat.le_refl _) _)
  go_enter Tryz.func5,Tryz.ntmps5
  go_wp2_with fail
  with_reducible refine (K.out _).mono ?_
  rintro e w1 ⟨rfl,hb1⟩
  have hB:=bstep B0.out hb1
  clear hb1
  go_wp2
  go_ret
  exact ⟨rfl,by (repeat' (first | with_reducible exact hB | with_reducible refine Below.drew ?_ | (with_reducible refine balloc ?_ _) | (with_reducible refine Below.setCell ?_ (by simp <;> omega) _)))⟩
set_option maxRecDepth 100000 in
set_option maxHeartbeats 4000000 in
theorem quiet_er (a:Option Addr) (n c:Nat) (x:P3) (s t d k l er m:Int) (w:World) (h:¬ (60:Int) < (n:Int)) (he:(er != 0)=true) (R:World→Value→Prop) (RB:Hid (∀ v W W',R W v→Below W.heap.size W W'→R W' v)) (T1:Hid (∀ W,Below w.heap.size w W→Calls Tryz.prog 7 #[.slice a n c,ptv x,.int .i64 s] W fun e w'=>e=.returned (.tuple #[.int .i64 k,.int .i64 l,.int .i64 er])∧Below W.heap.size W w')) (T2:Hid (∀ W,Below w.heap.size w W→Calls Tryz.prog 17 #[.slice a n c,ptv x,.int .i64 s] W fun e w'=>e=.returned (.tuple #[.int .i64 k,.int .i64 l,.int .i64 er])∧Below W.heap.size W w')) (O1:Hid (∀ W,Below w.heap.size w W→Calls Tryz.prog 18 #[.slice a n c,ptv x,.int .i64 s] W fun e w'=>∃ v,e=.returned (.tuple #[v,.int .i64 m])∧R w' v∧Below W.heap.size W w')) (O2:Hid (∀ W,Below w.heap.size w W→Calls Tryz.prog 19 #[.slice a n c,ptv x,.int .i64 s] W fun e w'=>∃ v,e=.returned (.tuple #[v,.int .i64 m])∧R w' v∧Below W.heap.size W w')) (S:Hid (∀ W u v,R W u→R W v→Calls Tryz.prog 20 #[u,v] W fun e w'=>e=.returned (.bool true)∧Below W.heap.size W w')) (K:Hid (∀ W,Calls Tryz.prog 16 #[] W fun e w'=>e=.returned (.bool true)∧Below W.heap.size W w')):Calls Tryz.prog 5 #[.slice a n c,earv x s t d] w fun e w'=>e=.returned (.bool true)∧Below w.heap.size w w':=by
  have E0:=Lib.hid (ownE_new w x s t d 26)
  have B0:=Lib.hid (show Below w.heap.size w (w.alloc (earb x s t d 26)) from (Below.refl _ w).alloc (Nat.le_refl _) _)
  go_enter Tryz.func5,Tryz.ntmps5
  have kk:(k != k)=false:=by simp
  have ll:(l != l)=false:=by simp
  have ee:(er != er)=false:=by simp
  have mm:(m != m)=false:=by simp
  obtain ⟨⟨h0,h1,h2,h3,h4,h5⟩,el⟩:=E0.out
  go_wp2_with fail
  with_reducible refine (T1.out _ B0.out).mono ?_
  rintro e w1 ⟨rfl,hb1⟩
  have E1:=Lib.hid (ownE_below E0.out hb1)
  have B1:=Lib.hid (bstep B0.out hb1)
  clear h0 h1 h2 h3 h4 h5 el E0 B0
  obtain ⟨⟨h0,h1,h2,h3,h4,h5⟩,el⟩:=E1.out
  go_wp2_with fail
  with_reducible refine (T2.out _ B1.out).mono ?_
  rintro e w2 ⟨rfl,hb2⟩
  have E2:=Lib.hid (ownE_below E1.out hb2)
  have B2:=Lib.hid (bstep B1.out hb2)
  clear h0 h1 h2 h3 h4 h5 el E1 B1
  obtain ⟨⟨h0,h1,h2,h3,h4,h5⟩,el⟩:=E2.out
  go_wp2_with fail
  with_reducible refine (O1.out _ B2.out).mono ?_
  rintro e w3 ⟨u,rfl,q3,hb3⟩
  have U3:=Lib.hid q3
  clear q3
  have E3:=Lib.hid (ownE_below E2.out hb3)
  have B3:=Lib.hid (bstep B2.out hb3)
  clear h0 h1 h2 h3 h4 h5 el E2 B2
  obtain ⟨⟨h0,h1,h2,h3,h4,h5⟩,el⟩:=E3.out
  go_wp2_with fail
  with_reducible refine (O2.out _ B3.out).mono ?_
  rintro e w4 ⟨v,rfl,q4,hb4⟩
  have U4:=Lib.hid (RB.out _ _ _ U3.out hb4)
  have V4:=Lib.hid q4
  clear q4 U3
  have E4:=Lib.hid (ownE_below E3.out hb4)
  have B4:=Lib.hid (bstep B3.out hb4)
  clear h0 h1 h2 h3 h4 h5 el E3 B3
  obtain ⟨⟨h0,h1,h2,h3,h4,h5⟩,el⟩:=E4.out
  go_wp2_with fail
  with_reducible refine (S.out _ _ _ U4.out V4.out).mono ?_
  rintro e w5 ⟨rfl,hb5⟩
  have E5:=Lib.hid (ownE_below E4.out hb5)
  have B5:=Lib.hid (bstep B4.out hb5)
  clear h0 h1 h2 h3 h4 h5 el E4 B4
  go_wp2_with fail
  with_reducible refine (K.out _).mono ?_
  rintro e w6 ⟨rfl,hb6⟩
  have hB:=bstep B5.out hb6
  clear hb6
  go_wp2
  go_ret
  exact ⟨rfl,by (repeat' (first | with_reducible exact hB | with_reducible refine Below.drew ?_ | (with_reducible refine balloc ?_ _) | (with_reducible refine Below.setCell ?_ (by simp <;> omega) _)))⟩
set_option maxRecDepth 100000 in
set_option maxHeartbeats 4000000 in
theorem quiet_ok (a:Option Addr) (n c:Nat) (x:P3) (s t d k l er m p q cd:Int) (w:World) (h:¬ (60:Int) < (n:Int)) (he:er=0) (R:World→Value→Prop) (RB:Hid (∀ v W W',R W v→Below W.heap.size W W'→R W' v)) (T1:Hid (∀ W,Below w.heap.size w W→Calls Tryz.prog 7 #[.slice a n c,ptv x,.int .i64 s] W fun e w'=>e=.returned (.tuple #[.int .i64 k,.int .i64 l,.int .i64 er])∧Below W.heap.size W w')) (T2:Hid (∀ W,Below w.heap.size w W→Calls Tryz.prog 17 #[.slice a n c,ptv x,.int .i64 s] W fun e w'=>e=.returned (.tuple #[.int .i64 k,.int .i64 l,.int .i64 er])∧Below W.heap.size W w')) (O1:Hid (∀ W,Below w.heap.size w W→Calls Tryz.prog 18 #[.slice a n c,ptv x,.int .i64 s] W fun e w'=>∃ v,e=.returned (.tuple #[v,.int .i64 m])∧R w' v∧Below W.heap.size W w')) (O2:Hid (∀ W,Below w.heap.size w W→Calls Tryz.prog 19 #[.slice a n c,ptv x,.int .i64 s] W fun e w'=>∃ v,e=.returned (.tuple #[v,.int .i64 m])∧R w' v∧Below W.heap.size W w')) (S:Hid (∀ W u v,R W u→R W v→Calls Tryz.prog 20 #[u,v] W fun e w'=>e=.returned (.bool true)∧Below W.heap.size W w')) (C:Hid (∀ W,Below w.heap.size w W→Calls Tryz.prog 21 #[.slice a n c,ptv x,.int .i64 s,.int .i64 t,.int .i64 d] W fun e w'=>e=.returned (spr ((p,q),cd))∧Below W.heap.size W w')) (Z:Hid (0≤t→t≤2000→0≤d→d≤3→t < k∨l < t→p=0∧q=0∧cd=0)) (K:Hid (∀ W,Calls Tryz.prog 16 #[] W fun e w'=>e=.returned (.bool true)∧Below W.heap.size W w')):Calls Tryz.prog 5 #[.slice a n c,earv x s t d] w fun e w'=>e=.returned (.bool true)∧Below w.heap.size w w':=by
  subst he
  have E0:=Lib.hid (ownE_new w x s t d 26)
  have B0:=Lib.hid (show Below w.heap.size w (w.alloc (earb x s t d 26)) from (Below.refl _ w).alloc (Nat.le_refl _) _)
  go_enter Tryz.func5,Tryz.ntmps5
  have kk:(k != k)=false:=by simp
  have ll:(l != l)=false:=by simp
  have mm:(m != m)=false:=by simp
  obtain ⟨⟨h0,h1,h2,h3,h4,h5⟩,el⟩:=E0.out
  go_wp2_with fail
  with_reducible refine (T1.out _ B0.out).mono ?_
  rintro e w1 ⟨rfl,hb1⟩
  have E1:=Lib.hid (ownE_below E0.out hb1)
  have B1:=Lib.hid (bstep B0.out hb1)
  clear h0 h1 h2 h3 h4 h5 el E0 B0
  obtain ⟨⟨h0,h1,h2,h3,h4,h5⟩,el⟩:=E1.out
  go_wp2_with fail
  with_reducible refine (T2.out _ B1.out).mono ?_
  rintro e w2 ⟨rfl,hb2⟩
  have E2:=Lib.hid (ownE_below E1.out hb2)
  have B2:=Lib.hid (bstep B1.out hb2)
  clear h0 h1 h2 h3 h4 h5 el E1 B1
  obtain ⟨⟨h0,h1,h2,h3,h4,h5⟩,el⟩:=E2.out
  go_wp2_with fail
  with_reducible refine (O1.out _ B2.out).mono ?_
  rintro e w3 ⟨u,rfl,q3,hb3⟩
  have U3:=Lib.hid q3
  clear q3
  have E3:=Lib.hid (ownE_below E2.out hb3)
  have B3:=Lib.hid (bstep B2.out hb3)
  clear h0 h1 h2 h3 h4 h5 el E2 B2
  obtain ⟨⟨h0,h1,h2,h3,h4,h5⟩,el⟩:=E3.out
  go_wp2_with fail
  with_reducible refine (O2.out _ B3.out).mono ?_
  rintro e w4 ⟨v,rfl,q4,hb4⟩
  have U4:=Lib.hid (RB.out _ _ _ U3.out hb4)
  have V4:=Lib.hid q4
  clear q4 U3
  have E4:=Lib.hid (ownE_below E3.out hb4)
  have B4:=Lib.hid (bstep B3.out hb4)
  clear h0 h1 h2 h3 h4 h5 el E3 B3
  obtain ⟨⟨h0,h1,h2,h3,h4,h5⟩,el⟩:=E4.out
  go_wp2_with fail
  with_reducible refine (S.out _ _ _ U4.out V4.out).mono ?_
  rintro e w5 ⟨rfl,hb5⟩
  have E5:=Lib.hid (ownE_below E4.out hb5)
  have B5:=Lib.hid (bstep B4.out hb5)
  clear h0 h1 h2 h3 h4 h5 el E4 B4
  obtain ⟨⟨h0,h1,h2,h3,h4,h5⟩,el⟩:=E5.out
  go_wp2_with fail
  with_reducible refine (C.out _ B5.out).mono ?_
  rintro e w6 ⟨rfl,hb6⟩
  clear h0 h1 h2 h3 h4 h5 el
  have ZB:=Lib.hid ((Below.refl w6.heap.size w6).alloc (Nat.le_refl _) (.cells #[.int .i64 p,.int .i64 q] 34))
  have E6:=Lib.hid (ownE_below (ownE_below E5.out hb6) ZB.out)
  have B6:=Lib.hid (balloc (bstep B5.out hb6) (.cells #[.int .i64 p,.int .i64 q] 34))
  have P6:=Lib.hid (pair_new w6 p q 34)
  clear hb6 ZB E5 B5
  obtain ⟨⟨h0,h1,h2,h3,h4,h5⟩,el⟩:=E6.out
  obtain ⟨a10,a11,a12,a13,a14⟩:=P6.out
  go_wp2_with fail
  all_goals subst_vars
  all_goals first
    | (with_reducible refine (K.out _).mono ?_
       rintro e w7 ⟨rfl,hb7⟩
       have hB:=bstep B6.out hb7
       clear hb7
       go_wp2
       go_ret
       exact ⟨rfl,by (repeat' (first | with_reducible exact hB | with_reducible refine Below.drew ?_ | (with_reducible refine balloc ?_ _) | (with_reducible refine Below.setCell ?_ (by simp <;> omega) _)))⟩)
    | (exfalso
       have zz:=Z.out
       omega)
theorem ordA_below {W W':World} {B n:Nat} {Q:Nat→Pu} {x:P3} {s:Int} {v:Value} (h:OrdA W B n Q x s v) (b:Below W.heap.size W W'):OrdA W' B n Q x s v:=by
  unfold OrdA at *
  by_cases z:mcT n Q x s=0
  · rw [if_pos z] at h ⊢
    obtain ⟨L,h1,h2⟩:=h
    exact ⟨L,h1,own_below9 h2 b⟩
  · rw [if_neg z] at h ⊢
    exact h
theorem quiet_walk (a:Option Addr) (n c:Nat) (Q:Nat→Pu) (x:P3) (s t d:Int) (w:World) (hm:n≤maxLen) (hz:(a=none→c=0)∧n≤c) (r:LstU w a n Q):Calls Tryz.prog 5 #[.slice a n c,earv x s t d] w fun e w'=>e=.returned (.bool true)∧Below w.heap.size w w':=by
  unfold maxLen at hm
  have K:=Lib.hid fun W=>sane_any W
  have h16:mcT n Q x s=0→n≤16:=fun z=>(mcT_ok z).1.1
  by_cases h:(60:Int) < (n:Int)
  · exact quiet_hi a n c x s t d w h K
  have RB:=Lib.hid (fun v W W' (p:∃ B,OrdA W B n Q x s v) b=>p.imp fun _ p=>ordA_below p b:∀ v W W',(∃ B,OrdA W B n Q x s v)→Below W.heap.size W W'→∃ B,OrdA W' B n Q x s v)
  have T1:=Lib.hid fun W (B:Below w.heap.size w W)=>tic_any a n c Q x s W (lstU_below r B) (by omega) hz.2
  have T2:=Lib.hid fun W (B:Below w.heap.size w W)=>rtic_any a n c Q x s W (lstU_below r B) (by omega)
  have O1:=Lib.hid (fun W B=>(ord_any a n c Q x s W (lstU_below r B) (by omega)).mono fun e w' ⟨v,h1,h2,h3⟩=>⟨v,h1,⟨_,h2⟩,h3⟩:∀ W,Below w.heap.size w W→Calls Tryz.prog 18 #[.slice a n c,ptv x,.int .i64 s] W fun e w'=>∃ v,e=.returned (.tuple #[v,.int .i64 (mcT n Q x s)])∧(∃ B,OrdA w' B n Q x s v)∧Below W.heap.size W w')
  have O2:=Lib.hid (fun W B=>(ror_any a n c Q x s W (lstU_below r B) (by omega)).mono fun e w' ⟨v,h1,h2,h3⟩=>⟨v,h1,⟨_,h2⟩,h3⟩:∀ W,Below w.heap.size w W→Calls Tryz.prog 19 #[.slice a n c,ptv x,.int .i64 s] W fun e w'=>∃ v,e=.returned (.tuple #[v,.int .i64 (mcT n Q x s)])∧(∃ B,OrdA w' B n Q x s v)∧Below W.heap.size W w')
  have S:=Lib.hid (fun W u v p q=>by obtain ⟨_,p⟩:=p;obtain ⟨_,q⟩:=q;exact ord_same h16 p q:∀ W u v,(∃ B,OrdA W B n Q x s u)→(∃ B,OrdA W B n Q x s v)→Calls Tryz.prog 20 #[u,v] W fun e w'=>e=.returned (.bool true)∧Below W.heap.size W w')
  by_cases e:tkE n Q x s=0
  · refine quiet_ok a n c x s t d _ _ _ _ (scnR n Q x s t d).1.1 (scnR n Q x s t d).1.2 (scnR n Q x s t d).2 w h e _ RB T1 T2 O1 O2 S (Lib.hid fun W B=>scn_any a n c Q x s t d W (lstU_below r B) (by omega)) (Lib.hid fun t1 t2 d1 d2 y=>?_) K
    rw [scn_quiet e t1 t2 d1 d2 y]
    exact ⟨rfl,rfl,rfl⟩
  · exact quiet_er a n c x s t d _ _ _ _ w h (bne_iff_ne.2 e) _ RB T1 T2 O1 O2 S K
end Go.Proofs.YtgchcnpgjfoadaaGreat
