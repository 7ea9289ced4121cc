import Derived.Test.YtpocbdompamnnaaTr3
namespace Go.Proofs.Ytpocbdompamnnaa
open Go.ChangeShapes Go.WideShapes Go.RowKit
open Sh
attribute [local go_sem 1000000] run_min_mn run_max_mx
set_option maxRecDepth 100000 in
set_option maxHeartbeats 4000000 in
theorem middle_any (a b:Int) (w:World) (ha:-1000≤a∧a≤1000) (hb:-1000≤b∧b≤1000):Calls Try.prog 79 #[.int .i64 a,.int .i64 b] w fun e w'=>e=.returned (.int .i64 ((a + b) / 2))∧Grw w w':=by
  have e:(a + b) >>> 1=(a + b) / 2:=by
    rw [Int.shiftRight_eq_div_pow]
    rfl
  go_enter Try.func79,Try.ntmps79
  go_wp2
  go_ret
  exact ⟨rfl,grw_refl _⟩
def AR3 (w:World) (b:Nat) (f:Nat→Int):Prop:=(∀ k,k < 3→w.cell? ⟨b,k,none⟩=some (.int .i64 (f k))∧w.frozen? ⟨b,k,none⟩=false)∧b < w.heap.size
theorem ar3_below {w W:World} {b:Nat} {f:Nat→Int} (h:AR3 w b f) (hb:Below w.heap.size w W):AR3 W b f :=
  ⟨fun k hk=>⟨(hb.cell (p:=⟨b,k,none⟩) h.2).trans (h.1 k hk).1,(hb.frozen (p:=⟨b,k,none⟩) h.2).trans (h.1 k hk).2⟩,Nat.lt_of_lt_of_le h.2 hb.size⟩
theorem ar3_put {w:World} {b:Nat} {f g:Nat→Int} (h:AR3 w b f) {r:Nat} (hr:r < 3) (v:Int) (hg:∀ k,g k=if k=r then v else f k):AR3 (w.setCell ⟨b,r,none⟩ (.int .i64 v)) b g:=by
  refine ⟨fun k hk=>⟨?_,by simp only [World.frozen?_setCell];exact (h.1 k hk).2⟩,by simp;exact h.2⟩
  rw [hg]
  by_cases e:k=r
  · subst e
    rw [if_pos rfl]
    exact World.cell?_setCell_same _ _ _ (h.1 k hk).1
  · rw [if_neg e,World.cell?_setCell_other _ _ _ _ (by simp <;> omega)]
    exact (h.1 k hk).1
theorem ar3_other {w:World} {b c r:Nat} {f:Nat→Int} (h:AR3 w b f) (ne:b ≠ c) (v:Value):AR3 (w.setCell ⟨c,r,none⟩ v) b f:=by
  refine ⟨fun k hk=>⟨?_,by simp only [World.frozen?_setCell];exact (h.1 k hk).2⟩,by simp;exact h.2⟩
  rw [World.cell?_setCell_other _ _ _ _ (by simp <;> omega)]
  exact (h.1 k hk).1
theorem ar3_new (w:World) (p:P3) (t:TypeId) (b:Nat) (hb:b=w.heap.size):AR3 (w.alloc (.cells #[.int .i64 p.1,.int .i64 p.2.1,.int .i64 p.2.2] t)) b (fun k=>axC k p):=by
  subst hb
  refine ⟨fun k hk=>?_,by simp⟩
  have:k=0∨k=1∨k=2:=by omega
  rcases this with rfl | rfl | rfl
  · exact ⟨by show _=some (Value.int .i64 p.1);go_simp,by go_simp⟩
  · exact ⟨by show _=some (Value.int .i64 p.2.1);go_simp,by go_simp⟩
  · exact ⟨by show _=some (Value.int .i64 p.2.2);go_simp,by go_simp⟩
def mnJ (t:P3 × P3 × P3) (f:Nat→Int):Nat→Nat→Int
  | 0=>f
  | j + 1=>fun k=>Sp.mn (mnJ t f j k) (axC k (crn t j))
def mxJ (t:P3 × P3 × P3) (f:Nat→Int):Nat→Nat→Int
  | 0=>f
  | j + 1=>fun k=>Sp.mx (mxJ t f j k) (axC k (crn t j))
theorem mnJ_three (Q:Nat→Ch) (z:Nat→Int) (L:List Nat) {i:Nat} (h:i < L.length):mnJ (Q (L.getD i 0)).1 (fun k=>mnC Q k (z k) (L.take i)) 3=fun k=>mnC Q k (z k) (L.take (i + 1)):=by
  funext k
  rw [take_snoc9 L h,mnC_snoc]
  rfl
theorem mxJ_three (Q:Nat→Ch) (z:Nat→Int) (L:List Nat) {i:Nat} (h:i < L.length):mxJ (Q (L.getD i 0)).1 (fun k=>mxC Q k (z k) (L.take i)) 3=fun k=>mxC Q k (z k) (L.take (i + 1)):=by
  funext k
  rw [take_snoc9 L h,mxC_snoc]
  rfl
def stJ (v f:Nat→Int) (r k:Nat):Int:=if k < r then v k else f k
theorem stJ_zero (v f:Nat→Int):stJ v f 0=f:=by
  funext k
  rfl
theorem ar3_three {w:World} {b:Nat} {v f:Nat→Int} (h:AR3 w b (stJ v f 3)):AR3 w b v :=
  ⟨fun k hk=>⟨by have z:=(h.1 k hk).1;unfold stJ at z;rw [if_pos hk] at z;exact z,(h.1 k hk).2⟩,h.2⟩
theorem stJ_at (v f:Nat→Int) (r:Nat):stJ v f r r=f r:=if_neg (Nat.lt_irrefl r)
theorem stJ_next (v f:Nat→Int) (r:Nat):∀ k,stJ v f (r + 1) k=if k=r then v r else stJ v f r k:=fun k=>by
  unfold stJ
  by_cases e:k=r
  · subst e
    rw [if_pos (Nat.lt_succ_self k),if_pos rfl]
  · rw [if_neg e]
    by_cases l:k < r
    · rw [if_pos l,if_pos (by omega)]
    · rw [if_neg l,if_neg (by omega)]
def CeS (wr W:World) (lb:Nat) (f g:Nat→Int):Prop:=AR3 W lb f∧AR3 W (lb + 1) g∧Grw wr W
theorem ceS_grw {wr W W':World} {lb:Nat} {f g:Nat→Int} (h:CeS wr W lb f g) (v:Grw W W'):CeS wr W' lb f g:=⟨ar3_below h.1 v.1,ar3_below h.2.1 v.1,grw_step h.2.2 v⟩
theorem ceS_g {wr W:World} {lb:Nat} {f g:Nat→Int} (h:CeS wr W lb f g):Below wr.heap.size wr W:=h.2.2.1
theorem ceS_cells {wr W:World} {lb:Nat} {f g:Nat→Int} (h:CeS wr W lb f g):W.cell? ⟨lb,0,none⟩=some (.int .i64 (f 0))∧W.cell? ⟨lb,1,none⟩=some (.int .i64 (f 1))∧W.cell? ⟨lb,2,none⟩=some (.int .i64 (f 2))∧W.cell? ⟨lb + 1,0,none⟩=some (.int .i64 (g 0))∧W.cell? ⟨lb + 1,1,none⟩=some (.int .i64 (g 1))∧W.cell? ⟨lb + 1,2,none⟩=some (.int .i64 (g 2)) :=
  ⟨(h.1.1 0 (by decide)).1,(h.1.1 1 (by decide)).1,(h.1.1 2 (by decide)).1,(h.2.1.1 0 (by decide)).1,(h.2.1.1 1 (by decide)).1,(h.2.1.1 2 (by decide)).1⟩
theorem ceS_put {wr V:World} {lb rb:Nat} {f g:Nat→Int} (h:CeS wr V lb f g) (n0:¬ rb=lb) (n1:¬ rb=lb + 1) (u v x:Value):(((V.setCell ⟨rb,0,none⟩ u).setCell ⟨rb,1,none⟩ v).setCell ⟨rb,2,none⟩ x).cell? ⟨lb,0,none⟩=some (.int .i64 (f 0))∧(((V.setCell ⟨rb,0,none⟩ u).setCell ⟨rb,1,none⟩ v).setCell ⟨rb,2,none⟩ x).cell? ⟨lb,1,none⟩=some (.int .i64 (f 1))∧(((V.setCell ⟨rb,0,none⟩ u).setCell ⟨rb,1,none⟩ v).setCell ⟨rb,2,none⟩ x).cell? ⟨lb,2,none⟩=some (.int .i64 (f 2))∧(((V.setCell ⟨rb,0,none⟩ u).setCell ⟨rb,1,none⟩ v).setCell ⟨rb,2,none⟩ x).cell? ⟨lb + 1,0,none⟩=some (.int .i64 (g 0))∧(((V.setCell ⟨rb,0,none⟩ u).setCell ⟨rb,1,none⟩ v).setCell ⟨rb,2,none⟩ x).cell? ⟨lb + 1,1,none⟩=some (.int .i64 (g 1))∧(((V.setCell ⟨rb,0,none⟩ u).setCell ⟨rb,1,none⟩ v).setCell ⟨rb,2,none⟩ x).cell? ⟨lb + 1,2,none⟩=some (.int .i64 (g 2)):=by
  have a:=ar3_other (r:=2) (ar3_other (r:=1) (ar3_other (r:=0) h.1 (Ne.symm n0) u) (Ne.symm n0) v) (Ne.symm n0) x
  have b:=ar3_other (r:=2) (ar3_other (r:=1) (ar3_other (r:=0) h.2.1 (Ne.symm n1) u) (Ne.symm n1) v) (Ne.symm n1) x
  exact ⟨(a.1 0 (by decide)).1,(a.1 1 (by decide)).1,(a.1 2 (by decide)).1,(b.1 0 (by decide)).1,(b.1 1 (by decide)).1,(b.1 2 (by decide)).1⟩
set_option maxRecDepth 100000 in
set_option maxHeartbeats 4000000 in
theorem center_any (b off m c:Nat) (Q:Nat→Ch) (L:List Nat) (w:World) (hm:L.length=m) (h1:1≤m) (h96:m≤96) (rc:RowC w b off m (selC Q L)) (bd:BdQ Q L):Calls Try.prog 51 #[.slice (some ⟨b,off,none⟩) m c] w fun e w'=>e=.returned (ptv (cenC Q L))∧Below w.heap.size w w':=by
  obtain ⟨z,ez⟩:∃ z:Nat→Int,z=fun k=>axC k (Q (L.getD 0 0)).1.1:=⟨_,rfl⟩
  have BD:=Lib.hid bd
  have LM:=Lib.hid hm
  have hm':(m:Int)≤96:=by omega
  have h1':(0:Int) < (m:Int):=by omega
  have h1n:0 < m:=by omega
  have h1p:(1:Int)≤(m:Int):=by omega
  have RC:=Lib.hid rc
  have B0:=Lib.hid (show Below w.heap.size w (w.alloc (ptc (0,0,0) 38)) from (Below.refl _ _).alloc (Nat.le_refl _) _)
  have R0:=Lib.hid (own_new w (0,0,0) 38)
  have rc0:=rowC_in rc B0.out rc.1
  obtain ⟨c0,c1,c2,_⟩:=rc0.2 0 h1n
  simp only [Nat.zero_mul,Nat.add_zero] at c0 c1 c2
  have lb0:=rc0.1
  have AX0:=Lib.hid (fun W=>axes_any (selC Q L 0).1.1 W)
  have EZ:=Lib.hid (show (selC Q L 0).1.1=(Q (L.getD 0 0)).1.1 from rfl)
  have ZZ:=Lib.hid ez
  clear rc0 bd hm ez
  generalize (selC Q L 0).1.1=p0 at *
  obtain ⟨p1,p2,p3⟩:=p0
  have s0:(w.alloc (ptc (0,0,0) 38)).heap.size=w.heap.size + 1:=by simp
  go_enter Try.func51,Try.ntmps51
  go_wp2_with fail
  with_reducible refine (AX0.out _).mono ?_
  rintro e w1 ⟨rfl,g1⟩
  have B1:=Lib.hid (bstep B0.out g1.1)
  have R1:=Lib.hid (own_below R0.out g1.1)
  have s1:w.heap.size < w1.heap.size:=by have:=g1.1.size;simp at this;omega
  clear g1 c0 c1 c2 lb0 rc R0 B0
  have L1:=Lib.hid (show AR3 ((w1.alloc (.cells #[.int .i64 p1,.int .i64 p2,.int .i64 p3] 103)).alloc (.cells #[.int .i64 p1,.int .i64 p2,.int .i64 p3] 103)) w1.heap.size (fun k=>axC k (p1,p2,p3)) from ar3_below (ar3_new w1 (p1,p2,p3) 103 _ rfl) ((Below.refl _ _).alloc (Nat.le_refl _) _))
  have M1:=Lib.hid (show AR3 ((w1.alloc (.cells #[.int .i64 p1,.int .i64 p2,.int .i64 p3] 103)).alloc (.cells #[.int .i64 p1,.int .i64 p2,.int .i64 p3] 103)) (w1.heap.size + 1) (fun k=>axC k (p1,p2,p3)) from ar3_new (w1.alloc (.cells #[.int .i64 p1,.int .i64 p2,.int .i64 p3] 103)) (p1,p2,p3) 103 _ (by simp))
  have B2:=Lib.hid (show Below w.heap.size w ((w1.alloc (.cells #[.int .i64 p1,.int .i64 p2,.int .i64 p3] 103)).alloc (.cells #[.int .i64 p1,.int .i64 p2,.int .i64 p3] 103)) from balloc (balloc B1.out _) _)
  have R2:=Lib.hid (own_alloc (own_alloc R1.out (.cells #[.int .i64 p1,.int .i64 p2,.int .i64 p3] 103)) (.cells #[.int .i64 p1,.int .i64 p2,.int .i64 p3] 103))
  go_upto_region 3 with fail
  generalize ((w1.alloc (.cells #[.int .i64 p1,.int .i64 p2,.int .i64 p3] 103)).alloc (.cells #[.int .i64 p1,.int .i64 p2,.int .i64 p3] 103))=w2 at *
  have zz:(fun k=>axC k (p1,p2,p3))=z:=by rw [ZZ.out,← EZ.out]
  rw [zz] at L1 M1
  clear zz B1 R1 AX0 EZ
  obtain ⟨lb,elb⟩:∃ lb,w1.heap.size=lb:=⟨_,rfl⟩
  rw [elb] at L1 M1 s1
  simp only [elb]
  have ELB:=Lib.hid elb
  clear elb
  go_wp2
  go_loopw [20] (fun kv wr=>∃ i:Nat,i≤m∧kv=.int .i64 i∧AR3 wr lb (fun k=>mnC Q k (z k) (L.take i))∧AR3 wr (lb + 1) (fun k=>mxC Q k (z k) (L.take i))∧Own wr w.heap.size (0,0,0)∧Below w.heap.size w wr) (fun kv _=>m - (intOf kv).toNat)
  case atStart=>exact ⟨0,Nat.zero_le _,rfl,L1.out,M1.out,R2.out,B2.out⟩
  case round =>
    obtain ⟨i,hi,rfl,hl,hx,hr,hb⟩:=hrel
    have L2:=Lib.hid hl
    have M2:=Lib.hid hx
    have R3:=Lib.hid hr
    have B3:=Lib.hid hb
    clear hl hx hr hb L1 M1 R2 B2
    by_cases hlt:i < m
    · have hi1:(i:Int) < (m:Int):=by omega
      have C3:=rowC_in RC.out B3.out RC.out.1
      obtain ⟨e0,e1,e2,e3,e4,e5,e6,e7,e8,e9⟩:=C3.2 i hlt
      have lbb:=C3.1
      have N3:=Lib.hid (mnJ_three Q z L (i:=i) (by rw [LM.out];omega))
      have X3:=Lib.hid (mxJ_three Q z L (i:=i) (by rw [LM.out];omega))
      have EQ:selC Q L i=Q (L.getD i 0):=rfl
      rw [← EQ] at N3 X3
      clear C3 EQ
      generalize selC Q L i=q at *
      obtain ⟨t,d⟩:=q
      have CR:=Lib.hid (fun W=>corners_tr (t,d) W)
      have CB:=Lib.hid ((Below.refl wr.heap.size wr).alloc (Nat.le_refl _) (chb (t,d) 75))
      dsimp only at N3 X3 e0 e1 e2 e3 e4 e5 e6 e7 e8 e9
      generalize (fun k=>mnC Q k (z k) (L.take i))=f at *
      generalize (fun k=>mxC Q k (z k) (L.take i))=g at *
      go_wp2_with fail
      with_reducible refine (CR.out _).mono ?_
      rintro e w4 ⟨rfl,g4⟩
      have B4:=Lib.hid (bstep CB.out g4.1)
      have L4:=Lib.hid (ar3_below L2.out B4.out)
      have M4:=Lib.hid (ar3_below M2.out B4.out)
      have R4:=Lib.hid (own_below R3.out B4.out)
      have B5:=Lib.hid (bstep B3.out B4.out)
      clear g4 B4 L2 M2 R3 B3 e0 e1 e2 e3 e4 e5 e6 e7 e8 e9 CB CR
      go_wp2
      go_loopw [26] (fun kv wr=>∃ j:Nat,j≤3∧kv=.int .i64 j∧AR3 wr lb (mnJ t f j)∧AR3 wr (lb + 1) (mxJ t g j)∧Own wr w.heap.size (0,0,0)∧Below w.heap.size w wr) (fun kv _=>3 - (intOf kv).toNat)
      case atStart=>exact ⟨0,Nat.zero_le _,rfl,L4.out,M4.out,R4.out,B5.out⟩
      case round =>
        obtain ⟨j,hj,rfl,hl,hx,hr,hb⟩:=hrel
        have L5:=Lib.hid hl
        have M5:=Lib.hid hx
        have R5:=Lib.hid hr
        have B6:=Lib.hid hb
        clear hl hx hr hb L4 M4 R4 B5
        by_cases hj3:j < 3
        · have hj1:(j:Int) < 3:=by omega
          have X:=fun W=>ix9_any t (k:=j) hj3 W
          have NJ:=Lib.hid (show mnJ t f (j + 1)=fun k=>Sp.mn (mnJ t f j k) (axC k (crn t j)) from rfl)
          have XJ:=Lib.hid (show mxJ t g (j + 1)=fun k=>Sp.mx (mxJ t g j k) (axC k (crn t j)) from rfl)
          generalize crn t j=u at *
          generalize mnJ t f j=fj at *
          generalize mxJ t g j=gj at *
          obtain ⟨u1,u2,u3⟩:=u
          have AX:=Lib.hid (fun W=>axes_any (u1,u2,u3) W)
          have UB:=Lib.hid ((Below.refl wr.heap.size wr).alloc (Nat.le_refl _) (ptc (u1,u2,u3) 38))
          go_wp2_with fail
          with_reducible refine (AX.out _).mono ?_
          rintro e w5 ⟨rfl,g5⟩
          have B7:=Lib.hid (bstep UB.out g5.1)
          have L6:=Lib.hid (ar3_below L5.out B7.out)
          have M6:=Lib.hid (ar3_below M5.out B7.out)
          have R6:=Lib.hid (own_below R5.out B7.out)
          have B8:=Lib.hid (bstep B6.out B7.out)
          clear g5 B7 L5 M5 R5 B6 UB AX X
          go_wp2
          go_loopw [31] (fun kv wr=>∃ r:Nat,r≤3∧kv=.int .i64 r∧AR3 wr lb (stJ (fun k=>Sp.mn (fj k) (axC k (u1,u2,u3))) fj r)∧AR3 wr (lb + 1) (stJ (fun k=>Sp.mx (gj k) (axC k (u1,u2,u3))) gj r)∧Own wr w.heap.size (0,0,0)∧Below w.heap.size w wr) (fun kv _=>3 - (intOf kv).toNat)
          case atStart=>exact ⟨0,Nat.zero_le _,rfl,by rw [stJ_zero];exact L6.out,by rw [stJ_zero];exact M6.out,R6.out,B8.out⟩
          case round =>
            obtain ⟨r,hr3,rfl,hl,hx,hr,hb⟩:=hrel
            have L7:=Lib.hid hl
            have M7:=Lib.hid hx
            have R7:=Lib.hid hr
            have B9:=Lib.hid hb
            clear hl hx hr hb L6 M6 R6 B8
            by_cases hlr:r < 3
            · have hr1:(r:Int) < 3:=by omega
              have I3:=fun W=>ix3_any (u1,u2,u3) (k:=r) hlr W
              obtain ⟨l0,l1⟩:=L7.out.1 r hlr
              obtain ⟨m0,m1⟩:=M7.out.1 r hlr
              rw [stJ_at] at l0 m0
              have ll:=L7.out.2
              have NL9:=Lib.hid (stJ_next (fun k=>Sp.mn (fj k) (axC k (u1,u2,u3))) fj r)
              have NM9:=Lib.hid (stJ_next (fun k=>Sp.mx (gj k) (axC k (u1,u2,u3))) gj r)
              have ne9:¬ lb + 1=lb:=by omega
              have ne8:lb ≠ lb + 1:=by omega
              go_upto_region 12 with fail
              go_region
              all_goals
                go_wp2
                go_roundw
                case rel =>
                  exact ⟨r + 1,by omega,by go_num,ar3_other (ar3_put L7.out hlr _ NL9.out) ne8 _,ar3_put (ar3_other M7.out ne8.symm _) hlr _ NM9.out,own_set (own_set R7.out (by omega)) (by omega),Below.drew (Below.setCell (Below.setCell B9.out (by show w.heap.size≤lb;omega) _) (by show w.heap.size≤lb + 1;omega) _)⟩
                case measure=>simp [intOf];omega
            · obtain rfl:r=3:=by omega
              have L8:=Lib.hid (ar3_three L7.out)
              have M8:=Lib.hid (ar3_three M7.out)
              go_wp2
              go_roundw
              case rel=>exact ⟨j + 1,by omega,by go_num,by rw [NJ.out];exact L8.out,by rw [XJ.out];exact M8.out,R7.out,B9.out⟩
              case measure=>simp [intOf];omega
        · obtain rfl:j=3:=by omega
          go_wp2
          go_roundw
          case rel=>exact ⟨i + 1,by omega,by go_num,by rw [← N3.out];exact L5.out,by rw [← X3.out];exact M5.out,R5.out,B6.out⟩
          case measure=>simp [intOf];omega
    · obtain rfl:i=m:=by omega
      have e9:L.take i=L:=by rw [← LM.out];exact List.take_length
      have hd:L.getD 0 0 ∈ L:=getD_mem9 (by rw [LM.out];omega)
      have ef:(fun k=>mnC Q k (z k) (L.take i))=fun k=>mnC Q k 64 L:=by
        funext k
        rw [e9,ZZ.out]
        exact mnC_from BD.out (List.Perm.refl _) k hd
      have eg:(fun k=>mxC Q k (z k) (L.take i))=fun k=>mxC Q k (-64) L:=by
        funext k
        rw [e9,ZZ.out]
        exact mxC_from BD.out (List.Perm.refl _) k hd
      rw [ef] at L2
      rw [eg] at M2
      clear ef eg e9 hd
      have bl:=fun k=>mnC_bd BD.out k (z:=64) (by omega)
      have bg:=fun k=>mxC_bd BD.out k (z:=-64) (by omega)
      have CN:=Lib.hid (show cenC Q L=((mnC Q 0 64 L + mxC Q 0 (-64) L) / 2,(mnC Q 1 64 L + mxC Q 1 (-64) L) / 2,(mnC Q 2 64 L + mxC Q 2 (-64) L) / 2) from rfl)
      obtain ⟨f,ef⟩:∃ f:Nat→Int,(fun k=>mnC Q k 64 L)=f:=⟨_,rfl⟩
      obtain ⟨g,eg⟩:∃ g:Nat→Int,(fun k=>mxC Q k (-64) L)=g:=⟨_,rfl⟩
      have f0:∀ k,mnC Q k 64 L=f k:=fun k=>congrFun ef k
      have g0:∀ k,mxC Q k (-64) L=g k:=fun k=>congrFun eg k
      rw [ef] at L2
      rw [eg] at M2
      simp only [f0,g0] at bl bg CN
      have D0:=Lib.hid (fun W=>middle_any (f 0) (g 0) W (by have:=bl 0;omega) (by have:=bg 0;omega))
      have D1:=Lib.hid (fun W=>middle_any (f 1) (g 1) W (by have:=bl 1;omega) (by have:=bg 1;omega))
      have D2:=Lib.hid (fun W=>middle_any (f 2) (g 2) W (by have:=bl 2;omega) (by have:=bg 2;omega))
      clear ef eg f0 g0 bl bg
      have wl:w.heap.size < lb:=s1
      have ne0:¬ w.heap.size=lb:=by omega
      have ne1:¬ w.heap.size=lb + 1:=by omega
      go_upto_region 16 with fail
      have p0:CeS wr wr.drew lb f g:=⟨L2.out,M2.out,grw_drew (grw_refl _)⟩
      obtain ⟨r0,r1,r2,r3,r4,r5,r6⟩:=own_drew R3.out
      go_region_held3 (fun w'=>w'.cell? ⟨lb,0,none⟩=some (.int .i64 (f 0))∧w'.cell? ⟨lb,1,none⟩=some (.int .i64 (f 1))∧w'.cell? ⟨lb,2,none⟩=some (.int .i64 (f 2))∧w'.cell? ⟨lb + 1,0,none⟩=some (.int .i64 (g 0))∧w'.cell? ⟨lb + 1,1,none⟩=some (.int .i64 (g 1))∧w'.cell? ⟨lb + 1,2,none⟩=some (.int .i64 (g 2)))
        (first | (with_reducible exact ceS_cells p0) | (with_reducible exact ceS_cells p1) | (with_reducible exact ceS_cells p2) | (with_reducible exact ceS_cells p3) | (with_reducible exact ceS_put p3 ne0 ne1 _ _ _) | fail)
        (first
          | (go_at_call 79;(first | (with_reducible refine (D0.out _).mono ?_) | (with_reducible refine (D1.out _).mono ?_) | (with_reducible refine (D2.out _).mono ?_));rintro e y ⟨rfl,hv⟩;(first | (have p3:=ceS_grw p2 hv;have O3:=own_below R3.out (ceS_g p3);obtain ⟨r0,r1,r2,r3,r4,r5,r6⟩:=O3) | (have p2:=ceS_grw p1 hv) | (have p1:=ceS_grw p0 hv)))
          | fail)
      have hB:=bstep B3.out (ceS_g p3)
      go_wp2
      refine bodyPost_ret (v:=ptv ((f 0 + g 0) / 2,(f 1 + g 1) / 2,(f 2 + g 2) / 2)) (by rw [results_cell rfl];go_simp) rfl ⟨by rw [CN.out],?_⟩
      exact Below.setCell (Below.setCell (Below.setCell hB (Nat.le_refl _) _) (Nat.le_refl _) _) (Nat.le_refl _) _
end Go.Proofs.Ytpocbdompamnnaa
