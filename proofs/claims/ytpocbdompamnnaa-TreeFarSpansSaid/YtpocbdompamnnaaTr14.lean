import Derived.Test.YtpocbdompamnnaaTr10
import Derived.Test.YtpocbdompamnnaaTr13
namespace Go.Proofs.Ytpocbdompamnnaa
open Go.ChangeShapes Go.WideShapes Go.RowKit
open Sh
set_option maxRecDepth 100000 in
set_option maxHeartbeats 4000000 in
theorem tir_any (k lo hi:Int) (w:World):Calls Try.prog 23 #[.int .i64 k,.int .i64 lo,.int .i64 hi] w fun e w'=>e=.returned (.bool (rngB k lo hi))∧Below w.heap.size w w':=by
  unfold rngB
  by_cases h:lo≤k
  · have h1:decide (lo≤k)=true:=decide_eq_true h
    rw [show decide (lo≤k∧k≤hi)=decide (k≤hi) by simp [h]]
    go_enter Try.func23,Try.ntmps23
    go_wp2
    go_ret
    exact ⟨rfl,by (repeat' (first | exact Below.refl _ _ | refine Below.setCell ?_ (by simp <;> omega) _ | refine balloc ?_ _ | refine Below.drew ?_ | refine bdrewN ?_ _))⟩
  · have h1:decide (lo≤k)=false:=decide_eq_false h
    rw [show decide (lo≤k∧k≤hi)=false by simp [h]]
    go_enter Try.func23,Try.ntmps23
    go_wp2
    go_ret
    exact ⟨rfl,by (repeat' (first | exact Below.refl _ _ | refine Below.setCell ?_ (by simp <;> omega) _ | refine balloc ?_ _ | refine Below.drew ?_ | refine bdrewN ?_ _))⟩
def bldE (n:Nat) (Q:Nat→Ch) (leaf:Int):Int:=if ccode n Q=0 then (if rngB leaf 1 16 then 0 else 1) else ccode n Q
def treT (Q:Nat→Ch) (leaf n:Nat):List Nd × List Nat:=if n=0 then ([],[]) else gro Q leaf (ballC Q) n (List.range n) 0 0
theorem treT_fill {Q:Nat→Ch} {leaf n:Nat} (h1:1≤leaf) (h:1≤n):treT Q leaf n=((barT Q leaf n).1.map (filC (ballC Q) (barT Q leaf n).2),(barT Q leaf n).2)∧∀ x,x ∈ (barT Q leaf n).1→FitN n x:=by
  unfold treT
  rw [if_neg (by omega),barT_pos h]
  have pl:=(gro_perm (Q:=Q) (leaf:=leaf) (N:=ball0) n (List.range n) 0 0).length_eq
  rw [List.length_range] at pl
  have z:=gro_fill (Q:=Q) (leaf:=leaf) (N:=ballC Q) (fun L M p=>ballC_perm p) h1 n (List.range n) (gro Q leaf ball0 n (List.range n) 0 0).2 0 0 (by simp) (by simp;omega) (by
    rw [List.drop_zero,List.length_range]
    exact List.take_of_length_le (by omega))
  refine ⟨z.1,fun x hx=>?_⟩
  have y:=z.2 x hx
  rw [List.length_range] at y
  exact ⟨y.2.1,by omega⟩
theorem barT_mem {Q:Nat→Ch} {leaf n:Nat} (h:1≤n):∀ i,i ∈ (barT Q leaf n).2→i < n:=fun i hi=>by
  rw [barT_pos h] at hi
  exact List.mem_range.1 ((gro_perm n (List.range n) 0 0).mem_iff.1 hi)
theorem barT_few {Q:Nat→Ch} {leaf n:Nat} (h1:1≤leaf) (h:1≤n):1≤(barT Q leaf n).1.length∧(barT Q leaf n).1.length + 1≤2 * n:=by
  rw [barT_pos h]
  have z:=gro_few (Q:=Q) (N:=ball0) h1 n (List.range n) 0 0 (by simp;omega)
  rwa [List.length_range] at z
theorem bdQ_codes {Q:Nat→Ch} {n:Nat} (h:chcodes Q n=0):BdQ Q (List.range n):=fun i hi=>(chcode_ok' (chcodes_at h i (List.mem_range.1 hi))).1
theorem ccode_parts {n:Nat} {Q:Nat→Ch} (h:ccode n Q=0):n≤96∧chcodes Q n=0:=by
  unfold ccode at h
  by_cases z:96 < n
  · rw [if_pos z] at h;cases h
  · rw [if_neg z] at h;exact ⟨by omega,h⟩
set_option maxRecDepth 100000 in
set_option maxHeartbeats 4000000 in
theorem bld_v (a:Option Addr) (n c:Nat) (leaf cc:Int) (w:World) (V:Hid (∀ W,Below w.heap.size w W→Calls Try.prog 22 #[.slice a n c] W fun e w'=>e=.returned (.int .i64 cc)∧Below W.heap.size W w')) (z:(cc != 0)=true):Calls Try.prog 8 #[.slice a n c,.int .i64 leaf] w fun e w'=>e=.returned (.tuple #[.agg #[.slice none 0 0,.slice none 0 0],.int .i64 cc])∧Below w.heap.size w w':=by
  have B0:=Lib.hid (show Below w.heap.size w (w.alloc (.cells #[.slice none 0 0,.slice none 0 0] 27)) from (Below.refl _ _).alloc (Nat.le_refl _) _)
  have r0:=Lib.hid (show ∀ W,Below (w.heap.size + 1) (w.alloc (.cells #[.slice none 0 0,.slice none 0 0] 27)) W→W.cell? ⟨w.heap.size,0,none⟩=some (.slice none 0 0)∧W.cell? ⟨w.heap.size,1,none⟩=some (.slice none 0 0)∧W.frozen? ⟨w.heap.size,0,none⟩=false∧W.frozen? ⟨w.heap.size,1,none⟩=false from fun W b=>⟨(b.cell (p:=⟨w.heap.size,0,none⟩) (Nat.lt_succ_self _)).trans (by go_simp),(b.cell (p:=⟨w.heap.size,1,none⟩) (Nat.lt_succ_self _)).trans (by go_simp),(b.frozen (p:=⟨w.heap.size,0,none⟩) (Nat.lt_succ_self _)).trans (by go_simp),(b.frozen (p:=⟨w.heap.size,1,none⟩) (Nat.lt_succ_self _)).trans (by go_simp)⟩)
  have S0:=Lib.hid (show (w.alloc (.cells #[.slice none 0 0,.slice none 0 0] 27)).heap.size=w.heap.size + 1 by simp)
  go_enter Try.func8,Try.ntmps8
  go_wp2_with fail
  with_reducible refine (V.out _ B0.out).mono ?_
  rintro e w1 ⟨rfl,hb1⟩
  rw [S0.out] at hb1
  have B1:=Lib.hid (B0.out.trans (hb1.mono (by omega)))
  have H1:=Lib.hid hb1
  clear hb1
  obtain ⟨c0,c1,c2,c3⟩:=r0.out _ H1.out
  go_wp2
  refine bodyPost_ret (v:=.tuple #[.agg #[.slice none 0 0,.slice none 0 0],.int .i64 cc]) (by rw [results_cell_tmp rfl];go_simp) rfl ⟨rfl,?_⟩
  exact Below.setCell (Below.setCell B1.out (Nat.le_refl _) _) (Nat.le_refl _) _
set_option maxRecDepth 100000 in
set_option maxHeartbeats 4000000 in
theorem bld_l (a:Option Addr) (n c:Nat) (leaf:Int) (w:World) (V:Hid (∀ W,Below w.heap.size w W→Calls Try.prog 22 #[.slice a n c] W fun e w'=>e=.returned (.int .i64 0)∧Below W.heap.size W w')) (I:Hid (∀ W,Calls Try.prog 23 #[.int .i64 leaf,.int .i64 1,.int .i64 16] W fun e w'=>e=.returned (.bool false)∧Below W.heap.size W w')):Calls Try.prog 8 #[.slice a n c,.int .i64 leaf] w fun e w'=>e=.returned (.tuple #[.agg #[.slice none 0 0,.slice none 0 0],.int .i64 1])∧Below w.heap.size w w':=by
  have B0:=Lib.hid (show Below w.heap.size w (w.alloc (.cells #[.slice none 0 0,.slice none 0 0] 27)) from (Below.refl _ _).alloc (Nat.le_refl _) _)
  have r0:=Lib.hid (show ∀ W,Below (w.heap.size + 1) (w.alloc (.cells #[.slice none 0 0,.slice none 0 0] 27)) W→W.cell? ⟨w.heap.size,0,none⟩=some (.slice none 0 0)∧W.cell? ⟨w.heap.size,1,none⟩=some (.slice none 0 0)∧W.frozen? ⟨w.heap.size,0,none⟩=false∧W.frozen? ⟨w.heap.size,1,none⟩=false from fun W b=>⟨(b.cell (p:=⟨w.heap.size,0,none⟩) (Nat.lt_succ_self _)).trans (by go_simp),(b.cell (p:=⟨w.heap.size,1,none⟩) (Nat.lt_succ_self _)).trans (by go_simp),(b.frozen (p:=⟨w.heap.size,0,none⟩) (Nat.lt_succ_self _)).trans (by go_simp),(b.frozen (p:=⟨w.heap.size,1,none⟩) (Nat.lt_succ_self _)).trans (by go_simp)⟩)
  have S0:=Lib.hid (show (w.alloc (.cells #[.slice none 0 0,.slice none 0 0] 27)).heap.size=w.heap.size + 1 by simp)
  go_enter Try.func8,Try.ntmps8
  go_wp2_with fail
  with_reducible refine (V.out _ B0.out).mono ?_
  rintro e w1 ⟨rfl,hb1⟩
  rw [S0.out] at hb1
  have B1:=Lib.hid (B0.out.trans (hb1.mono (by omega)))
  have H1:=Lib.hid hb1
  clear hb1
  go_wp2_with fail
  with_reducible refine (I.out _).mono ?_
  rintro e w2 ⟨rfl,hb2⟩
  have B2:=Lib.hid (bstep B1.out hb2)
  have H2:=Lib.hid (H1.out.trans (hb2.mono (by have:=H1.out.size;rw [S0.out] at this;omega)))
  clear hb2 H1 B1
  obtain ⟨c0,c1,c2,c3⟩:=r0.out _ H2.out
  go_wp2
  refine bodyPost_ret (v:=.tuple #[.agg #[.slice none 0 0,.slice none 0 0],.int .i64 1]) (by rw [results_cell_tmp rfl];go_simp) rfl ⟨rfl,?_⟩
  exact Below.setCell (Below.setCell B2.out (Nat.le_refl _) _) (Nat.le_refl _) _
set_option maxRecDepth 100000 in
set_option maxHeartbeats 4000000 in
theorem bld_ok (a:Option Addr) (n c:Nat) (leaf:Int) (w:World) (P1 P2:Nat→World→Value→Value→Prop) (V:Hid (∀ W,Below w.heap.size w W→Calls Try.prog 22 #[.slice a n c] W fun e w'=>e=.returned (.int .i64 0)∧Below W.heap.size W w')) (I:Hid (∀ W,Calls Try.prog 23 #[.int .i64 leaf,.int .i64 1,.int .i64 16] W fun e w'=>e=.returned (.bool true)∧Below W.heap.size W w'))
    (G:Hid (∀ W,Below w.heap.size w W→w.heap.size + 1≤W.heap.size→Calls Try.prog 24 #[.slice a n c,.int .i64 leaf] W fun e w'=>∃ A cO B K cN,e=.returned (.agg #[.slice A n cO,.slice B K cN])∧P1 W.heap.size w' (.slice A n cO) (.slice B K cN)∧(∀ g,Value.ownBlock (.slice B K cN)=some g→g < w'.heap.size)∧Below W.heap.size W w'))
    (PB:Hid (∀ s u v W W',P1 s W u v→Below W.heap.size W W'→P1 s W' u v))
    (ME9:Hid (∀ s u v W,w.heap.size + 1≤s→s≤W.heap.size→Below w.heap.size w W→P1 s W u v→Calls Try.prog 25 #[.slice a n c,.agg #[u,v]] W fun e w'=>e=.returned (.int .i64 0)∧P2 (w.heap.size + 1) w' u v∧Below (w.heap.size + 1) W w'∧∀ k j,k < W.heap.size→v.ownBlock ≠ some k→w'.cell? ⟨k,j,none⟩=W.cell? ⟨k,j,none⟩))
    (PS:Hid (∀ W u v j x,P2 (w.heap.size + 1) W u v→P2 (w.heap.size + 1) (W.setCell ⟨w.heap.size,j,none⟩ x) u v)) :
    Calls Try.prog 8 #[.slice a n c,.int .i64 leaf] w fun e w'=>∃ u v,e=.returned (.tuple #[.agg #[u,v],.int .i64 0])∧P2 (w.heap.size + 1) w' u v∧Below w.heap.size w w':=by
  have B0:=Lib.hid (show Below w.heap.size w (w.alloc (.cells #[.slice none 0 0,.slice none 0 0] 27)) from (Below.refl _ _).alloc (Nat.le_refl _) _)
  have r0:=Lib.hid (show ∀ W,Below (w.heap.size + 1) (w.alloc (.cells #[.slice none 0 0,.slice none 0 0] 27)) W→W.cell? ⟨w.heap.size,0,none⟩=some (.slice none 0 0)∧W.cell? ⟨w.heap.size,1,none⟩=some (.slice none 0 0)∧W.frozen? ⟨w.heap.size,0,none⟩=false∧W.frozen? ⟨w.heap.size,1,none⟩=false from fun W b=>⟨(b.cell (p:=⟨w.heap.size,0,none⟩) (Nat.lt_succ_self _)).trans (by go_simp),(b.cell (p:=⟨w.heap.size,1,none⟩) (Nat.lt_succ_self _)).trans (by go_simp),(b.frozen (p:=⟨w.heap.size,0,none⟩) (Nat.lt_succ_self _)).trans (by go_simp),(b.frozen (p:=⟨w.heap.size,1,none⟩) (Nat.lt_succ_self _)).trans (by go_simp)⟩)
  have S0:=Lib.hid (show (w.alloc (.cells #[.slice none 0 0,.slice none 0 0] 27)).heap.size=w.heap.size + 1 by simp)
  go_enter Try.func8,Try.ntmps8
  go_wp2_with fail
  with_reducible refine (V.out _ B0.out).mono ?_
  rintro e w1 ⟨rfl,hb1⟩
  rw [S0.out] at hb1
  have B1:=Lib.hid (B0.out.trans (hb1.mono (by omega)))
  have H1:=Lib.hid hb1
  clear hb1
  go_wp2_with fail
  with_reducible refine (I.out _).mono ?_
  rintro e w2 ⟨rfl,hb2⟩
  have B2:=Lib.hid (bstep B1.out hb2)
  have H2:=Lib.hid (H1.out.trans (hb2.mono (by have:=H1.out.size;rw [S0.out] at this;omega)))
  clear hb2 H1 B1
  go_wp2_with fail
  have s2:w.heap.size + 1≤w2.heap.size:=by have:=H2.out.size;rw [S0.out] at this;exact this
  with_reducible refine (G.out _ B2.out s2).mono ?_
  rintro e w3 ⟨A,cO,B,K,cN,rfl,p1,gl,hb3⟩
  have hb4:=Lib.hid (show Below w3.heap.size w3 (w3.alloc (.cells #[.slice A n cO,.slice B K cN] 27)) from (Below.refl _ _).alloc (Nat.le_refl _) _)
  have P4:=Lib.hid (PB.out _ _ _ _ _ p1 hb4.out)
  have B4:=Lib.hid (bstep (bstep B2.out hb3) hb4.out)
  have H4:=Lib.hid (H2.out.trans ((hb3.mono s2).trans (hb4.out.mono (Nat.le_trans s2 hb3.size))))
  have t4:(w3.alloc (.cells #[.slice A n cO,.slice B K cN] 27)).cell? ⟨w3.heap.size,0,none⟩=some (.slice A n cO)∧(w3.alloc (.cells #[.slice A n cO,.slice B K cN] 27)).cell? ⟨w3.heap.size,1,none⟩=some (.slice B K cN)∧w3.heap.size < (w3.alloc (.cells #[.slice A n cO,.slice B K cN] 27)).heap.size:=⟨by go_simp,by go_simp,by simp⟩
  have T4:=Lib.hid t4
  have s3:=Lib.hid hb3.size
  clear p1 hb3 t4 hb4 H2 B2
  go_upto_region 7 with fail
  generalize w3.alloc (.cells #[.slice A n cO,.slice B K cN] 27)=w4 at *
  obtain ⟨t0,t1,t2⟩:=T4.out
  go_wp2_with fail
  with_reducible refine (ME9.out w2.heap.size _ _ _ s2 (Nat.le_trans s3.out (by omega)) B4.out P4.out).mono ?_
  rintro e w5 ⟨rfl,p5,hb5,ck⟩
  have H5:=Lib.hid (H4.out.trans hb5)
  have B5:=Lib.hid (B4.out.trans (hb5.mono (by omega)))
  have P5:=Lib.hid p5
  have ne9:Value.ownBlock (.slice B K cN) ≠ some w3.heap.size:=fun e=>absurd (gl _ e) (Nat.lt_irrefl _)
  have y0:=(ck w3.heap.size 0 t2 ne9).trans t0
  have y1:=(ck w3.heap.size 1 t2 ne9).trans t1
  obtain ⟨c0,c1,c2,c3⟩:=r0.out _ H5.out
  clear p5 hb5 ck t0 t1 t2 H4 B4 P4 T4 gl ne9
  go_wp2
  refine bodyPost_ret (v:=.tuple #[.agg #[.slice A n cO,.slice B K cN],.int .i64 0]) (by rw [results_cell_tmp rfl];go_simp) rfl ⟨_,_,rfl,PS.out _ _ _ _ _ (PS.out _ _ _ _ _ P5.out),?_⟩
  exact Below.setCell (Below.setCell B5.out (Nat.le_refl _) _) (Nat.le_refl _) _
set_option maxRecDepth 100000 in
set_option maxHeartbeats 4000000 in
theorem meas_none (a A B:Option Addr) (n c cO K cN:Nat) (hK:K=0) (w:World):Calls Try.prog 25 #[.slice a n c,.agg #[.slice A n cO,.slice B K cN]] w fun e w'=>e=.returned (.int .i64 0)∧Below w.heap.size w w':=by
  subst hK
  go_enter Try.func25,Try.ntmps25
  go_wp2
  refine wp_loop_rounds 1 ?_
  rw [rounds_succ]
  go_wp2
  go_ret
  exact ⟨rfl,by (repeat' (first | exact Below.refl _ _ | refine Below.setCell ?_ (by simp <;> omega) _ | refine balloc ?_ _ | refine Below.drew ?_ | refine bdrewN ?_ _))⟩
def TrR (W:World) (s:Nat) (e:Int) (T:List Nd × List Nat) (n:Nat) (u v:Value):Prop:=if e=0 then W.ownsRow s 3 1 u n (nvs9 T.2)∧W.ownsRow s 44 8 v T.1.length (nds T.1) else u=.slice none 0 0∧v=.slice none 0 0
def GrR (X0:Nat) (W:World) (T:List Nd × List Nat) (n:Nat) (u v:Value):Prop:=∃ X,X0≤X∧(∀ g,u.ownBlock=some g→g < X)∧W.ownsRow X0 3 1 u n (nvs9 T.2)∧W.ownsRow X 44 8 v T.1.length (nds T.1)
theorem grR_below {X0:Nat} {W W':World} {T:List Nd × List Nat} {n:Nat} {u v:Value} (h:GrR X0 W T n u v) (b:Below W.heap.size W W'):GrR X0 W' T n u v:=by
  obtain ⟨X,h1,h2,h3,h4⟩:=h
  exact ⟨X,h1,h2,tr_own_below h3 b,tr_own_below h4 b⟩
theorem build_any {M:Nat} (SP:SpnC M) (a:Option Addr) (n c:Nat) (leaf:Int) (Q:Nat→Ch) (w:World) (r:LstC w a n Q) (hn:n≤140737488355328) (hM:n≤96→n≤M) :
    Calls Try.prog 8 #[.slice a n c,.int .i64 leaf] w fun e w'=>∃ u v,e=.returned (.tuple #[.agg #[u,v],.int .i64 (bldE n Q leaf)])∧TrR w' (w.heap.size + 1) (bldE n Q leaf) (treT Q leaf.toNat n) n u v∧Below w.heap.size w w':=by
  have V:=fun W (B:Below w.heap.size w W)=>fvc_any a n c Q W (lstC_below r B) hn
  unfold bldE
  by_cases z:ccode n Q=0
  · rw [if_pos z]
    rw [z] at V
    have I:=fun W=>tir_any leaf 1 16 W
    cases hr:rngB leaf 1 16 with
    | false =>
      rw [hr] at I
      refine (bld_l a n c leaf w (Lib.hid V) (Lib.hid I)).mono fun e w' ⟨h1,h2⟩=>⟨_,_,h1,?_,h2⟩
      unfold TrR
      rw [if_neg (by simp)]
      exact ⟨rfl,rfl⟩
    | true =>
      rw [hr] at I
      obtain ⟨l1,l2⟩:=rngB_iff.1 hr
      obtain ⟨h96,hc⟩:=ccode_parts z
      obtain ⟨lf,el⟩:∃ lf:Nat,leaf.toNat=lf:=⟨_,rfl⟩
      have el2:leaf=(lf:Int):=by omega
      rw [el]
      have key:Calls Try.prog 8 #[.slice a n c,.int .i64 leaf] w fun e w'=>∃ u v,e=.returned (.tuple #[.agg #[u,v],.int .i64 0])∧(w'.ownsRow (w.heap.size + 1) 3 1 u n (nvs9 (treT Q lf n).2)∧w'.ownsRow (w.heap.size + 1) 44 8 v (treT Q lf n).1.length (nds (treT Q lf n).1))∧Below w.heap.size w w':=by
        subst el2
        refine bld_ok a n c (lf:Int) w (fun s W u v=>GrR s W (barT Q lf n) n u v) (fun s W u v=>W.ownsRow s 3 1 u n (nvs9 (treT Q lf n).2)∧W.ownsRow s 44 8 v (treT Q lf n).1.length (nds (treT Q lf n).1)) (Lib.hid V) (Lib.hid I) (Lib.hid fun W B sz=>?_) (Lib.hid fun s u v W W' h b=>grR_below h b) (Lib.hid fun s u v W hs hsW B h=>?_)
          (Lib.hid fun W u v j x h=>⟨ownsRow_setCell_below h.1 (by show w.heap.size < w.heap.size + 1;omega) x,ownsRow_setCell_below h.2 (by show w.heap.size < w.heap.size + 1;omega) x⟩)
        · have gr:Calls Try.prog 24 #[.slice a n c,.int .i64 (lf:Int)] W fun e w'=>∃ X vO vN,e=.returned (.agg #[vO,vN])∧W.heap.size≤X∧(∀ g,vO.ownBlock=some g→g < X)∧w'.ownsRow W.heap.size 3 1 vO n (nvs9 (barT Q lf n).2)∧w'.ownsRow X 44 8 vN (barT Q lf n).1.length (nds (barT Q lf n).1)∧Below W.heap.size W w':=by
            rcases Nat.eq_zero_or_pos n with h0 | h0
            · exact grow_none a c lf n h0 Q W
            · obtain ⟨b,off,rfl,rc⟩:=lstC_below r B h0
              exact grow_some SP b off n c lf Q W h0 h96 (hM h96) (by omega) (by omega) rc (bdQ_codes hc)
          refine gr.mono fun e w' ⟨X,vO,vN,h1,h2,h3,h4,h5,h6⟩=>?_
          obtain ⟨A,cO,rfl⟩:=tr_own_slice h4
          obtain ⟨B',cN,rfl⟩:=tr_own_slice h5
          exact ⟨A,cO,B',_,cN,h1,⟨X,h2,h3,h4,h5⟩,fun g hg=>(h5.lt g hg).2,h6⟩
        · obtain ⟨X,h2,h3,h4,h5⟩:=h
          rcases Nat.eq_zero_or_pos n with h0 | h0
          · have e1:barT Q lf n=([],[]):=if_pos h0
            have e2:treT Q lf n=([],[]):=if_pos h0
            rw [e1] at h4 h5
            obtain ⟨A,cO,rfl⟩:=tr_own_slice h4
            obtain ⟨B',cN,rfl⟩:=tr_own_slice h5
            refine (meas_none a A B' n c cO _ cN rfl W).mono fun e w' ⟨k1,k2⟩=>⟨k1,?_,k2.mono (by omega),fun k j hk _=>k2.cell (p:=⟨k,j,none⟩) hk⟩
            rw [e2]
            exact ⟨tr_own_base (tr_own_below h4 k2) (by omega),tr_own_base (tr_own_below h5 k2) (by omega)⟩
          · obtain ⟨b,off,rfl,rc⟩:=r h0
            obtain ⟨f1,f2⟩:=barT_few (Q:=Q) (leaf:=lf) (by omega) h0
            obtain ⟨t1,t2⟩:=treT_fill (Q:=Q) (leaf:=lf) (by omega) h0
            obtain ⟨ob,cO,rfl⟩:=tr_own_form h4 h0
            obtain ⟨gb,cN,rfl⟩:=tr_own_form h5 f1
            have mm:=meas_any b off n c ob cO gb (barT Q lf n).1.length cN s X Q (barT Q lf n).2 (barT Q lf n).1 W (rowC_in rc B rc.1) h96 (by have:=rc.1;omega) hsW (h3 ob rfl) h4 h5 rfl (by omega) t2 (barT_mem h0) hc (bdQ_codes hc)
            refine mm.mono fun e w' ⟨k1,k2,k3,k4,k5⟩=>⟨k1,?_,k4.mono hs,fun k j hk hne=>World.cell?_of_block (a:=⟨k,j,none⟩) (k5.block k hk (fun e=>hne e.symm))⟩
            rw [t1]
            refine ⟨tr_own_base k2 hs,?_⟩
            rw [List.length_map]
            exact tr_own_base k3 (by omega)
      refine key.mono fun e w' ⟨u,v,h1,h2,h3⟩=>⟨u,v,h1,?_,h3⟩
      unfold TrR
      rw [if_pos (by simp)]
      exact h2
  · rw [if_neg z]
    refine (bld_v a n c leaf _ w (Lib.hid V) (bne_iff_ne.2 z)).mono fun e w' ⟨h1,h2⟩=>⟨_,_,h1,?_,h2⟩
    unfold TrR
    rw [if_neg z]
    exact ⟨rfl,rfl⟩
end Go.Proofs.Ytpocbdompamnnaa
