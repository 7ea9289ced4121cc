import Derived.Laws.EntriesVeiled
import Derived.Test.YtpocbdompamnnaaTr9
namespace Go.Proofs.Ytpocbdompamnnaa
open Go.ChangeShapes Go.WideShapes Go.RowKit
open Sh
open Go.Sort (Holds)
theorem holds_own {w:World} {B ob cO n:Nat} {P L S:List Nat} (ho:w.ownsRow B 3 1 (.slice (some ⟨ob,0,none⟩) n cO) n (nvs9 (P ++ L ++ S))):Holds encN w ob P.length L.toArray:=by
  have hn:=ho.1
  rw [nvs9_len] at hn
  simp only [List.length_append,Nat.mul_one] at hn
  intro j hj
  have hj:j < L.length:=by simpa using hj
  refine ⟨?_,ho.frozenAt _⟩
  rw [ho.cellAt (P.length + j) (by omega),nvs9_at (by simp only [List.length_append];omega)]
  have e:(P ++ L ++ S).getD (P.length + j) 0=L[j]:=by
    rw [List.getD_eq_getElem?_getD,List.append_assoc,List.getElem?_append_right (by omega),show P.length + j - P.length=j by omega,List.getElem?_append_left hj,List.getElem?_eq_getElem hj]
    rfl
  rw [e,getElem!_pos _ j (by simpa using hj)]
  rfl
theorem add_any {M:Nat} (SP:SpnC M) (w0:World) (LB LF ob T AD b off n c leaf cO:Nat) (Q:Nat→Ch) (g:GSt w0.heap.size LB LF ob T AD) (rc:RowC w0 b off n Q) (h96:n≤96) (hM:n≤M) (hc:n≤cO) (hl1:1≤leaf) (hl:leaf≤16) :
    ∀ (F:Nat) (P L S:List Nat) (vN:Value) (NL:List Nd) (w:World),L.length≤F→1≤L.length→P.length + L.length + S.length=n→(∀ i,i ∈ L→i < n)→L.Nodup→BdQ Q L→NL.length + 2 * L.length≤400→GS w0 w LB LF ob T AD b off n c leaf cO (P ++ L ++ S) vN NL →
    Calls Try.prog 48 #[.int .i64 (P.length:Int),.int .i64 ((P.length + L.length:Nat):Int),.pointer (some ⟨T,0,none⟩),.pointer (some ⟨LF,0,none⟩),.pointer (some ⟨LB,0,none⟩),.pointer (some ⟨AD,0,none⟩)] w fun e w'=>e=.returned (.int .i64 (NL.length:Int))∧∃ v,GS w0 w' LB LF ob T AD b off n c leaf cO (P ++ (gro Q leaf ball0 F L P.length NL.length).2 ++ S) v (NL ++ (gro Q leaf ball0 F L P.length NL.length).1)
  | 0,P,L,S,vN,NL,w,hF,h1,_,_,_,_,_,_=>by omega
  | F + 1,P,L,S,vN,NL,w,hF,h1,hn,hi,nd,bd,hN,h=>by
    by_cases hle:L.length≤leaf
    · rw [gro_leaf hle]
      exact add_leaf w0 LB LF ob T AD b off n c leaf cO P.length (P.length + L.length) _ vN NL w g h (by omega) (by omega) hl (by omega) (by omega)
    · obtain ⟨hh,ehh⟩:∃ hh,hh=(L.length + 1) / 2:=⟨_,rfl⟩
      obtain ⟨A,eA⟩:∃ A,A=(srtK (keyC Q (widC Q L)) L).take hh:=⟨_,rfl⟩
      obtain ⟨B,eB⟩:∃ B,B=(srtK (keyC Q (widC Q L)) L).drop hh:=⟨_,rfl⟩
      obtain ⟨x,ex⟩:∃ x,x=gro Q leaf ball0 F A P.length (NL.length + 1):=⟨_,rfl⟩
      obtain ⟨y,ey⟩:∃ y,y=gro Q leaf ball0 F B (P.length + hh) (NL.length + 1 + x.1.length):=⟨_,rfl⟩
      obtain ⟨l1,l2,l3,l4⟩:=half_len (f:=keyC Q (widC Q L)) ehh (by omega)
      have ab:A ++ B=srtK (keyC Q (widC Q L)) L:=by rw [eA,eB];exact List.take_append_drop _ _
      have nda:=(half_nodup (f:=keyC Q (widC Q L)) nd hh).1
      have ndb:=(half_nodup (f:=keyC Q (widC Q L)) nd hh).2
      have ma:∀ i,i ∈ A→i ∈ L:=fun i hi=>half_mem (f:=keyC Q (widC Q L)) (h:=hh) (Or.inl (eA ▸ hi))
      have mb:∀ i,i ∈ B→i ∈ L:=fun i hi=>half_mem (f:=keyC Q (widC Q L)) (h:=hh) (Or.inr (eB ▸ hi))
      rw [← eA] at l1 nda
      rw [← eB] at l2 ndb
      have px:x.2.length=hh:=by rw [ex,(gro_perm F A P.length (NL.length + 1)).length_eq,l1]
      have fx:=gro_few (Q:=Q) (N:=ball0) hl1 F A P.length (NL.length + 1) (by omega)
      rw [← ex] at fx
      have fy:=gro_few (Q:=Q) (N:=ball0) hl1 F B (P.length + hh) (NL.length + 1 + x.1.length) (by omega)
      rw [← ey] at fy
      have G0:=gro_node (N:=ball0) (k:=NL.length) (a:=P.length) hle ehh eA eB ex ey
      rw [G0]
      refine add_node w0 LB LF ob T AD b off n c leaf cO P.length (P.length + L.length) (P ++ L ++ S) vN NL w g h (by omega) (by omega) hl (by omega) (by omega) (P ++ (A ++ B) ++ S) (P ++ (x.2 ++ B) ++ S) (P ++ (x.2 ++ y.2) ++ S) x.1 y.1 (P.length + hh) (by omega) (by omega) hc (by omega) (by omega)
        (Lib.hid fun W v hW=>?_) (Lib.hid fun W v hW=>?_) (Lib.hid fun W v hW=>?_)
      · obtain ⟨g1,g2,g3,g4,g5⟩:=g
        have bl:=hW.2.2.2.2.2
        have z:=SP b off n c ob P.length (P.length + L.length - P.length) (cO - P.length) Q L W (rowC_in rc bl rc.1) hi nd (by omega) (by omega) (by omega) (by omega) bd (by have:=rc.1;omega) (holds_own hW.2.2.1) (by have:=hW.2.2.2.2.1;omega)
        refine z.mono fun e w' ⟨h1,w1,h2,h3⟩=>⟨h1,?_⟩
        rw [ab]
        exact gS_sort ⟨g1,g2,g3,g4,g5⟩ hW h2 h3 (srtK_perm _ _).length_eq
      · have z:=add_any SP w0 LB LF ob T AD b off n c leaf cO Q g rc h96 hM hc hl1 hl F P A (B ++ S) v (NL ++ [(P.length,P.length + L.length,-1,-1,(0,0,0),0)]) W (by omega) (by omega) (by simp only [List.length_append];omega) (fun i hi'=>hi i (ma i hi')) nda (fun i hi'=>bd i (ma i hi')) (by simp only [List.length_append,List.length_singleton];omega) (by have z:=hW;simp only [List.append_assoc] at z ⊢;exact z)
        rw [l1] at z
        simp only [List.length_append,List.length_singleton] at z
        rw [← ex] at z
        refine z.mono fun e w' ⟨h1,v',h2⟩=>⟨h1,v',?_⟩
        simp only [List.append_assoc] at h2 ⊢
        exact h2
      · have z:=add_any SP w0 LB LF ob T AD b off n c leaf cO Q g rc h96 hM hc hl1 hl F (P ++ x.2) B S v ((NL ++ [(P.length,P.length + L.length,-1,-1,(0,0,0),0)]) ++ x.1) W (by omega) (by omega) (by simp only [List.length_append];omega) (fun i hi'=>hi i (mb i hi')) ndb (fun i hi'=>bd i (mb i hi')) (by simp only [List.length_append,List.length_singleton];omega) (by have z:=hW;simp only [List.append_assoc] at z ⊢;exact z)
        simp only [List.length_append,List.length_singleton,px] at z
        rw [← ey,show P.length + hh + B.length=P.length + L.length by omega] at z
        refine z.mono fun e w' ⟨h1,v',h2⟩=>⟨h1,v',?_⟩
        simp only [List.append_assoc] at h2 ⊢
        exact h2
theorem gS_init {w0 w1:World} {LB LF ob b off n c leaf cO:Nat} {O:List Nat} (t1 t2:TypeId) (lf:LF < w1.heap.size) (lb:LB < w1.heap.size) (c2:w1.cell? ⟨LF,0,none⟩=some (.int .i64 (leaf:Int))) (c3:w1.cell? ⟨LB,0,none⟩=some (.slice (some ⟨b,off,none⟩) n c))
    (ow:w1.ownsRow w0.heap.size 3 1 (.slice (some ⟨ob,0,none⟩) n cO) n (nvs9 O)) (bl:Below w0.heap.size w0 w1) :
    GS w0 ((w1.alloc (.cells #[.slice (some ⟨ob,0,none⟩) n cO,.slice none 0 0] t1)).alloc (.cells #[.func (.func 48) #[] #[.pointer (some ⟨w1.heap.size,0,none⟩),.pointer (some ⟨LF,0,none⟩),.pointer (some ⟨LB,0,none⟩),.pointer (some ⟨w1.heap.size + 1,0,none⟩)]] t2)) LB LF ob w1.heap.size (w1.heap.size + 1) b off n c leaf cO O (.slice none 0 0) []:=by
  have sz:=bl.size
  refine ⟨⟨by go_simp,by go_simp,?_,?_,by go_simp⟩,by go_simp,(ow.alloc _).alloc _,⟨rfl,.inl ⟨rfl,rfl⟩⟩,by simp,(bl.alloc sz _).alloc (by simp;omega) _⟩
  · exact (((Below.refl w1.heap.size w1).alloc (Nat.le_refl _) _).alloc (by simp) _).cell (p:=⟨LF,0,none⟩) lf |>.trans c2
  · exact (((Below.refl w1.heap.size w1).alloc (Nat.le_refl _) _).alloc (by simp) _).cell (p:=⟨LB,0,none⟩) lb |>.trans c3
theorem growA {M:Nat} (SP:SpnC M) (w0:World) (LB LF ob T AD b off n c leaf cO:Nat) (Q:Nat→Ch) (g:GSt w0.heap.size LB LF ob T AD) (rc:RowC w0 b off n Q) (h1:1≤n) (h96:n≤96) (hM:n≤M) (hc:n≤cO) (hl1:1≤leaf) (hl:leaf≤16) (bd:BdQ Q (List.range n)) (W:World) (v:Value) (h:GS w0 W LB LF ob T AD b off n c leaf cO (List.range n) v []) :
    Calls Try.prog 48 #[.int .i64 0,.int .i64 (n:Int),.pointer (some ⟨T,0,none⟩),.pointer (some ⟨LF,0,none⟩),.pointer (some ⟨LB,0,none⟩),.pointer (some ⟨AD,0,none⟩)] W fun e w'=>e=.returned (.int .i64 0)∧∃ v,GS w0 w' LB LF ob T AD b off n c leaf cO (gro Q leaf ball0 n (List.range n) 0 0).2 v (gro Q leaf ball0 n (List.range n) 0 0).1:=by
  have z:=add_any SP w0 LB LF ob T AD b off n c leaf cO Q g rc h96 hM hc hl1 hl n [] (List.range n) [] v [] W (by simp) (by simp;omega) (by simp) (fun i hi=>List.mem_range.1 hi) List.nodup_range bd (by simp;omega) (by simpa using h)
  simpa using z
def barT (Q:Nat→Ch) (leaf n:Nat):List Nd × List Nat:=if n=0 then ([],[]) else gro Q leaf ball0 n (List.range n) 0 0
theorem barT_pos {Q:Nat→Ch} {leaf n:Nat} (h:1≤n):barT Q leaf n=gro Q leaf ball0 n (List.range n) 0 0:=if_neg (by omega)
set_option maxRecDepth 100000 in
set_option maxHeartbeats 4000000 in
theorem grow_none (a:Option Addr) (c leaf n:Nat) (hz:n=0) (Q:Nat→Ch) (w:World) :
    Calls Try.prog 24 #[.slice a n c,.int .i64 (leaf:Int)] w fun e w'=>∃ X vO vN,e=.returned (.agg #[vO,vN])∧w.heap.size≤X∧(∀ g,vO.ownBlock=some g→g < X)∧w'.ownsRow w.heap.size 3 1 vO n (nvs9 (barT Q leaf n).2)∧w'.ownsRow X 44 8 vN (barT Q leaf n).1.length (nds (barT Q leaf n).1)∧Below w.heap.size w w':=by
  have NU9:=Lib.hid (numbers_any n (((w.alloc (.cells #[.slice a n c] 22)).alloc (.cells #[.int .i64 (leaf:Int)] 3)).alloc (.cells #[.slice none 0 0,.slice none 0 0] 27)) (by omega))
  have BT:barT Q leaf n=([],[]):=if_pos hz
  rw [BT]
  have HZ9:=Lib.hid hz
  have B0:=Lib.hid (show Below w.heap.size w (((w.alloc (.cells #[.slice a n c] 22)).alloc (.cells #[.int .i64 (leaf:Int)] 3)).alloc (.cells #[.slice none 0 0,.slice none 0 0] 27)) by (repeat' (first | exact Below.refl _ _ | refine Below.setCell ?_ (by simp <;> omega) _ | refine balloc ?_ _ | refine Below.drew ?_ | refine bdrewN ?_ _)))
  have n0:¬ (0:Int) < (n:Int):=by omega
  clear hz BT
  have r0:=Lib.hid (show ((((w.alloc (.cells #[.slice a n c] 22)).alloc (.cells #[.int .i64 (leaf:Int)] 3)).alloc (.cells #[.slice none 0 0,.slice none 0 0] 27))).cell? ⟨w.heap.size + 1 + 1,0,none⟩=some (.slice none 0 0)∧((((w.alloc (.cells #[.slice a n c] 22)).alloc (.cells #[.int .i64 (leaf:Int)] 3)).alloc (.cells #[.slice none 0 0,.slice none 0 0] 27))).cell? ⟨w.heap.size + 1 + 1,1,none⟩=some (.slice none 0 0) from ⟨by go_simp,by go_simp⟩)
  have f0:=Lib.hid (show ((((w.alloc (.cells #[.slice a n c] 22)).alloc (.cells #[.int .i64 (leaf:Int)] 3)).alloc (.cells #[.slice none 0 0,.slice none 0 0] 27))).frozen? ⟨w.heap.size + 1 + 1,0,none⟩=false∧((((w.alloc (.cells #[.slice a n c] 22)).alloc (.cells #[.int .i64 (leaf:Int)] 3)).alloc (.cells #[.slice none 0 0,.slice none 0 0] 27))).frozen? ⟨w.heap.size + 1 + 1,1,none⟩=false from ⟨by go_simp,by go_simp⟩)
  have S0:=Lib.hid (show ((((w.alloc (.cells #[.slice a n c] 22)).alloc (.cells #[.int .i64 (leaf:Int)] 3)).alloc (.cells #[.slice none 0 0,.slice none 0 0] 27))).heap.size=w.heap.size + 1 + 1 + 1 by simp)
  have b1:=Lib.hid (show ((((w.alloc (.cells #[.slice a n c] 22)).alloc (.cells #[.int .i64 (leaf:Int)] 3)).alloc (.cells #[.slice none 0 0,.slice none 0 0] 27))).cell? ⟨w.heap.size,0,none⟩=some (.slice a n c) by go_simp)
  go_enter Try.func24,Try.ntmps24
  go_wp2_with fail
  generalize (((w.alloc (.cells #[.slice a n c] 22)).alloc (.cells #[.int .i64 (leaf:Int)] 3)).alloc (.cells #[.slice none 0 0,.slice none 0 0] 27))=w0 at *
  refine NU9.out.mono ?_
  rintro e w1 ⟨v,rfl,ow,hb1⟩
  obtain ⟨A1,c1,rfl⟩:=tr_own_slice ow
  have hb4:=Lib.hid (show Below w1.heap.size w1 ((w1.alloc (.cells #[.slice A1 n c1,.slice none 0 0] 27)).alloc (.cells #[.func (.func 48) #[] #[.pointer (some ⟨w1.heap.size,0,none⟩),.pointer (some ⟨w.heap.size + 1,0,none⟩),.pointer (some ⟨w.heap.size,0,none⟩),.pointer (some ⟨w1.heap.size + 1,0,none⟩)]] 78)) from ((Below.refl _ _).alloc (Nat.le_refl _) _).alloc (by simp) _)
  have tc:=Lib.hid (show (((w1.alloc (.cells #[.slice A1 n c1,.slice none 0 0] 27)).alloc (.cells #[.func (.func 48) #[] #[.pointer (some ⟨w1.heap.size,0,none⟩),.pointer (some ⟨w.heap.size + 1,0,none⟩),.pointer (some ⟨w.heap.size,0,none⟩),.pointer (some ⟨w1.heap.size + 1,0,none⟩)]] 78))).cell? ⟨w1.heap.size,0,none⟩=some (.slice A1 n c1)∧(((w1.alloc (.cells #[.slice A1 n c1,.slice none 0 0] 27)).alloc (.cells #[.func (.func 48) #[] #[.pointer (some ⟨w1.heap.size,0,none⟩),.pointer (some ⟨w.heap.size + 1,0,none⟩),.pointer (some ⟨w.heap.size,0,none⟩),.pointer (some ⟨w1.heap.size + 1,0,none⟩)]] 78))).cell? ⟨w1.heap.size,1,none⟩=some (.slice none 0 0) from ⟨by go_simp,by go_simp⟩)
  have ow4:=Lib.hid (tr_own_below ow hb4.out)
  have B4:=Lib.hid (bstep hb1 hb4.out)
  have OL:=Lib.hid (fun g e=>(ow.lt g e))
  have s1:=hb1.size
  have s0:=S0.out
  have S1:=Lib.hid s1
  clear ow hb1 NU9 s1
  go_upto_region 4 with fail
  generalize ((w1.alloc (.cells #[.slice A1 n c1,.slice none 0 0] 27)).alloc (.cells #[.func (.func 48) #[] #[.pointer (some ⟨w1.heap.size,0,none⟩),.pointer (some ⟨w.heap.size + 1,0,none⟩),.pointer (some ⟨w.heap.size,0,none⟩),.pointer (some ⟨w1.heap.size + 1,0,none⟩)]] 78))=w4 at *
  have k0:=(B4.out.cell (p:=⟨w.heap.size,0,none⟩) (by show w.heap.size < w0.heap.size;omega)).trans b1.out
  have k1:=(B4.out.cell (p:=⟨w.heap.size + 1 + 1,0,none⟩) (by show w.heap.size + 1 + 1 < w0.heap.size;omega)).trans r0.out.1
  have k2:=(B4.out.cell (p:=⟨w.heap.size + 1 + 1,1,none⟩) (by show w.heap.size + 1 + 1 < w0.heap.size;omega)).trans r0.out.2
  have k3:=(B4.out.frozen (p:=⟨w.heap.size + 1 + 1,0,none⟩) (by show w.heap.size + 1 + 1 < w0.heap.size;omega)).trans f0.out.1
  have k4:=(B4.out.frozen (p:=⟨w.heap.size + 1 + 1,1,none⟩) (by show w.heap.size + 1 + 1 < w0.heap.size;omega)).trans f0.out.2
  obtain ⟨k5,k6⟩:=tc.out
  clear s0
  go_wp2
  refine bodyPost_ret (v:=.agg #[.slice A1 n c1,.slice none 0 0]) (by rw [results_cell rfl];go_simp) rfl ?_
  have hB:=B0.out.trans (B4.out.mono B0.out.size)
  have sa:=S0.out
  have sb:=S1.out
  refine ⟨w1.heap.size,_,_,rfl,by omega,?_,?_,⟨rfl,.inl ⟨rfl,rfl⟩⟩,?_⟩
  · intro g hg
    exact (OL.out g hg).2
  · have ne:∀ u j,Value.ownBlock (.slice A1 n c1) ≠ some (⟨w.heap.size + 1 + 1,j,u⟩:Addr).block:=fun u j e=>by
      have:=(OL.out _ e).1
      simp at this
      omega
    have o2:=ow4.out
    rw [show List.range n=[] by rw [HZ9.out];rfl] at o2
    with_reducible exact ownsRow_setCell_other (ownsRow_setCell_other (tr_own_base o2 (by omega)) (ne _ _) _) (ne _ _) _
  · with_reducible exact Below.setCell (Below.setCell hB (by show w.heap.size≤w.heap.size + 1 + 1;omega) _) (by show w.heap.size≤w.heap.size + 1 + 1;omega) _
set_option maxRecDepth 100000 in
set_option maxHeartbeats 4000000 in
theorem grow_some {M:Nat} (SP:SpnC M) (b off n c leaf:Nat) (Q:Nat→Ch) (w:World) (h1:1≤n) (h96:n≤96) (hM:n≤M) (hl1:1≤leaf) (hlf:leaf≤16) (rc:RowC w b off n Q) (bd:BdQ Q (List.range n)) :
    Calls Try.prog 24 #[.slice (some ⟨b,off,none⟩) n c,.int .i64 (leaf:Int)] w fun e w'=>∃ X vO vN,e=.returned (.agg #[vO,vN])∧w.heap.size≤X∧(∀ g,vO.ownBlock=some g→g < X)∧w'.ownsRow w.heap.size 3 1 vO n (nvs9 (barT Q leaf n).2)∧w'.ownsRow X 44 8 vN (barT Q leaf n).1.length (nds (barT Q leaf n).1)∧Below w.heap.size w w':=by
  have NU9:=Lib.hid (numbers_any n (((w.alloc (.cells #[.slice (some ⟨b,off,none⟩) n c] 22)).alloc (.cells #[.int .i64 (leaf:Int)] 3)).alloc (.cells #[.slice none 0 0,.slice none 0 0] 27)) h96)
  have n0:(0:Int) < (n:Int):=by omega
  have B0:=Lib.hid (show Below w.heap.size w (((w.alloc (.cells #[.slice (some ⟨b,off,none⟩) n c] 22)).alloc (.cells #[.int .i64 (leaf:Int)] 3)).alloc (.cells #[.slice none 0 0,.slice none 0 0] 27)) by (repeat' (first | exact Below.refl _ _ | refine Below.setCell ?_ (by simp <;> omega) _ | refine balloc ?_ _ | refine Below.drew ?_ | refine bdrewN ?_ _)))
  have LBc:=Lib.hid (show ((((w.alloc (.cells #[.slice (some ⟨b,off,none⟩) n c] 22)).alloc (.cells #[.int .i64 (leaf:Int)] 3)).alloc (.cells #[.slice none 0 0,.slice none 0 0] 27))).cell? ⟨w.heap.size,0,none⟩=some (.slice (some ⟨b,off,none⟩) n c)∧((((w.alloc (.cells #[.slice (some ⟨b,off,none⟩) n c] 22)).alloc (.cells #[.int .i64 (leaf:Int)] 3)).alloc (.cells #[.slice none 0 0,.slice none 0 0] 27))).cell? ⟨w.heap.size + 1,0,none⟩=some (.int .i64 (leaf:Int))∧((((w.alloc (.cells #[.slice (some ⟨b,off,none⟩) n c] 22)).alloc (.cells #[.int .i64 (leaf:Int)] 3)).alloc (.cells #[.slice none 0 0,.slice none 0 0] 27))).cell? ⟨w.heap.size + 1 + 1,0,none⟩=some (.slice none 0 0)∧((((w.alloc (.cells #[.slice (some ⟨b,off,none⟩) n c] 22)).alloc (.cells #[.int .i64 (leaf:Int)] 3)).alloc (.cells #[.slice none 0 0,.slice none 0 0] 27))).cell? ⟨w.heap.size + 1 + 1,1,none⟩=some (.slice none 0 0)∧((((w.alloc (.cells #[.slice (some ⟨b,off,none⟩) n c] 22)).alloc (.cells #[.int .i64 (leaf:Int)] 3)).alloc (.cells #[.slice none 0 0,.slice none 0 0] 27))).frozen? ⟨w.heap.size + 1 + 1,0,none⟩=false∧((((w.alloc (.cells #[.slice (some ⟨b,off,none⟩) n c] 22)).alloc (.cells #[.int .i64 (leaf:Int)] 3)).alloc (.cells #[.slice none 0 0,.slice none 0 0] 27))).frozen? ⟨w.heap.size + 1 + 1,1,none⟩=false from ⟨by go_simp,by go_simp,by go_simp,by go_simp,by go_simp,by go_simp⟩)
  have S0:=Lib.hid (show ((((w.alloc (.cells #[.slice (some ⟨b,off,none⟩) n c] 22)).alloc (.cells #[.int .i64 (leaf:Int)] 3)).alloc (.cells #[.slice none 0 0,.slice none 0 0] 27))).heap.size=w.heap.size + 1 + 1 + 1 by simp)
  have RC0:=Lib.hid (rowC_in rc B0.out rc.1)
  go_enter Try.func24,Try.ntmps24
  go_wp2_with fail
  generalize (((w.alloc (.cells #[.slice (some ⟨b,off,none⟩) n c] 22)).alloc (.cells #[.int .i64 (leaf:Int)] 3)).alloc (.cells #[.slice none 0 0,.slice none 0 0] 27))=w0 at *
  refine NU9.out.mono ?_
  rintro e w1 ⟨v,rfl,ow,hb1⟩
  have BT:=barT_pos (Q:=Q) (leaf:=leaf) h1
  obtain ⟨ob,cO,rfl⟩:=tr_own_form ow (by omega)
  have s1:=hb1.size
  have s0:=S0.out
  have lo:=ow.lt ob rfl
  obtain ⟨cLB,cLF,cR0,cR1,fR0,fR1⟩:=LBc.out
  have bel1:=fun k (hk:k < w0.heap.size) j=>hb1.cell (p:=⟨k,j,none⟩) hk
  have GI:=Lib.hid (gS_init (w0:=w0) 27 78 (by omega) (by omega) ((bel1 (w.heap.size + 1) (by omega) 0).trans cLF) ((bel1 w.heap.size (by omega) 0).trans cLB) ow hb1)
  have GST:=Lib.hid (show GSt w0.heap.size w.heap.size (w.heap.size + 1) ob w1.heap.size (w1.heap.size + 1) from ⟨lo.1,by omega,by omega,lo.2,by omega⟩)
  have hcO:n≤cO:=by
    rcases ow.2 with ⟨e0,_⟩ | ⟨g,cap,cur,e0,_,_,z,_⟩
    · cases e0
    · injection e0 with _ _ e3
      omega
  clear NU9 cLB cLF cR0 cR1 fR0 fR1 bel1
  have ADD:=Lib.hid (fun W v hG=>growA SP w0 w.heap.size (w.heap.size + 1) ob w1.heap.size (w1.heap.size + 1) b off n c leaf cO Q GST.out RC0.out h1 h96 hM hcO hl1 hlf bd W v hG)
  have LB9:=Lib.hid (show ∀ W,Below w0.heap.size w0 W→W.cell? ⟨w.heap.size + 1 + 1,0,none⟩=some (.slice none 0 0)∧W.cell? ⟨w.heap.size + 1 + 1,1,none⟩=some (.slice none 0 0)∧W.frozen? ⟨w.heap.size + 1 + 1,0,none⟩=false∧W.frozen? ⟨w.heap.size + 1 + 1,1,none⟩=false from fun W bl=>by
    obtain ⟨_,_,cR0,cR1,fR0,fR1⟩:=LBc.out
    have lt:w.heap.size + 1 + 1 < w0.heap.size:=by omega
    exact ⟨(bl.cell (p:=⟨w.heap.size + 1 + 1,0,none⟩) lt).trans cR0,(bl.cell (p:=⟨w.heap.size + 1 + 1,1,none⟩) lt).trans cR1,(bl.frozen (p:=⟨w.heap.size + 1 + 1,0,none⟩) lt).trans fR0,(bl.frozen (p:=⟨w.heap.size + 1 + 1,1,none⟩) lt).trans fR1⟩)
  have LO:=Lib.hid lo
  have S1:=Lib.hid s1
  clear lo s1 ow hb1 rc bd
  go_upto_region 4 with fail
  generalize (w1.alloc (.cells #[.slice (some ⟨ob,0,none⟩) n cO,.slice none 0 0] 27)).alloc (.cells #[.func (.func 48) #[] #[.pointer (some ⟨w1.heap.size,0,none⟩),.pointer (some ⟨w.heap.size + 1,0,none⟩),.pointer (some ⟨w.heap.size,0,none⟩),.pointer (some ⟨w1.heap.size + 1,0,none⟩)]] 78)=w4 at *
  obtain ⟨d0,d1,d2,d3,d4⟩:=gS_cells GI.out
  go_wp2_with fail
  with_reducible refine (ADD.out _ _ GI.out).mono ?_
  rintro e w5 ⟨rfl,v5,p5⟩
  have P5:=Lib.hid p5
  clear p5 d0 d1 d2 d3 d4 ADD GI
  obtain ⟨d0,d1,d2,d3,d4⟩:=gS_cells P5.out
  obtain ⟨r0,r1,r2,r3⟩:=LB9.out _ P5.out.2.2.2.2.2
  obtain ⟨A5,c5,rfl⟩:=gS_form P5.out
  go_wp2
  refine bodyPost_ret (v:=.agg #[.slice (some ⟨ob,0,none⟩) n cO,_]) (by rw [results_cell rfl];go_simp;rfl) rfl ?_
  rw [BT]
  have q:=P5.out
  refine ⟨w1.heap.size + 1 + 1,_,_,rfl,?_,?_,?_,?_,?_⟩
  · have:=S1.out
    omega
  · intro g hg
    have:=LO.out
    simp [Value.ownBlock] at hg
    omega
  · have:=LO.out
    exact ownsRow_setCell_other (ownsRow_setCell_other (tr_own_base q.2.2.1 (by omega)) (by simp [Value.ownBlock];omega) _) (by simp [Value.ownBlock];omega) _
  · have:=LO.out
    have ne:∀ u j,Value.ownBlock (.slice A5 (gro Q leaf ball0 n (List.range n) 0 0).1.length c5) ≠ some (⟨w.heap.size + 1 + 1,j,u⟩:Addr).block:=fun u j e=>by
      have:=(q.2.2.2.1.lt _ e).1
      simp at this
      omega
    exact ownsRow_setCell_other (ownsRow_setCell_other q.2.2.2.1 (ne _ _) _) (ne _ _) _
  · have:=S0.out
    refine Below.setCell (Below.setCell (B0.out.trans (q.2.2.2.2.2.mono (by omega))) ?_ _) ?_ _
    · show w.heap.size≤w.heap.size + 1 + 1;omega
    · show w.heap.size≤w.heap.size + 1 + 1;omega
end Go.Proofs.Ytpocbdompamnnaa
