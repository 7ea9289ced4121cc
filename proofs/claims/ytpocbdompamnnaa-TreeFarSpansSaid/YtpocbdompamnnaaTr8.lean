import Derived.Test.YtpocbdompamnnaaTr7
namespace Go.Proofs.Ytpocbdompamnnaa
open Go.ChangeShapes Go.WideShapes Go.RowKit
open Sh
theorem sw_grown {w1 w':World} {ob oo:Nat} {d:Array Nat} (h:SW encN w1 ob oo d w'):w1.grownBy w' (some ob):=by
  have le:=h.le
  obtain ⟨q,os,rfl⟩:=h
  refine ⟨rfl,rfl,rfl,le,fun k hk hne=>?_⟩
  unfold sortWorld
  have sz:(Go.Sort.putRow encN (Go.Sort.ahead w1 q) ob oo d).heap.size=w1.heap.size:=by simp [Go.Sort.putRow,Go.Sort.mapBlock,Go.Sort.ahead]
  rw [Go.Sort.heap_grow_old _ _ (by rw [sz];exact hk)]
  have:ob ≠ k:=fun e=>hne (by rw [e])
  simp [Go.Sort.putRow,Go.Sort.mapBlock,Go.Sort.ahead,Array.getElem?_modify,this]
theorem sw_block {w1 w':World} {ob oo:Nat} {d:Array Nat} {cur:Array Value} {e:TypeId} {fr:Nat × Nat} (h:SW encN w1 ob oo d w') (hb:w1.heap[ob]?=some (.cells cur e fr)):w'.heap[ob]?=some (.cells (Go.Sort.putCells encN oo d cur) e fr):=by
  have lt:ob < w1.heap.size:=(Array.getElem?_eq_some_iff.1 hb).1
  obtain ⟨q,os,rfl⟩:=h
  unfold sortWorld
  have sz:(Go.Sort.putRow encN (Go.Sort.ahead w1 q) ob oo d).heap.size=w1.heap.size:=by simp [Go.Sort.putRow,Go.Sort.mapBlock,Go.Sort.ahead]
  rw [Go.Sort.heap_grow_old _ _ (by rw [sz];exact lt)]
  simp [Go.Sort.putRow,Go.Sort.mapBlock,Go.Sort.ahead,Array.getElem?_modify,hb,Go.Sort.onCells]
theorem sw_own {w1 w':World} {B ob cO n:Nat} {P L L' S:List Nat} (h:SW encN w1 ob P.length L'.toArray w') (ho:w1.ownsRow B 3 1 (.slice (some ⟨ob,0,none⟩) n cO) n (nvs9 (P ++ L ++ S))) (hl:L'.length=L.length):w'.ownsRow B 3 1 (.slice (some ⟨ob,0,none⟩) n cO) n (nvs9 (P ++ L' ++ S)):=by
  have hn:=ho.1
  rcases ho.2 with ⟨e0,_⟩ | ⟨g,cap,cur,e0,hg,hb,h1,h2,h3,h4⟩
  · cases e0
  · injection e0 with e1 _ e3
    injection e1 with e1
    injection e1 with e1
    subst e1 e3
    rw [nvs9_len] at hn
    simp only [List.length_append,Nat.mul_one] at hn
    refine ⟨by rw [nvs9_len];simp only [List.length_append];omega,.inr ⟨_,_,_,rfl,hg,sw_block h hb,h1,h2,by simp [Go.Sort.putCells,h3],?_⟩⟩
    apply List.ext_getElem?
    intro j
    rw [Nat.mul_one,List.getElem?_take]
    by_cases hj:j < n
    · have h4j:cur[j]?=(nvs9 (P ++ L ++ S))[j]?:=by
        rw [← h4,Nat.mul_one,List.getElem?_take,if_pos hj,Array.getElem?_toList]
      have hjc:j < cur.size:=by omega
      rw [if_pos hj,Array.getElem?_toList]
      unfold Go.Sort.putCells
      rw [Array.getElem?_mapIdx,h4j]
      unfold nvs9
      rw [List.getElem?_map,List.getElem?_map,List.append_assoc,List.append_assoc]
      by_cases c1:j < P.length
      · rw [List.getElem?_append_left c1,List.getElem?_append_left c1,List.getElem?_eq_getElem c1]
        simp [show ¬ P.length≤j by omega]
      · have r1:(P ++ (L ++ S))[j]?=(L ++ S)[j - P.length]?:=List.getElem?_append_right (by omega)
        have r2:(P ++ (L' ++ S))[j]?=(L' ++ S)[j - P.length]?:=List.getElem?_append_right (by omega)
        rw [r1,r2]
        by_cases c2:j - P.length < L.length
        · have r3:(L ++ S)[j - P.length]?=L[j - P.length]?:=List.getElem?_append_left c2
          have r4:(L' ++ S)[j - P.length]?=L'[j - P.length]?:=List.getElem?_append_left (by omega)
          rw [r3,r4,List.getElem?_eq_getElem c2,List.getElem?_eq_getElem (by omega)]
          simp only [Option.map_some,List.size_toArray]
          rw [if_pos (by omega),getElem!_pos _ _ (by simp;omega)]
          simp
        · have r3:(L ++ S)[j - P.length]?=S[j - P.length - L.length]?:=List.getElem?_append_right (by omega)
          have r4:(L' ++ S)[j - P.length]?=S[j - P.length - L'.length]?:=List.getElem?_append_right (by omega)
          rw [r3,r4,hl,List.getElem?_eq_getElem (by omega)]
          simp only [Option.map_some,List.size_toArray]
          rw [if_neg (by omega)]
    · rw [if_neg hj,List.getElem?_eq_none]
      rw [nvs9_len]
      simp only [List.length_append]
      omega
def GSt (s LB LF ob T AD:Nat):Prop:=s≤ob∧LB < LF∧LF < ob∧ob < T∧T < AD
def GS (w0 w:World) (LB LF ob T AD b off n c leaf cO:Nat) (O:List Nat) (vN:Value) (NL:List Nd):Prop :=
  (w.cell? ⟨T,0,none⟩=some (.slice (some ⟨ob,0,none⟩) n cO)∧w.cell? ⟨T,1,none⟩=some vN∧w.cell? ⟨LF,0,none⟩=some (.int .i64 (leaf:Int))∧w.cell? ⟨LB,0,none⟩=some (.slice (some ⟨b,off,none⟩) n c)∧w.cell? ⟨AD,0,none⟩=some (.func (.func 48) #[] #[.pointer (some ⟨T,0,none⟩),.pointer (some ⟨LF,0,none⟩),.pointer (some ⟨LB,0,none⟩),.pointer (some ⟨AD,0,none⟩)])) ∧
  w.frozen? ⟨T,1,none⟩=false∧w.ownsRow w0.heap.size 3 1 (.slice (some ⟨ob,0,none⟩) n cO) n (nvs9 O)∧w.ownsRow (AD + 1) 44 8 vN NL.length (nds NL)∧AD + 1≤w.heap.size∧Below w0.heap.size w0 w
section
variable {w0 w W:World} {LB LF ob T AD b off n c leaf cO:Nat} {O:List Nat} {vN:Value} {NL:List Nd}
theorem gS_below (g:GSt w0.heap.size LB LF ob T AD) (h:GS w0 w LB LF ob T AD b off n c leaf cO O vN NL) (hb:Below w.heap.size w W):GS w0 W LB LF ob T AD b off n c leaf cO O vN NL:=by
  obtain ⟨⟨c0,c1,c2,c3,c4⟩,f,o1,o2,sz,bl⟩:=h
  obtain ⟨g1,g2,g3,g4,g5⟩:=g
  exact ⟨⟨(hb.cell (p:=⟨T,0,none⟩) (by show T < _;omega)).trans c0,(hb.cell (p:=⟨T,1,none⟩) (by show T < _;omega)).trans c1,(hb.cell (p:=⟨LF,0,none⟩) (by show LF < _;omega)).trans c2,(hb.cell (p:=⟨LB,0,none⟩) (by show LB < _;omega)).trans c3,(hb.cell (p:=⟨AD,0,none⟩) (by show AD < _;omega)).trans c4⟩,(hb.frozen (p:=⟨T,1,none⟩) (by show T < _;omega)).trans f,tr_own_below o1 hb,tr_own_below o2 hb,Nat.le_trans sz hb.size,bstep bl hb⟩
theorem gS_cells (h:GS w0 w LB LF ob T AD b off n c leaf cO O vN NL):w.cell? ⟨T,0,none⟩=some (.slice (some ⟨ob,0,none⟩) n cO)∧w.cell? ⟨T,1,none⟩=some vN∧w.cell? ⟨LF,0,none⟩=some (.int .i64 (leaf:Int))∧w.cell? ⟨LB,0,none⟩=some (.slice (some ⟨b,off,none⟩) n c)∧w.cell? ⟨AD,0,none⟩=some (.func (.func 48) #[] #[.pointer (some ⟨T,0,none⟩),.pointer (some ⟨LF,0,none⟩),.pointer (some ⟨LB,0,none⟩),.pointer (some ⟨AD,0,none⟩)]):=h.1
theorem gS_app (g:GSt w0.heap.size LB LF ob T AD) (h:GS w0 w LB LF ob T AD b off n c leaf cO O vN NL) {w2:World} {o:Obj} {v':Value} {x:Nd} (gr:(w.alloc o).grownBy w2 vN.ownBlock) (ow:w2.ownsRow (AD + 1) 44 8 v' (NL.length + 1) (nds NL ++ ndv x)):GS w0 (w2.setCell ⟨T,1,none⟩ v') LB LF ob T AD b off n c leaf cO O v' (NL ++ [x]):=by
  obtain ⟨⟨c0,c1,c2,c3,c4⟩,f,o1,o2,sz,bl⟩:=h
  obtain ⟨g1,g2,g3,g4,g5⟩:=g
  have nb:∀ k,k≤AD→vN.ownBlock=none∨vN.ownBlock ≠ some k:=fun k hk=>Or.inr fun e=>by have:=(o2.lt k e).1;omega
  have ne:∀ k,k≤AD→some k ≠ vN.ownBlock:=fun k hk e=>by have:=(o2.lt k e.symm).1;omega
  have blk:∀ k,k≤AD→w2.heap[k]?=w.heap[k]?:=fun k hk=>by
    rw [gr.block k (by simp;omega) (ne k hk)]
    exact ((Below.refl w.heap.size w).alloc (Nat.le_refl _) o).block k (by omega)
  have cl:∀ k j,k≤AD→w2.cell? ⟨k,j,none⟩=w.cell? ⟨k,j,none⟩:=fun k j hk=>World.cell?_of_block (blk k hk)
  have sz2:AD + 1≤w2.heap.size:=by have:=gr.size;simp at this;omega
  have o1':w2.ownsRow w0.heap.size 3 1 (.slice (some ⟨ob,0,none⟩) n cO) n (nvs9 O):=by
    refine World.ownsRow.kept (o1.alloc o) gr (Or.inr fun e=>?_)
    exact ne ob (by omega) e
  refine ⟨⟨?_,?_,?_,?_,?_⟩,?_,?_,?_,?_,?_⟩
  · rw [World.cell?_setCell_other _ _ _ _ (by simp),cl T 0 (by omega)];exact c0
  · exact World.cell?_setCell_same _ _ _ ((cl T 1 (by omega)).trans c1)
  · rw [World.cell?_setCell_other _ _ _ _ (by simp <;> omega),cl LF 0 (by omega)];exact c2
  · rw [World.cell?_setCell_other _ _ _ _ (by simp <;> omega),cl LB 0 (by omega)];exact c3
  · rw [World.cell?_setCell_other _ _ _ _ (by simp <;> omega),cl AD 0 (by omega)];exact c4
  · simp only [World.frozen?_setCell]
    rw [World.frozen?_of_block (blk T (by omega))]
    exact f
  · exact ownsRow_setCell_other o1' (by simp [Value.ownBlock];omega) v'
  · rw [List.length_append,nds_app]
    refine ownsRow_setCell_below (base:=AD + 1) ?_ (by show T < _;omega) v'
    show w2.ownsRow _ _ _ v' (NL.length + 1) (nds NL ++ nds [x])
    rw [show nds [x]=ndv x by simp [nds]]
    exact ow
  · simp;exact sz2
  · refine Below.setCell ?_ (by show w0.heap.size≤T;omega) v'
    exact (bl.alloc bl.size o).grown gr (by have:=bl.size;simp;omega) (fun gg hg=>by have:=(o2.lt gg hg).1;omega)
theorem gS_sort (g:GSt w0.heap.size LB LF ob T AD) {w1:World} {P L L' S:List Nat} (h:GS w0 w LB LF ob T AD b off n c leaf cO (P ++ L ++ S) vN NL) (hb:Below w.heap.size w w1) (so:SrtO w1 W ob P.length L') (hl:L'.length=L.length):GS w0 W LB LF ob T AD b off n c leaf cO (P ++ L' ++ S) vN NL:=by
  obtain ⟨⟨c0,c1,c2,c3,c4⟩,f,o1,o2,sz,bl⟩:=gS_below g h hb
  obtain ⟨g1,g2,g3,g4,g5⟩:=g
  have gr:=sw_grown so
  have blk:∀ k,k≤AD→k ≠ ob→W.heap[k]?=w1.heap[k]?:=fun k hk hne=>gr.block k (by omega) (by simpa using hne)
  have cl:∀ k j,k≤AD→k ≠ ob→W.cell? ⟨k,j,none⟩=w1.cell? ⟨k,j,none⟩:=fun k j hk hne=>World.cell?_of_block (blk k hk hne)
  refine ⟨⟨(cl T 0 (by omega) (by omega)).trans c0,(cl T 1 (by omega) (by omega)).trans c1,(cl LF 0 (by omega) (by omega)).trans c2,(cl LB 0 (by omega) (by omega)).trans c3,(cl AD 0 (by omega) (by omega)).trans c4⟩,(World.frozen?_of_block (blk T (by omega) (by omega))).trans f,sw_own so o1 hl,?_,Nat.le_trans sz gr.size,?_⟩
  · exact o2.kept gr (Or.inr fun e=>by have:=(o2.lt ob e).1;omega)
  · exact bl.grown gr bl.size (fun gg hg=>by simp at hg;omega)
theorem gS_parts (g:GSt w0.heap.size LB LF ob T AD) {A B:List Nd} {x:Nd} {gb cN K:Nat} (h:GS w0 w LB LF ob T AD b off n c leaf cO O (.slice (some ⟨gb,0,none⟩) K cN) (A ++ x :: B)) (hk:K=(A ++ x :: B).length) (l r:Int):GS w0 ((w.setCell ⟨gb,A.length * 8 + 2,none⟩ (.int .i64 l)).setCell ⟨gb,A.length * 8 + 3,none⟩ (.int .i64 r)) LB LF ob T AD b off n c leaf cO O (.slice (some ⟨gb,0,none⟩) K cN) (A ++ prtN x l r :: B):=by
  obtain ⟨⟨c0,c1,c2,c3,c4⟩,f,o1,o2,sz,bl⟩:=h
  obtain ⟨g1,g2,g3,g4,g5⟩:=g
  have hg:=(o2.lt gb rfl).1
  rw [← hk] at o2
  have o3:=(((o2.stored (A.length * 8 + 2) (.int .i64 l)).1).stored (A.length * 8 + 3) (.int .i64 r)).1
  rw [nds_parts] at o3
  have st:∀ (k j:Nat) v,k≤AD→w.cell? ⟨k,j,none⟩=some v→((w.setCell ⟨gb,A.length * 8 + 2,none⟩ (.int .i64 l)).setCell ⟨gb,A.length * 8 + 3,none⟩ (.int .i64 r)).cell? ⟨k,j,none⟩=some v:=fun k j v hk' e=>by
    rw [World.cell?_setCell_other _ _ _ _ (by simp <;> omega),World.cell?_setCell_other _ _ _ _ (by simp <;> omega)]
    exact e
  refine ⟨⟨st _ _ _ (by omega) c0,st _ _ _ (by omega) c1,st _ _ _ (by omega) c2,st _ _ _ (by omega) c3,st _ _ _ (by omega) c4⟩,?_,?_,?_,?_,?_⟩
  · simp only [World.frozen?_setCell];exact f
  · exact ownsRow_setCell_other (ownsRow_setCell_other o1 (by simp [Value.ownBlock];omega) _) (by simp [Value.ownBlock];omega) _
  · have e9:(A ++ prtN x l r :: B).length=K:=by rw [hk];simp
    rw [e9]
    exact o3
  · simp;exact sz
  · exact Below.setCell (Below.setCell bl (by show w0.heap.size≤gb;omega) _) (by show w0.heap.size≤gb;omega) _
theorem gS_form (h:GS w0 w LB LF ob T AD b off n c leaf cO O vN NL):∃ A cN,vN=.slice A NL.length cN:=tr_own_slice h.2.2.2.1
end
end Go.Proofs.Ytpocbdompamnnaa
