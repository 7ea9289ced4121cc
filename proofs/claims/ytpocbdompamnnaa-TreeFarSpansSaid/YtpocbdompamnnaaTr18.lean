import Derived.RangeFuncBox
import Derived.RangeFuncNested
import Derived.Laws.OwnMore
import Derived.Test.YtpocbdompamnnaaTr17
namespace Go.Proofs.Ytpocbdompamnnaa
open Go.ChangeShapes Go.WideShapes Go.RowKit
open Sh
open Go.Shelf
def hgU (K k:Nat) (f:Nat→Int) (y:Int):Nat→Int:=if rngB y ((k:Int) + 1) ((K:Int) - 1)=true then fun i=>if i=k then Sp.mx (f k) (f y.toNat + 1) else f i else f
def hgO (k:Nat) (f:Nat→Int):Nat→Int:=fun i=>if i=k then 1 else f i
def hgW (K k:Nat) (x:Ni) (f:Nat→Int):Nat→Int:=hgU K k (hgU K k (hgO k f) x.2.2.1) x.2.2.2.1
def hgF (K:Nat) (T:Nat→Ni) (L:List Nat):Nat→Int:=L.foldl (fun f k=>hgW K k (T k) f) (fun _=>0)
theorem hgF_snoc (K:Nat) (T:Nat→Ni) (L:List Nat) (k:Nat):hgF K T (L ++ [k])=hgW K k (T k) (hgF K T L):=by simp [hgF]
def hgt (K:Nat) (T:Nat→Ni):Int:=hgF K T (bckL K K) 0
theorem hgU_bd {K k n:Nat} {f g:Nat→Int} {y:Int} (h:∀ i,0≤f i∧f i≤n + 1) (hg:∀ i,i ≠ k→f i≤n) (e:g=hgU K k f y):(∀ i,0≤g i∧g i≤n + 1)∧(∀ i,i ≠ k→g i≤n):=by
  subst e
  unfold hgU
  by_cases c:rngB y ((k:Int) + 1) ((K:Int) - 1)=true
  · rw [if_pos c]
    rw [rngB_iff] at c
    have ne:y.toNat ≠ k:=by omega
    refine ⟨fun i=>?_,fun i hi=>?_⟩
    · show 0≤(if i=k then _ else _)∧(if i=k then _ else _)≤_
      have a:=h i
      have b:=h k
      have d:=h y.toNat
      have d':=hg y.toNat ne
      rw [Sp.mx_eq]
      split <;> omega
    · show (if i=k then _ else _)≤_
      rw [if_neg hi]
      exact hg i hi
  · rw [if_neg c]
    exact ⟨h,hg⟩
theorem hgO_bd {k n:Nat} {f:Nat→Int} (h:∀ i,0≤f i∧f i≤n):(∀ i,0≤hgO k f i∧hgO k f i≤n + 1)∧(∀ i,i ≠ k→hgO k f i≤n):=by
  refine ⟨fun i=>?_,fun i hi=>?_⟩
  · show 0≤(if i=k then _ else _)∧(if i=k then _ else _)≤_
    have a:=h i
    split <;> omega
  · show (if i=k then _ else _)≤_
    rw [if_neg hi]
    exact (h i).2
theorem hgF_rev (K:Nat) (T:Nat→Ni):∀ L:List Nat,∀ i,0≤hgF K T L.reverse i∧hgF K T L.reverse i≤L.length
  | []=>fun _=>⟨Int.le_refl 0,Int.le_refl 0⟩
  | k :: L=>fun i=>by
    have ih:=hgF_rev K T L
    rw [List.reverse_cons,hgF_snoc]
    have a:=hgO_bd (k:=k) ih
    have b:=hgU_bd (K:=K) (y:=(T k).2.2.1) a.1 a.2 rfl
    have c:=hgU_bd (K:=K) (y:=(T k).2.2.2.1) b.1 b.2 rfl
    have d:=c.1 i
    unfold hgW
    simp only [List.length_cons]
    omega
theorem hgF_bd (K:Nat) (T:Nat→Ni) (L:List Nat) (i:Nat):0≤hgF K T L i∧hgF K T L i≤L.length:=by
  have z:=hgF_rev K T L.reverse i
  rw [List.reverse_reverse,List.length_reverse] at z
  exact z
def TbH (w:World) (b K:Nat) (f:Nat→Int):Prop:=b < w.heap.size∧∀ k,k < K→w.cell? ⟨b,k,none⟩=some (.int .i64 (f k))∧w.frozen? ⟨b,k,none⟩=false
theorem tbH_below {w W:World} {b K:Nat} {f:Nat→Int} (h:TbH w b K f) (hb:Below w.heap.size w W):TbH W b K f :=
  ⟨Nat.lt_of_lt_of_le h.1 hb.size,fun k hk=>⟨(hb.cell (p:=⟨b,k,none⟩) h.1).trans (h.2 k hk).1,(hb.frozen (p:=⟨b,k,none⟩) h.1).trans (h.2 k hk).2⟩⟩
theorem tbH_put {w:World} {b K:Nat} {f g:Nat→Int} (h:TbH w b K f) {r:Nat} (hr:r < K) (v:Int) (hg:g=fun i=>if i=r then v else f i):TbH (w.setCell ⟨b,r,none⟩ (.int .i64 v)) b K g:=by
  subst hg
  refine ⟨by simp;exact h.1,fun k hk=>⟨?_,by simp only [World.frozen?_setCell];exact (h.2 k hk).2⟩⟩
  show _=some (Value.int .i64 (if k=r then v else f k))
  by_cases e:k=r
  · subst e
    rw [if_pos rfl]
    exact World.cell?_setCell_same _ _ _ (h.2 k hk).1
  · rw [if_neg e,World.cell?_setCell_other _ _ _ _ (by simp <;> omega)]
    exact (h.2 k hk).1
theorem tbH_own (b K:Nat) (B:Nat):OwnFrom B (fun (f:Nat→Int) W=>TbH W b K f):=Own.from (fun _ _ _ _ hs hg hr=>⟨Nat.lt_of_lt_of_le hs.1 hg.size,fun k hk=>⟨cell_kept (hs.2 k hk).1 hg hr,(frozen_kept (hs.2 k hk).1 hg hr).trans (hs.2 k hk).2⟩⟩) B
theorem tbH_make (w:World) (n:Nat) (hn:n≤1000000):∃ w',(Instr.makeSlice 24 (.int .i64 (n:Int)) (.int .i64 (n:Int))).run Try.prog w=.ok (.slice (some ⟨w.heap.size,0,none⟩) n n) w'∧TbH w' w.heap.size n (fun _=>0)∧w.grownBy w' none:=by
  obtain ⟨i0,hi,hz0,hz1,hz2⟩:=info_parts tr_infoI
  obtain ⟨w',h1,h2,h3⟩:=run_make_full (P:=Try.prog) w 0 24 3 i0 (.int .i64 0) 1 Try.underlying24 hi hz0 hz1 .i64 .i64 n (by rw [hz2];omega) (by unfold maxLen;omega) (Nat.zero_le _)
  have hlt:w.heap.size < w'.heap.size:=by
    rcases h2.2 with ⟨h',_⟩ | ⟨g',cap',cur,h',_,hg,_⟩
    · simp at h'
    · simp only [Value.slice.injEq,Option.some.injEq,Addr.mk.injEq,and_true] at h'
      obtain ⟨rfl,_⟩:=h'
      exact (Array.getElem?_eq_some_iff.1 hg).1
  refine ⟨w',h1,⟨hlt,fun j hj=>⟨?_,h2.frozenAt _⟩⟩,h3⟩
  rw [h2.cellAt j (by omega)]
  simp [madeCells,Value.cells,hj,Nat.mod_one]
theorem tr_grown {W W':World} (h:Below W.heap.size W W'):W.grownBy W' none:=⟨h.os,h.tape,h.output,h.size,fun k hk _=>h.block k hk⟩
theorem tr_gset (W:World) (b r:Nat) (v:Value):W.grownBy (W.setCell ⟨b,r,none⟩ v) (some b) :=
  ⟨rfl,rfl,rfl,(KeepsWalks.setCell W _ v).size,fun k _ hk=>Below.heap_setCell _ _ _ k (fun e=>hk (by rw [e]))⟩
def HgS (B n₀ Bs bh:Nat) (K:Nat) (c:Nat) (W V:World) (f:Nat→Int):Prop:=TbH V n₀ K f∧Boxed V bh 24 (.slice (some ⟨n₀,0,none⟩) K c)∧KeepsFrom B W V∧KpB n₀ Bs W V
section
variable {B n₀ Bs bh K c:Nat} {W V V':World} {f g:Nat→Int}
theorem hgS_below (h:HgS B n₀ Bs bh K c W V f) (hs:Bs < V.heap.size) (hb:Below V.heap.size V V'):HgS B n₀ Bs bh K c W V' f :=
  ⟨tbH_below h.1 hb,h.2.1.kept (tr_grown hb) (by simp),h.2.2.1.trans (KeepsFrom.of_grownBy (tr_grown hb) (fun j e=>by cases e)),kpB_t h.2.2.2 ⟨hb.mono (Nat.le_of_lt h.1.1),hb.block Bs hs⟩⟩
theorem hgS_put (h:HgS B n₀ Bs bh K c W V f) (ns:Bs ≠ n₀) (nh:bh ≠ n₀) {r:Nat} (hr:r < K) (v:Int) (hg:g=fun i=>if i=r then v else f i):HgS B n₀ Bs bh K c W (V.setCell ⟨n₀,r,none⟩ (.int .i64 v)) g :=
  ⟨tbH_put h.1 hr v hg,h.2.1.kept (tr_gset V n₀ r _) (fun e=>nh (by cases e;rfl)),h.2.2.1.trans ((KeepsOthers.setCell V _ _).from B),kpB_t h.2.2.2 ⟨(Below.refl n₀ V).setCell (p:=⟨n₀,r,none⟩) (Nat.le_refl _) _,(Below.heap_setCell _ _ _ Bs ns)⟩⟩
end
end Go.Proofs.Ytpocbdompamnnaa
