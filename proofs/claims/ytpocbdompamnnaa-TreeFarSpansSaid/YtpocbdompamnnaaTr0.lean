import Derived.Test.YtpocbdompamnnaaBase
import Derived.Test.YtpocbdompamnnaaPtM
namespace Go.Proofs.Ytpocbdompamnnaa
open Go.ChangeShapes Go.WideShapes Go.RowKit
open Sh
def axC (k:Nat) (a:P3):Int:=if k=0 then a.1 else if k=1 then a.2.1 else a.2.2
def keyC (Q:Nat→Ch) (k i:Nat):Int:=axC k (Q i).1.1 + axC k (Q i).1.2.1 + axC k (Q i).1.2.2
def ltK (f:Nat→Int) (a b:Nat):Prop:=f a < f b∨(f a=f b∧a < b)
instance ltKd (f:Nat→Int) (a b:Nat):Decidable (ltK f a b):=by unfold ltK;exact inferInstance
theorem ltK_asym {f:Nat→Int} {a b:Nat} (h:ltK f a b) (k:ltK f b a):False:=by
  unfold ltK at h k
  omega
theorem ltK_trans {f:Nat→Int} {a b c:Nat} (h:ltK f a b) (k:ltK f b c):ltK f a c:=by
  unfold ltK at h k ⊢
  omega
theorem srtK_uniq {f:Nat→Int}:∀ {L M:List Nat},L.Perm M→L.Pairwise (ltK f)→M.Pairwise (ltK f)→L=M
  | [],M,h,_,_=>(List.Perm.nil_eq h)
  | a :: L,[],h,_,_=>absurd h.length_eq (by simp)
  | a :: L,b :: M,h,hl,hm=>by
    have ha:=List.pairwise_cons.1 hl
    have hb:=List.pairwise_cons.1 hm
    have e:a=b:=by
      have m1:a ∈ b :: M:=h.mem_iff.1 (List.mem_cons_self ..)
      have m2:b ∈ a :: L:=h.mem_iff.2 (List.mem_cons_self ..)
      rcases List.mem_cons.1 m1 with e | m1
      · exact e
      rcases List.mem_cons.1 m2 with e | m2
      · exact e.symm
      · exact (ltK_asym (ha.1 b m2) (hb.1 a m1)).elim
    subst e
    rw [srtK_uniq (List.Perm.cons_inv h) ha.2 hb.2]
def insK (f:Nat→Int) (x:Nat):List Nat→List Nat
  | []=>[x]
  | y :: t=>if ltK f x y then x :: y :: t else y :: insK f x t
def srtK (f:Nat→Int):List Nat→List Nat
  | []=>[]
  | x :: t=>insK f x (srtK f t)
theorem insK_perm (f:Nat→Int) (x:Nat):∀ L,(insK f x L).Perm (x :: L)
  | []=>List.Perm.refl _
  | y :: t=>by
    unfold insK
    by_cases h:ltK f x y
    · rw [if_pos h]
    · rw [if_neg h]
      exact ((insK_perm f x t).cons y).trans (List.Perm.swap x y t)
theorem srtK_perm (f:Nat→Int):∀ L,(srtK f L).Perm L
  | []=>List.Perm.refl _
  | x :: t=>(insK_perm f x _).trans ((srtK_perm f t).cons x)
theorem insK_pw {f:Nat→Int} {x:Nat}:∀ {L:List Nat},x ∉ L→L.Pairwise (ltK f)→(insK f x L).Pairwise (ltK f)
  | [],_,_=>List.pairwise_singleton _ _
  | y :: t,hx,h=>by
    obtain ⟨h1,h2⟩:=List.pairwise_cons.1 h
    unfold insK
    by_cases c:ltK f x y
    · rw [if_pos c]
      refine List.pairwise_cons.2 ⟨fun b hb=>?_,h⟩
      rcases List.mem_cons.1 hb with e | hb
      · exact e ▸ c
      · exact ltK_trans c (h1 b hb)
    · rw [if_neg c]
      have ne:x ≠ y:=fun e=>hx (e ▸ List.mem_cons_self ..)
      have yx:ltK f y x:=by unfold ltK at c ⊢;omega
      refine List.pairwise_cons.2 ⟨fun b hb=>?_,insK_pw (fun m=>hx (List.mem_cons_of_mem _ m)) h2⟩
      rcases List.mem_cons.1 ((insK_perm f x t).mem_iff.1 hb) with e | hb
      · exact e ▸ yx
      · exact h1 b hb
theorem srtK_pw {f:Nat→Int}:∀ {L:List Nat},L.Nodup→(srtK f L).Pairwise (ltK f)
  | [],_=>List.Pairwise.nil
  | x :: t,h=>by
    obtain ⟨h1,h2⟩:=List.nodup_cons.1 h
    exact insK_pw (fun m=>h1 ((srtK_perm f t).mem_iff.1 m)) (srtK_pw h2)
theorem srtK_is {f:Nat→Int} {L M:List Nat} (nd:L.Nodup) (p:M.Perm L) (s:M.Pairwise (ltK f)):M=srtK f L :=
  srtK_uniq (p.trans (srtK_perm f L).symm) s (srtK_pw nd)
def mnG (f:Nat→Int) (z:Int) (L:List Nat):Int:=L.foldl (fun m i=>Sp.mn m (f i)) z
def mxG (f:Nat→Int) (z:Int) (L:List Nat):Int:=L.foldl (fun m i=>Sp.mx m (f i)) z
theorem mnG_snoc (f:Nat→Int) (z:Int) (L:List Nat) (a:Nat):mnG f z (L ++ [a])=Sp.mn (mnG f z L) (f a):=by simp [mnG]
theorem mxG_snoc (f:Nat→Int) (z:Int) (L:List Nat) (a:Nat):mxG f z (L ++ [a])=Sp.mx (mxG f z L) (f a):=by simp [mxG]
theorem le_mnG {f:Nat→Int} {v:Int}:∀ {L:List Nat} {z:Int},v≤mnG f z L ↔ v≤z∧∀ i,i ∈ L→v≤f i
  | [],z=>by simp [mnG]
  | a :: L,z=>by
    show v≤mnG f (Sp.mn z (f a)) L ↔ _
    rw [le_mnG,Sp.mn_eq]
    simp only [List.mem_cons,forall_eq_or_imp]
    constructor
    · rintro ⟨h1,h2⟩;exact ⟨by omega,by omega,h2⟩
    · rintro ⟨h1,h2,h3⟩;exact ⟨by omega,h3⟩
theorem mxG_le {f:Nat→Int} {v:Int}:∀ {L:List Nat} {z:Int},mxG f z L≤v ↔ z≤v∧∀ i,i ∈ L→f i≤v
  | [],z=>by simp [mxG]
  | a :: L,z=>by
    show mxG f (Sp.mx z (f a)) L≤v ↔ _
    rw [mxG_le,Sp.mx_eq]
    simp only [List.mem_cons,forall_eq_or_imp]
    constructor
    · rintro ⟨h1,h2⟩;exact ⟨by omega,by omega,h2⟩
    · rintro ⟨h1,h2,h3⟩;exact ⟨by omega,h3⟩
theorem mnG_le (f:Nat→Int) (z:Int) (L:List Nat):mnG f z L≤z∧∀ i,i ∈ L→mnG f z L≤f i:=le_mnG.1 (Int.le_refl _)
theorem le_mxG (f:Nat→Int) (z:Int) (L:List Nat):z≤mxG f z L∧∀ i,i ∈ L→f i≤mxG f z L:=mxG_le.1 (Int.le_refl _)
def wdK (f:Nat→Int) (L:List Nat):Int:=mxG f (f (L.getD 0 0)) L - mnG f (f (L.getD 0 0)) L
theorem wdK_nn (f:Nat→Int) (L:List Nat):0≤wdK f L:=by
  have a:=(mnG_le f (f (L.getD 0 0)) L).1
  have b:=(le_mxG f (f (L.getD 0 0)) L).1
  unfold wdK
  omega
theorem mnG_bd {f:Nat→Int} {B z:Int} {L:List Nat} (hz:-B≤z∧z≤B) (h:∀ i,i ∈ L→-B≤f i∧f i≤B):-B≤mnG f z L∧mnG f z L≤B:=by
  have a:=(mnG_le f z L).1
  have b:=(le_mnG (f:=f) (v:=-B) (L:=L) (z:=z)).2 ⟨hz.1,fun i hi=>(h i hi).1⟩
  omega
theorem mxG_bd {f:Nat→Int} {B z:Int} {L:List Nat} (hz:-B≤z∧z≤B) (h:∀ i,i ∈ L→-B≤f i∧f i≤B):-B≤mxG f z L∧mxG f z L≤B:=by
  have a:=(le_mxG f z L).1
  have b:=(mxG_le (f:=f) (v:=B) (L:=L) (z:=z)).2 ⟨hz.2,fun i hi=>(h i hi).2⟩
  omega
def widA (Q:Nat→Ch) (L:List Nat):Nat:=if wdK (keyC Q 0) L < wdK (keyC Q 1) L then 1 else 0
def widC (Q:Nat→Ch) (L:List Nat):Nat:=if wdK (keyC Q (widA Q L)) L < wdK (keyC Q 2) L then 2 else widA Q L
theorem widC_lt (Q:Nat→Ch) (L:List Nat):widC Q L < 3:=by
  have a:widA Q L < 2:=by
    unfold widA
    split <;> omega
  unfold widC
  generalize widA Q L=b at *
  split <;> omega
def mnC (Q:Nat→Ch) (k:Nat) (z:Int) (L:List Nat):Int:=L.foldl (fun m i=>Sp.mn (Sp.mn (Sp.mn m (axC k (Q i).1.1)) (axC k (Q i).1.2.1)) (axC k (Q i).1.2.2)) z
def mxC (Q:Nat→Ch) (k:Nat) (z:Int) (L:List Nat):Int:=L.foldl (fun m i=>Sp.mx (Sp.mx (Sp.mx m (axC k (Q i).1.1)) (axC k (Q i).1.2.1)) (axC k (Q i).1.2.2)) z
theorem mnC_snoc (Q:Nat→Ch) (k:Nat) (z:Int) (L:List Nat) (a:Nat):mnC Q k z (L ++ [a])=Sp.mn (Sp.mn (Sp.mn (mnC Q k z L) (axC k (Q a).1.1)) (axC k (Q a).1.2.1)) (axC k (Q a).1.2.2):=by simp [mnC]
theorem mxC_snoc (Q:Nat→Ch) (k:Nat) (z:Int) (L:List Nat) (a:Nat):mxC Q k z (L ++ [a])=Sp.mx (Sp.mx (Sp.mx (mxC Q k z L) (axC k (Q a).1.1)) (axC k (Q a).1.2.1)) (axC k (Q a).1.2.2):=by simp [mxC]
theorem le_mnC {Q:Nat→Ch} {k:Nat} {v:Int}:∀ {L:List Nat} {z:Int},v≤mnC Q k z L ↔ v≤z∧∀ i,i ∈ L→v≤axC k (Q i).1.1∧v≤axC k (Q i).1.2.1∧v≤axC k (Q i).1.2.2
  | [],z=>by simp [mnC]
  | a :: L,z=>by
    show v≤mnC Q k _ L ↔ _
    rw [le_mnC]
    dsimp only
    rw [Sp.mn_eq,Sp.mn_eq,Sp.mn_eq]
    simp only [List.mem_cons,forall_eq_or_imp]
    constructor
    · rintro ⟨h1,h2⟩;exact ⟨by omega,⟨by omega,by omega,by omega⟩,h2⟩
    · rintro ⟨h1,⟨h2,h3,h4⟩,h5⟩;exact ⟨by omega,h5⟩
theorem mxC_le {Q:Nat→Ch} {k:Nat} {v:Int}:∀ {L:List Nat} {z:Int},mxC Q k z L≤v ↔ z≤v∧∀ i,i ∈ L→axC k (Q i).1.1≤v∧axC k (Q i).1.2.1≤v∧axC k (Q i).1.2.2≤v
  | [],z=>by simp [mxC]
  | a :: L,z=>by
    show mxC Q k _ L≤v ↔ _
    rw [mxC_le]
    dsimp only
    rw [Sp.mx_eq,Sp.mx_eq,Sp.mx_eq]
    simp only [List.mem_cons,forall_eq_or_imp]
    constructor
    · rintro ⟨h1,h2⟩;exact ⟨by omega,⟨by omega,by omega,by omega⟩,h2⟩
    · rintro ⟨h1,⟨h2,h3,h4⟩,h5⟩;exact ⟨by omega,h5⟩
theorem eq_of_le_iff {a b:Int} (h:∀ v,v≤a ↔ v≤b):a=b:=by
  have x:=(h a).1 (Int.le_refl _)
  have y:=(h b).2 (Int.le_refl _)
  omega
theorem eq_of_ge_iff {a b:Int} (h:∀ v,a≤v ↔ b≤v):a=b:=by
  have x:=(h a).1 (Int.le_refl _)
  have y:=(h b).2 (Int.le_refl _)
  omega
theorem axC_bd {B:Int} {a:P3} (h:BdP B a) (k:Nat):-B≤axC k a∧axC k a≤B:=by
  unfold BdP at h
  unfold axC
  split
  · omega
  · split <;> omega
def BdQ (Q:Nat→Ch) (L:List Nat):Prop:=∀ i,i ∈ L→BdP 64 (Q i).1.1∧BdP 64 (Q i).1.2.1∧BdP 64 (Q i).1.2.2
theorem keyC_bd {Q:Nat→Ch} {L:List Nat} (h:BdQ Q L) (k:Nat) {i:Nat} (hi:i ∈ L):-192≤keyC Q k i∧keyC Q k i≤192:=by
  obtain ⟨a,b,c⟩:=h i hi
  have:=axC_bd a k
  have:=axC_bd b k
  have:=axC_bd c k
  unfold keyC
  omega
theorem mnC_bd {Q:Nat→Ch} {L:List Nat} (h:BdQ Q L) (k:Nat) {z:Int} (hz:-64≤z∧z≤64):-64≤mnC Q k z L∧mnC Q k z L≤64:=by
  have a:=((le_mnC (Q:=Q) (k:=k) (L:=L) (z:=z)).1 (Int.le_refl _)).1
  have b:=(le_mnC (Q:=Q) (k:=k) (v:=-64) (L:=L) (z:=z)).2 ⟨hz.1,fun i hi=>⟨(axC_bd (h i hi).1 k).1,(axC_bd (h i hi).2.1 k).1,(axC_bd (h i hi).2.2 k).1⟩⟩
  omega
theorem mxC_bd {Q:Nat→Ch} {L:List Nat} (h:BdQ Q L) (k:Nat) {z:Int} (hz:-64≤z∧z≤64):-64≤mxC Q k z L∧mxC Q k z L≤64:=by
  have a:=((mxC_le (Q:=Q) (k:=k) (L:=L) (z:=z)).1 (Int.le_refl _)).1
  have b:=(mxC_le (Q:=Q) (k:=k) (v:=64) (L:=L) (z:=z)).2 ⟨hz.2,fun i hi=>⟨(axC_bd (h i hi).1 k).2,(axC_bd (h i hi).2.1 k).2,(axC_bd (h i hi).2.2 k).2⟩⟩
  omega
theorem mnC_from {Q:Nat→Ch} {L M:List Nat} (h:BdQ Q L) (p:M.Perm L) (k:Nat) {j:Nat} (hj:j ∈ M):mnC Q k (axC k (Q j).1.1) M=mnC Q k 64 L:=eq_of_le_iff fun v=>by
  rw [le_mnC,le_mnC]
  constructor
  · rintro ⟨h1,h2⟩
    exact ⟨by have:=(axC_bd (h j (p.mem_iff.1 hj)).1 k).2;omega,fun i hi=>h2 i (p.mem_iff.2 hi)⟩
  · rintro ⟨h1,h2⟩
    exact ⟨(h2 j (p.mem_iff.1 hj)).1,fun i hi=>h2 i (p.mem_iff.1 hi)⟩
theorem mxC_from {Q:Nat→Ch} {L M:List Nat} (h:BdQ Q L) (p:M.Perm L) (k:Nat) {j:Nat} (hj:j ∈ M):mxC Q k (axC k (Q j).1.1) M=mxC Q k (-64) L:=eq_of_ge_iff fun v=>by
  rw [mxC_le,mxC_le]
  constructor
  · rintro ⟨h1,h2⟩
    exact ⟨by have:=(axC_bd (h j (p.mem_iff.1 hj)).1 k).1;omega,fun i hi=>h2 i (p.mem_iff.2 hi)⟩
  · rintro ⟨h1,h2⟩
    exact ⟨(h2 j (p.mem_iff.1 hj)).1,fun i hi=>h2 i (p.mem_iff.1 hi)⟩
def midC (Q:Nat→Ch) (k:Nat) (L:List Nat):Int:=(mnC Q k 64 L + mxC Q k (-64) L) / 2
def cenC (Q:Nat→Ch) (L:List Nat):P3:=(midC Q 0 L,midC Q 1 L,midC Q 2 L)
theorem midC_bd {Q:Nat→Ch} {L:List Nat} (h:BdQ Q L) (k:Nat):-64≤midC Q k L∧midC Q k L≤64:=by
  have a:=mnC_bd h k (z:=64) (by omega)
  have b:=mxC_bd h k (z:=-64) (by omega)
  unfold midC
  omega
theorem cenC_bd {Q:Nat→Ch} {L:List Nat} (h:BdQ Q L):BdP 64 (cenC Q L):=by
  have a:=midC_bd h 0
  have b:=midC_bd h 1
  have c:=midC_bd h 2
  exact ⟨a.1,a.2,b.1,b.2,c.1,c.2⟩
theorem mnC_perm {Q:Nat→Ch} {k:Nat} {z:Int} {L M:List Nat} (p:M.Perm L):mnC Q k z M=mnC Q k z L:=eq_of_le_iff fun v=>by
  rw [le_mnC,le_mnC]
  exact and_congr_right fun _=>⟨fun h i hi=>h i (p.mem_iff.2 hi),fun h i hi=>h i (p.mem_iff.1 hi)⟩
theorem mxC_perm {Q:Nat→Ch} {k:Nat} {z:Int} {L M:List Nat} (p:M.Perm L):mxC Q k z M=mxC Q k z L:=eq_of_ge_iff fun v=>by
  rw [mxC_le,mxC_le]
  exact and_congr_right fun _=>⟨fun h i hi=>h i (p.mem_iff.2 hi),fun h i hi=>h i (p.mem_iff.1 hi)⟩
theorem cenC_perm {Q:Nat→Ch} {L M:List Nat} (p:M.Perm L):cenC Q M=cenC Q L:=by
  unfold cenC midC
  simp only [mnC_perm p,mxC_perm p]
def selC (Q:Nat→Ch) (L:List Nat) (k:Nat):Ch:=Q (L.getD k 0)
theorem mxI_le {a b v:Int}:mxI a b≤v ↔ a≤v∧b≤v:=by
  unfold mxI
  split <;> omega
theorem far2_le {p:P3} {Q:Nat→Ch} {v:Int}:∀ {n:Nat},far2 p Q n≤v ↔ 0≤v∧∀ k,k < n→sq (sub (Q k).1.1 p)≤v∧sq (sub (Q k).1.2.1 p)≤v∧sq (sub (Q k).1.2.2 p)≤v
  | 0=>⟨fun h=>⟨h,fun k hk=>absurd hk (Nat.not_lt_zero k)⟩,fun h=>h.1⟩
  | n + 1=>by
    show mxI (mxI (mxI (far2 p Q n) _) _) _≤v ↔ _
    rw [mxI_le,mxI_le,mxI_le,far2_le]
    constructor
    · rintro ⟨⟨⟨⟨h0,h1⟩,h2⟩,h3⟩,h4⟩
      refine ⟨h0,fun k hk=>?_⟩
      rcases Nat.lt_succ_iff_lt_or_eq.1 hk with hk | hk
      · exact h1 k hk
      · subst hk;exact ⟨h2,h3,h4⟩
    · rintro ⟨h0,h1⟩
      obtain ⟨a,b,c⟩:=h1 n (Nat.lt_succ_self n)
      exact ⟨⟨⟨⟨h0,fun k hk=>h1 k (Nat.lt_succ_of_lt hk)⟩,a⟩,b⟩,c⟩
theorem far2_sel {p:P3} {Q:Nat→Ch} {L:List Nat} {v:Int}:far2 p (selC Q L) L.length≤v ↔ 0≤v∧∀ i,i ∈ L→sq (sub (Q i).1.1 p)≤v∧sq (sub (Q i).1.2.1 p)≤v∧sq (sub (Q i).1.2.2 p)≤v:=by
  rw [far2_le]
  refine and_congr_right fun _=>⟨fun h i hi=>?_,fun h k hk=>?_⟩
  · obtain ⟨k,hk,e⟩:=List.mem_iff_getElem.1 hi
    have:=h k hk
    unfold selC at this
    rw [List.getD_eq_getElem?_getD,List.getElem?_eq_getElem hk,Option.getD_some,e] at this
    exact this
  · unfold selC
    rw [List.getD_eq_getElem?_getD,List.getElem?_eq_getElem hk,Option.getD_some]
    exact h _ (List.getElem_mem hk)
def rdC (Q:Nat→Ch) (p:P3) (L:List Nat):Int:=far2 p (selC Q L) L.length
theorem rdC_perm {Q:Nat→Ch} {p:P3} {L M:List Nat} (h:M.Perm L):rdC Q p M=rdC Q p L:=eq_of_ge_iff fun v=>by
  unfold rdC
  rw [far2_sel,far2_sel]
  exact and_congr_right fun _=>⟨fun k i hi=>k i (h.mem_iff.2 hi),fun k i hi=>k i (h.mem_iff.1 hi)⟩
abbrev Nd:=Nat × Nat × Int × Int × P3 × Int
def ballC (Q:Nat→Ch) (L:List Nat):P3 × Int:=(cenC Q L,rdC Q (cenC Q L) L)
def ball0 (_:List Nat):P3 × Int:=((0,0,0),0)
theorem ballC_perm {Q:Nat→Ch} {L M:List Nat} (h:M.Perm L):ballC Q M=ballC Q L:=by
  unfold ballC
  rw [cenC_perm h,rdC_perm h]
def gro (Q:Nat→Ch) (leaf:Nat) (N:List Nat→P3 × Int):Nat→List Nat→Nat→Nat→List Nd × List Nat
  | 0,L,a,_=>([(a,a + L.length,-1,-1,N L)],L)
  | F + 1,L,a,k =>
    if L.length≤leaf then ([(a,a + L.length,-1,-1,N L)],L)
    else
      ((a,a + L.length,((k + 1:Nat):Int),((k + 1 + (gro Q leaf N F ((srtK (keyC Q (widC Q L)) L).take ((L.length + 1) / 2)) a (k + 1)).1.length:Nat):Int),N L) ::
        ((gro Q leaf N F ((srtK (keyC Q (widC Q L)) L).take ((L.length + 1) / 2)) a (k + 1)).1 ++
          (gro Q leaf N F ((srtK (keyC Q (widC Q L)) L).drop ((L.length + 1) / 2)) (a + (L.length + 1) / 2) (k + 1 + (gro Q leaf N F ((srtK (keyC Q (widC Q L)) L).take ((L.length + 1) / 2)) a (k + 1)).1.length)).1),
        (gro Q leaf N F ((srtK (keyC Q (widC Q L)) L).take ((L.length + 1) / 2)) a (k + 1)).2 ++
          (gro Q leaf N F ((srtK (keyC Q (widC Q L)) L).drop ((L.length + 1) / 2)) (a + (L.length + 1) / 2) (k + 1 + (gro Q leaf N F ((srtK (keyC Q (widC Q L)) L).take ((L.length + 1) / 2)) a (k + 1)).1.length)).2)
theorem gro_leaf {Q:Nat→Ch} {leaf:Nat} {N:List Nat→P3 × Int} {F:Nat} {L:List Nat} {a k:Nat} (h:L.length≤leaf):gro Q leaf N F L a k=([(a,a + L.length,-1,-1,N L)],L):=by
  cases F with
  | zero=>rfl
  | succ F=>unfold gro;rw [if_pos h]
theorem gro_node {Q:Nat→Ch} {leaf:Nat} {N:List Nat→P3 × Int} {F:Nat} {L A B:List Nat} {a k h:Nat} {x y:List Nd × List Nat} (hl:¬ L.length≤leaf) (hh:h=(L.length + 1) / 2) (hA:A=(srtK (keyC Q (widC Q L)) L).take h) (hB:B=(srtK (keyC Q (widC Q L)) L).drop h)
    (hx:x=gro Q leaf N F A a (k + 1)) (hy:y=gro Q leaf N F B (a + h) (k + 1 + x.1.length)) :
    gro Q leaf N (F + 1) L a k=((a,a + L.length,((k + 1:Nat):Int),((k + 1 + x.1.length:Nat):Int),N L) :: (x.1 ++ y.1),x.2 ++ y.2):=by
  subst hh hA hB hx hy
  show (if _ then _ else _)=_
  rw [if_neg hl]
theorem half_len {f:Nat→Int} {L:List Nat} {h:Nat} (hh:h=(L.length + 1) / 2) (h2:2≤L.length):((srtK f L).take h).length=h∧((srtK f L).drop h).length=L.length - h∧1≤h∧h < L.length:=by
  have e:=(srtK_perm f L).length_eq
  rw [List.length_take,List.length_drop,e]
  omega
theorem half_perm (f:Nat→Int) (L:List Nat) (h:Nat):((srtK f L).take h ++ (srtK f L).drop h).Perm L:=by
  rw [List.take_append_drop]
  exact srtK_perm f L
theorem half_nodup {f:Nat→Int} {L:List Nat} (nd:L.Nodup) (h:Nat):((srtK f L).take h).Nodup∧((srtK f L).drop h).Nodup:=by
  have n:=(srtK_perm f L).nodup_iff.2 nd
  rw [← List.take_append_drop h (srtK f L),List.nodup_append] at n
  exact ⟨n.1,n.2.1⟩
theorem half_mem {f:Nat→Int} {L:List Nat} {h i:Nat} (hi:i ∈ (srtK f L).take h∨i ∈ (srtK f L).drop h):i ∈ L:=by
  refine (srtK_perm f L).mem_iff.1 ?_
  rcases hi with hi | hi
  · exact List.mem_of_mem_take hi
  · exact List.mem_of_mem_drop hi
theorem gro_perm {Q:Nat→Ch} {leaf:Nat} {N:List Nat→P3 × Int}:∀ (F:Nat) (L:List Nat) (a k:Nat),(gro Q leaf N F L a k).2.Perm L
  | 0,L,a,k=>List.Perm.refl _
  | F + 1,L,a,k=>by
    by_cases h:L.length≤leaf
    · rw [gro_leaf h]
    · rw [gro_node h rfl rfl rfl rfl rfl]
      exact (List.Perm.append (gro_perm F _ _ _) (gro_perm F _ _ _)).trans (half_perm _ _ _)
theorem gro_few {Q:Nat→Ch} {leaf:Nat} {N:List Nat→P3 × Int} (h1:1≤leaf):∀ (F:Nat) (L:List Nat) (a k:Nat),1≤L.length→1≤(gro Q leaf N F L a k).1.length∧(gro Q leaf N F L a k).1.length + 1≤2 * L.length
  | 0,L,a,k,hl=>by
    show 1≤[_].length∧[_].length + 1≤_
    simp only [List.length_singleton]
    omega
  | F + 1,L,a,k,hl=>by
    by_cases h:L.length≤leaf
    · rw [gro_leaf h]
      simp only [List.length_singleton]
      omega
    · rw [gro_node h rfl rfl rfl rfl rfl]
      obtain ⟨e1,e2,e3,e4⟩:=half_len (f:=keyC Q (widC Q L)) (L:=L) rfl (by omega)
      have r1:=fun a k=>gro_few (Q:=Q) (N:=N) h1 F ((srtK (keyC Q (widC Q L)) L).take ((L.length + 1) / 2)) a k (by omega)
      have r2:=fun a k=>gro_few (Q:=Q) (N:=N) h1 F ((srtK (keyC Q (widC Q L)) L).drop ((L.length + 1) / 2)) a k (by omega)
      rw [e1] at r1
      rw [e2] at r2
      have s1:=r1 a (k + 1)
      have s2:=r2 (a + (L.length + 1) / 2) (k + 1 + (gro Q leaf N F ((srtK (keyC Q (widC Q L)) L).take ((L.length + 1) / 2)) a (k + 1)).1.length)
      simp only [List.length_cons,List.length_append]
      omega
def filC (N:List Nat→P3 × Int) (O:List Nat) (x:Nd):Nd:=(x.1,x.2.1,x.2.2.1,x.2.2.2.1,N ((O.drop x.1).take (x.2.1 - x.1)))
theorem gro_fill {Q:Nat→Ch} {leaf:Nat} {N:List Nat→P3 × Int} (NP:∀ L M:List Nat,M.Perm L→N M=N L) (h1:1≤leaf):∀ (F:Nat) (L O:List Nat) (a k:Nat),L.length≤F→1≤L.length→(O.drop a).take L.length=(gro Q leaf ball0 F L a k).2 →
    gro Q leaf N F L a k=((gro Q leaf ball0 F L a k).1.map (filC N O),(gro Q leaf ball0 F L a k).2)∧∀ x,x ∈ (gro Q leaf ball0 F L a k).1→a≤x.1∧x.1 < x.2.1∧x.2.1≤a + L.length
  | 0,L,O,a,k,hF,hl,hO=>by omega
  | F + 1,L,O,a,k,hF,hl,hO=>by
    by_cases h:L.length≤leaf
    · rw [gro_leaf h] at hO ⊢
      rw [gro_leaf h]
      have hO:(O.drop a).take L.length=L:=hO
      refine ⟨?_,fun x hx=>?_⟩
      · show _=([filC N O _],L)
        unfold filC
        rw [show a + L.length - a=L.length by omega,hO]
      · rw [List.mem_singleton.1 hx]
        dsimp only
        omega
    · obtain ⟨hh,ehh⟩:∃ hh,hh=(L.length + 1) / 2:=⟨_,rfl⟩
      obtain ⟨A,eA⟩:∃ A,A=(srtK (keyC Q (widC Q L)) L).take hh:=⟨_,rfl⟩
      obtain ⟨B,eB⟩:∃ B,B=(srtK (keyC Q (widC Q L)) L).drop hh:=⟨_,rfl⟩
      obtain ⟨x,ex⟩:∃ x,x=gro Q leaf ball0 F A a (k + 1):=⟨_,rfl⟩
      obtain ⟨y,ey⟩:∃ y,y=gro Q leaf ball0 F B (a + hh) (k + 1 + x.1.length):=⟨_,rfl⟩
      obtain ⟨l1,l2,l3,l4⟩:=half_len (f:=keyC Q (widC Q L)) ehh (by omega)
      rw [← eA] at l1
      rw [← eB] at l2
      have px:=gro_perm (Q:=Q) (leaf:=leaf) (N:=ball0) F A a (k + 1)
      rw [← ex] at px
      have G0:=gro_node (N:=ball0) (k:=k) (a:=a) h ehh eA eB ex ey
      rw [G0] at hO ⊢
      have hO:(O.drop a).take L.length=x.2 ++ y.2:=hO
      have lx:x.2.length=hh:=by rw [px.length_eq,l1]
      have ly:y.2.length=L.length - hh:=by
        have py:=gro_perm (Q:=Q) (leaf:=leaf) (N:=ball0) F B (a + hh) (k + 1 + x.1.length)
        rw [← ey] at py
        rw [py.length_eq,l2]
      have o1:(O.drop a).take A.length=x.2:=by
        have:=congrArg (List.take hh) hO
        rw [List.take_take,show min hh L.length=hh by omega,← lx,List.take_left,lx,← l1] at this
        exact this
      have o2:(O.drop (a + hh)).take B.length=y.2:=by
        have:=congrArg (List.drop hh) hO
        rw [List.drop_take,List.drop_drop] at this
        conv at this=>rhs;rw [← lx]
        rw [List.drop_left,← l2] at this
        exact this
      rw [ex] at o1
      obtain ⟨a1,a2⟩:=gro_fill NP h1 F A O a (k + 1) (by omega) (by omega) o1
      rw [ey] at o2
      obtain ⟨b1,b2⟩:=gro_fill NP h1 F B O (a + hh) (k + 1 + x.1.length) (by omega) (by omega) o2
      rw [← ex] at a1 a2
      rw [← ey] at b1 b2
      have xl:(gro Q leaf N F A a (k + 1)).1.length=x.1.length:=by rw [a1];exact List.length_map ..
      have G1:=gro_node (N:=N) (F:=F) (k:=k) (a:=a) h ehh eA eB rfl rfl
      rw [xl,a1,b1] at G1
      have hN:N L=N ((O.drop a).take (a + L.length - a)):=by
        rw [show a + L.length - a=L.length by omega,hO]
        refine (NP _ _ ?_).symm
        have py:=gro_perm (Q:=Q) (leaf:=leaf) (N:=ball0) F B (a + hh) (k + 1 + x.1.length)
        rw [← ey] at py
        have:=half_perm (keyC Q (widC Q L)) L hh
        rw [← eA,← eB] at this
        exact (px.append py).trans this
      refine ⟨?_,fun z hz=>?_⟩
      · rw [G1]
        show (_ :: (List.map _ x.1 ++ List.map _ y.1),_)=(_ :: List.map _ (x.1 ++ y.1),_)
        rw [List.map_append,hN]
        rfl
      · rcases List.mem_cons.1 hz with e | hz
        · rw [e]
          dsimp only
          omega
        · rcases List.mem_append.1 hz with hz | hz
          · have:=a2 z hz
            omega
          · have:=b2 z hz
            omega
end Go.Proofs.Ytpocbdompamnnaa
