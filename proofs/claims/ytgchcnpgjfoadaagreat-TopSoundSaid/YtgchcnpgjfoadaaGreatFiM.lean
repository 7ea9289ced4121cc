import Derived.WalkKit
import Derived.RegionTactic
import Derived.Test.YtgchcnpgjfoadaaGreatVecM
import Derived.Test.YtgchcnpgjfoadaaGreatFiPts
import Derived.Deep.MidRow
import Derived.RangeFuncNested
import Derived.RangeFuncBound
import Derived.RangeFuncCalls
import Derived.RangeFuncLeaves
import Derived.Shelf.Abstract
import Derived.OwnWalkIn
import Derived.TacticsInMore
import Derived.LoopNIn
import Derived.LoopIn
namespace Go.Proofs.YtgchcnpgjfoadaaGreat
open Go
def unl (l:Array Bool):Nat→Nat
  | 0=>0
  | n + 1=>unl l n + (if l.getD n true=true then 0 else 1)
theorem unl_far {l:Array Bool} {i:Nat}:∀ {n:Nat},n≤i→unl (l.setIfInBounds i true) n=unl l n
  | 0,_=>rfl
  | n + 1,h=>by
    show unl _ n + _=unl l n + _
    rw [unl_far (n:=n) (by omega),getD_set_ne true (by omega)]
theorem getD_set_self {l:Array Bool} {i:Nat}:(l.setIfInBounds i true).getD i true=true:=by
  rw [Array.getD_eq_getD_getElem?,Array.getElem?_setIfInBounds]
  split
  · split <;> rfl
  · rename_i h;exact absurd rfl h
theorem unl_set {l:Array Bool} {i:Nat}:∀ {n:Nat},i < n→l.getD i true=false→unl (l.setIfInBounds i true) n + 1=unl l n
  | 0,h,_=>absurd h (Nat.not_lt_zero i)
  | n + 1,h,k=>by
    show unl _ n + _ + 1=unl l n + _
    by_cases e:i=n
    · subst e
      rw [unl_far (Nat.le_refl i),getD_set_self,k]
      simp
    · rw [getD_set_ne true e]
      have:=unl_set (n:=n) (by omega) k
      omega
theorem unl_zero {l:Array Bool}:∀ {n:Nat},unl l n=0→∀ i,i < n→l.getD i true=true
  | 0,_,i,h=>absurd h (Nat.not_lt_zero i)
  | n + 1,h,i,k=>by
    have h:unl l n + (if l.getD n true=true then 0 else 1)=0:=h
    by_cases e:i=n
    · subst e
      refine Classical.byContradiction fun c=>?_
      rw [if_neg c] at h
      omega
    · exact unl_zero (n:=n) (by omega) i (by omega)
def allOps (p:Nat→Oper→Prop):Nat→List Oper→Prop
  | _,[]=>True
  | k,o :: os=>p k o∧allOps p (k + 1) os
theorem allOps_at {p:Nat→Oper→Prop}:∀ {os:List Oper} {k:Nat},allOps p k os→∀ (i:Nat) (o:Oper),os[i]?=some o→p (k + i) o
  | [],_,_,i,o,h=>by simp at h
  | x :: os,k,⟨h0,hs⟩,0,o,h=>by
    have:x=o:=by simpa using h
    subst this
    exact h0
  | x :: os,k,⟨h0,hs⟩,i + 1,o,h=>by
    have:=allOps_at hs i o (by simpa using h)
    rwa [show k + 1 + i=k + (i + 1) by omega] at this
section
variable {P:Program} {ops:Array Oper} {Q:Exit→Act→World→Prop}
theorem wpAny_inv (Inv:Array Bool→Act→World→Prop)
    (hstep:∀ (i:Nat) (o:Oper),ops[i]?=some o→∀ (l:Array Bool) (a:Act) (w:World),Inv l a w→l.getD i true=false→(∀ e ∈ o.after,Region.binds .any e=true→l.getD e.on false=true)→∀ K':Act→World→Prop,(∀ a w,Inv (l.setIfInBounds i true) a w→K' a w)→if Region.wanted o (yielded ops a.tmps)=true then Oper.wp P o a w K' Q else K' (a.put o.dst undef) w)
    (hend:∀ (l:Array Bool) (a:Act) (w:World),Inv l a w→Region.ready .any ops l=[]→Q .normal a w) :
    ∀ (fuel:Nat) (l:Array Bool) (a:Act) (w:World),unl l ops.size≤fuel→Inv l a w→wpAny P .any ops Q fuel l a w
  | 0,l,a,w,hf,hi=>by
    have hr:Region.ready .any ops l=[]:=by
      refine List.eq_nil_iff_forall_not_mem.2 fun i hm=>?_
      obtain ⟨h1,o,ho,_⟩:=mem_ready.1 hm
      have hlt:i < ops.size:=(Array.getElem?_eq_some_iff.1 ho).1
      rw [unl_zero (by omega) i hlt] at h1
      cases h1
    exact ⟨hr,hend l a w hi hr⟩
  | fuel + 1,l,a,w,hf,hi=>by
    refine ⟨fun hr=>hend l a w hi hr,fun i hm=>?_⟩
    obtain ⟨h1,o,ho,hp⟩:=mem_ready.1 hm
    have hlt:i < ops.size:=(Array.getElem?_eq_some_iff.1 ho).1
    have hs:=unl_set hlt h1
    refine wpOp_step ho fun K' hK=>hstep i o ho l a w hi h1 hp K' fun a' w' hi'=>hK _ _ (wpAny_inv Inv hstep hend fuel _ _ _ (by omega) hi')
theorem wp_region_inv {id:Nat} {a:Act} {w:World} (Inv:Array Bool→Act→World→Prop) (hm:P.follows .mixedOrders=true)
    (h0:Inv (Array.replicate ops.size false) a w.drew)
    (hstep:allOps (fun i o=>∀ (l:Array Bool) (a:Act) (w:World),Inv l a w→l.getD i true=false→(∀ e ∈ o.after,Region.binds .any e=true→l.getD e.on false=true)→∀ K':Act→World→Prop,(∀ a w,Inv (l.setIfInBounds i true) a w→K' a w)→if Region.wanted o (yielded ops a.tmps)=true then Oper.wp P o a w K' Q else K' (a.put o.dst undef) w) 0 ops.toList)
    (hend:∀ (l:Array Bool) (a:Act) (w:World),Inv l a w→Region.ready .any ops l=[]→Q .normal a w) :
    (Code.region id ops true).wp P Q a w:=by
  refine wp_region_any hm (wpAny_inv Inv (fun i o ho=>?_) hend _ _ _ _ ?_ h0)
  · have:=allOps_at hstep i o (by rw [Array.getElem?_toList];exact ho)
    rwa [Nat.zero_add] at this
  have:∀ n m:Nat,n≤m→unl (Array.replicate m false) n≤n:=by
    intro n m h
    induction n with
    | zero=>exact Nat.le_refl _
    | succ n ih =>
      show unl _ n + (if _ then 0 else 1)≤n + 1
      have:=ih (by omega)
      split <;> omega
  exact this _ _ (Nat.le_refl _)
theorem ready_end {l:Array Bool} (h:Region.ready .any ops l=[]) (i:Nat) {o:Oper} (hs:i < l.size) (ho:ops[i]?=some o) (hp:∀ e ∈ o.after,Region.binds .any e=true→l.getD e.on false=true):l.getD i false=true:=by
  cases e:l.getD i true with
  | false =>
    have:i ∈ Region.ready .any ops l:=mem_ready.2 ⟨e,o,ho,hp⟩
    rw [h] at this
    cases this
  | true =>
    rw [Array.getD_eq_getD_getElem?,Array.getElem?_eq_getElem hs] at e ⊢
    exact e
end
theorem gs {l:Array Bool} {i j:Nat} (h:i ≠ j) (k:(l.setIfInBounds i true).getD j false=true):l.getD j false=true:=by
  rwa [getD_set_ne false h] at k
theorem gs_t {l:Array Bool} {i j:Nat} (h:i ≠ j) (k:l.getD j false=true):(l.setIfInBounds i true).getD j false=true:=by
  rwa [getD_set_ne false h]
theorem gs_i {l:Array Bool} {i:Nat} (h:i < l.size):(l.setIfInBounds i true).getD i false=true:=by
  rw [Array.getD_eq_getD_getElem?,Array.getElem?_setIfInBounds]
  simp [h]
def PV (l:Array Bool) (k:Nat) (x v:Value):Prop:=l.getD k false=true→x=v
theorem PV.keep {l:Array Bool} {i k:Nat} {x v:Value} (h:PV l k x v) (ne:i ≠ k):PV (l.setIfInBounds i true) k x v:=fun e=>h (gs ne e)
theorem PV.k {l:Array Bool} {i k:Nat} {x v:Value} (h:PV l k x v) (ne:i ≠ k:=by decide):PV (l.setIfInBounds i true) k x v:=h.keep ne
theorem PV.made {l:Array Bool} {k:Nat} {x v:Value} (h:x=v):PV l k x v:=fun _=>h
def upd (X:Nat→Value) (d:Nat) (v:Value) (n:Nat):Value:=if n=d then v else X n
end Go.Proofs.YtgchcnpgjfoadaaGreat
namespace Go.Proofs.YtgchcnpgjfoadaaGreat
open Go.ChangeShapes Go.WideShapes Go.RowKit
open Sh
theorem ftimes_any (k:Int) (a:P3) (w:World) (h:BdP 4611686018427387904 (tim k a)) :
    Calls Tryz.prog 103 #[.int .i64 k,ptv a] w fun e w'=>e=.returned (ptv (tim k a))∧Below w.heap.size w w':=by
  simp only [BdP,tim] at h
  obtain ⟨h1,h2,h3,h4,h5,h6⟩:=h
  go_enter Tryz.func103,Tryz.ntmps103
  go_wp2
  refine bodyPost_ret (v:=ptv (tim k a)) (by rw [results_cell rfl];go_simp;exact ⟨rfl,rfl,rfl⟩) rfl ⟨rfl,?_⟩
  (repeat' (first | exact Below.refl _ _ | refine Below.setCell ?_ (by simp <;> omega) _ | refine balloc ?_ _ | refine Below.drew ?_ | refine bdrewN ?_ _))
theorem fplus_any (a b:P3) (w:World) (h:BdP 4611686018427387904 (add a b)) :
    Calls Tryz.prog 146 #[ptv a,ptv b] w fun e w'=>e=.returned (ptv (add a b))∧Below w.heap.size w w':=by
  simp only [BdP,add] at h
  obtain ⟨h1,h2,h3,h4,h5,h6⟩:=h
  go_enter Tryz.func146,Tryz.ntmps146
  go_wp2
  refine bodyPost_ret (v:=ptv (add a b)) (by rw [results_cell rfl];go_simp;exact ⟨rfl,rfl,rfl⟩) rfl ⟨rfl,?_⟩
  (repeat' (first | exact Below.refl _ _ | refine Below.setCell ?_ (by simp <;> omega) _ | refine balloc ?_ _ | refine Below.drew ?_ | refine bdrewN ?_ _))
def QA (l:Array Bool) (W:World) (x:Value) (k s N:Nat) (t:P3):Prop :=
  (l.getD s false=true→l.getD k false=true)∧(l.getD k false=true→∃ b v,x=.pointer (some ⟨b,0,none⟩)∧N≤b∧Own W b v∧(l.getD s false=true→v=t))
theorem rep_no {n k:Nat} (h:(Array.replicate n false).getD k false=true):False:=by
  rw [Array.getD_eq_getD_getElem?,Array.getElem?_replicate] at h
  split at h <;> cases h
theorem PV.nought {n k:Nat} {x v:Value}:PV (Array.replicate n false) k x v:=fun h=>(rep_no h).elim
theorem QA.nought {n:Nat} {W:World} {x:Value} {k s N:Nat} {t:P3}:QA (Array.replicate n false) W x k s N t:=⟨fun h=>(rep_no h).elim,fun h=>(rep_no h).elim⟩
theorem QA.keep {l:Array Bool} {W W':World} {x:Value} {i k s N:Nat} {t:P3} (h:QA l W x k s N t) (ne:i ≠ k) (ns:i ≠ s) (tr:∀ b v,Own W b v→Own W' b v):QA (l.setIfInBounds i true) W' x k s N t :=
  ⟨fun e=>gs_t ne (h.1 (gs ns e)),fun e=>by
    obtain ⟨b,v,h1,h2,h3,h4⟩:=h.2 (gs ne e)
    exact ⟨b,v,h1,h2,tr b v h3,fun e'=>h4 (gs ns e')⟩⟩
theorem QA.other {l:Array Bool} {W W':World} {x:Value} {i k s N b':Nat} {t:P3} (h:QA l W x k s N t) (ne:i ≠ k) (ns:i ≠ s) (hn:l.getD k false=true→x ≠ .pointer (some ⟨b',0,none⟩)) (tr:∀ b v,b ≠ b'→Own W b v→Own W' b v):QA (l.setIfInBounds i true) W' x k s N t :=
  ⟨fun e=>gs_t ne (h.1 (gs ns e)),fun e=>by
    obtain ⟨b,v,h1,h2,h3,h4⟩:=h.2 (gs ne e)
    exact ⟨b,v,h1,h2,tr b v (fun e'=>hn (gs ne e) (by rw [h1,e'])) h3,fun e'=>h4 (gs ns e')⟩⟩
theorem QA.made {l:Array Bool} {W W':World} {x:Value} {k s N:Nat} {t v:P3} (h:QA l W x k s N t) (ne:k ≠ s) (hl:k < l.size) (hk:l.getD k true=false) (hN:N≤W.heap.size) (o:Own W' W.heap.size v):QA (l.setIfInBounds k true) W' (.pointer (some ⟨W.heap.size,0,none⟩)) k s N t :=
  ⟨fun _=>gs_i hl,fun _=>⟨_,v,rfl,hN,o,fun e=>by
    have z:=h.1 (gs ne e)
    rw [Array.getD_eq_getD_getElem?,Array.getElem?_eq_getElem hl] at z hk
    rw [show l[k]=true from z] at hk
    cases hk⟩⟩
theorem QA.put {l:Array Bool} {W':World} {x:Value} {k s N b:Nat} {t:P3} (ne:s ≠ k) (hk:l.getD k false=true) (hx:x=.pointer (some ⟨b,0,none⟩)) (hN:N≤b) (o:Own W' b t):QA (l.setIfInBounds s true) W' x k s N t :=
  ⟨fun _=>gs_t ne hk,fun _=>⟨b,t,hx,hN,o,fun _=>rfl⟩⟩
def DD (l:Array Bool) (x y:Value) (k m:Nat):Prop:=l.getD k false=true→l.getD m false=true→x ≠ y
theorem DD.nought {n:Nat} {x y:Value} {k m:Nat}:DD (Array.replicate n false) x y k m:=fun h=>(rep_no h).elim
theorem DD.keep {l:Array Bool} {x y:Value} {i k m:Nat} (h:DD l x y k m) (ne:i ≠ k) (nm:i ≠ m):DD (l.setIfInBounds i true) x y k m:=fun e f=>h (gs ne e) (gs nm f)
theorem DD.k {l:Array Bool} {x y:Value} {i k m:Nat} (h:DD l x y k m) (ne:i ≠ k:=by decide) (nm:i ≠ m:=by decide):DD (l.setIfInBounds i true) x y k m:=h.keep ne nm
theorem DD.mk1 {l:Array Bool} {W:World} {y:Value} {k m s N:Nat} {t:P3} (h:QA l W y m s N t) (ne:k ≠ m):DD (l.setIfInBounds k true) (.pointer (some ⟨W.heap.size,0,none⟩)) y k m:=fun _ f e=>by
  obtain ⟨b,v,h1,_,h3,_⟩:=h.2 (gs ne f)
  rw [h1] at e
  injection e with e;injection e with e;injection e with e
  have:=h3.2.2.2.2.2.2
  omega
theorem DD.mk2 {l:Array Bool} {W:World} {x:Value} {k m s N:Nat} {t:P3} (h:QA l W x k s N t) (ne:m ≠ k):DD (l.setIfInBounds m true) x (.pointer (some ⟨W.heap.size,0,none⟩)) k m:=fun f _ e=>by
  obtain ⟨b,v,h1,_,h3,_⟩:=h.2 (gs ne f)
  rw [h1] at e
  injection e with e;injection e with e;injection e with e
  have:=h3.2.2.2.2.2.2
  omega
theorem own_put {w:World} {b:Nat} {v:P3} (h:Own w b v) (a:P3):Own (((w.setCell ⟨b,0,none⟩ (.int .i64 a.1)).setCell ⟨b,1,none⟩ (.int .i64 a.2.1)).setCell ⟨b,2,none⟩ (.int .i64 a.2.2)) b a:=by
  obtain ⟨h1,h2,h3,h4,h5,h6,h7⟩:=h
  exact ⟨by go_simp,by go_simp,by go_simp,by go_simp,by go_simp,by go_simp,by simpa using h7⟩
theorem own_set3 {w:World} {b b':Nat} {v:P3} (x y z:Value) (n:b ≠ b') (h:Own w b v):Own (((w.setCell ⟨b',0,none⟩ x).setCell ⟨b',1,none⟩ y).setCell ⟨b',2,none⟩ z) b v:=own_set (own_set (own_set h n) n) n
theorem below_set3 {N:Nat} {w:World} {b:Nat} (x y z:Value) (h:N≤b):Below N w (((w.setCell ⟨b,0,none⟩ x).setCell ⟨b,1,none⟩ y).setCell ⟨b,2,none⟩ z):=(((Below.refl _ _).setCell h _).setCell h _).setCell h _
def Z36 (W:World) (Z:Nat):Prop:=(∀ o,o < 36→(W.cell? ⟨Z,o,none⟩).isSome=true)∧(∀ o,o < 36→W.frozen? ⟨Z,o,none⟩=false)∧Z < W.heap.size
theorem z36_in {W W':World} {Z N:Nat} (h:Z36 W Z) (hb:Below N W W') (hN:Z < N):Z36 W' Z :=
  ⟨fun o ho=>by rw [hb.cell (p:=⟨Z,o,none⟩) hN];exact h.1 o ho,fun o ho=>(hb.frozen (p:=⟨Z,o,none⟩) hN).trans (h.2.1 o ho),Nat.lt_of_lt_of_le h.2.2 hb.size⟩
theorem own_in' {W W':World} {b N:Nat} {v:P3} (h:Own W b v) (hb:Below N W W') (hN:b < N):Own W' b v:=by
  obtain ⟨h1,h2,h3,h4,h5,h6,h7⟩:=h
  exact ⟨(hb.cell (p:=⟨b,0,none⟩) hN).trans h1,(hb.cell (p:=⟨b,1,none⟩) hN).trans h2,(hb.cell (p:=⟨b,2,none⟩) hN).trans h3,(hb.frozen (p:=⟨b,0,none⟩) hN).trans h4,(hb.frozen (p:=⟨b,1,none⟩) hN).trans h5,(hb.frozen (p:=⟨b,2,none⟩) hN).trans h6,Nat.lt_of_lt_of_le h7 hb.size⟩
theorem pan_in' {w w1:World} {q N:Nat} {a b c:P3} (h:Pan w q a b c) (hb:Below N w w1) (hN:q < N):Pan w1 q a b c:=by
  obtain ⟨h1,h2,h3,h4,h5,h6,h7,h8,h9,hq⟩:=h
  exact ⟨(hb.cell (p:=⟨q,0,none⟩) hN).trans h1,(hb.cell (p:=⟨q,1,none⟩) hN).trans h2,(hb.cell (p:=⟨q,2,none⟩) hN).trans h3,(hb.cell (p:=⟨q,3,none⟩) hN).trans h4,(hb.cell (p:=⟨q,4,none⟩) hN).trans h5,(hb.cell (p:=⟨q,5,none⟩) hN).trans h6,(hb.cell (p:=⟨q,6,none⟩) hN).trans h7,(hb.cell (p:=⟨q,7,none⟩) hN).trans h8,(hb.cell (p:=⟨q,8,none⟩) hN).trans h9,Nat.lt_of_lt_of_le hq hb.size⟩
def QG (w:World) (a b c:P3) (W:World):Prop:=Pan W w.heap.size a b c∧Z36 W (w.heap.size + 1)∧Below w.heap.size w W
theorem qg_in {w W W':World} {N:Nat} {a b c:P3} (h:QG w a b c W) (hb:Below N W W') (hN:w.heap.size + 1 < N):QG w a b c W' :=
  ⟨pan_in' h.1 hb (by omega),z36_in h.2.1 hb hN,h.2.2.trans (hb.mono (by omega))⟩
def QH (w:World) (a b c:P3) (x y z:Nat) (W:World):Prop:=QG w a b c W∧Own W x (tim 2 a)∧Own W y (tim 2 b)∧Own W z (tim 2 c)
theorem qg_drew {w W:World} {a b c:P3} (h:QG w a b c W):QG w a b c W.drew:=⟨pan_drew h.1,h.2.1,Below.drew h.2.2⟩
theorem qh_in {w W W':World} {x y z N:Nat} {a b c:P3} (h:QH w a b c x y z W) (hb:Below N W W') (hN:w.heap.size + 1 < N) (hx:x < N) (hy:y < N) (hz:z < N):QH w a b c x y z W' :=
  ⟨qg_in h.1 hb hN,own_in' h.2.1 hb hx,own_in' h.2.2.1 hb hy,own_in' h.2.2.2 hb hz⟩
theorem qh_drew {w W:World} {x y z:Nat} {a b c:P3} (h:QH w a b c x y z W):QH w a b c x y z W.drew:=⟨qg_drew h.1,h.2.1,h.2.2.1,h.2.2.2⟩
def qr1T (w:World) (a b c:P3)  (X:Nat→Value):Array Value:=#[pnv a b c,.pointer (some ⟨w.heap.size,0,none⟩),.pointer (some ⟨w.heap.size + 1,0,none⟩),X 3,X 4,X 5,undef,undef,undef,X 9,X 10,X 11,X 12,X 13,X 14,X 15,X 16,X 17,undef,undef,undef,undef,undef,undef,undef,undef,undef,undef,undef,undef,undef,undef,undef,undef,undef,undef,undef,undef,undef,undef,undef,undef,undef,undef,undef,undef,undef,undef,undef,undef]
theorem qr1T_eq (w:World) (a b c:P3)  (X:Nat→Value):qr1T w a b c  X=#[pnv a b c,.pointer (some ⟨w.heap.size,0,none⟩),.pointer (some ⟨w.heap.size + 1,0,none⟩),X 3,X 4,X 5,undef,undef,undef,X 9,X 10,X 11,X 12,X 13,X 14,X 15,X 16,X 17,undef,undef,undef,undef,undef,undef,undef,undef,undef,undef,undef,undef,undef,undef,undef,undef,undef,undef,undef,undef,undef,undef,undef,undef,undef,undef,undef,undef,undef,undef,undef,undef]:=rfl
def qr1I (w:World) (a b c:P3)  (N:Nat) (l:Array Bool) (A:Act) (W:World):Prop :=
  l.size=15∧∃ X:Nat→Value,A={ tmps:=qr1T w a b c  X,defers:=[] }∧N≤W.heap.size∧QG w a b c W∧PV l 0 (X 9) (.pointer (some ⟨w.heap.size,0,none⟩))∧PV l 1 (X 10) (ptv a)∧PV l 2 (X 11) (ptv (tim 2 a))∧PV l 3 (X 12) (.pointer (some ⟨w.heap.size,3,none⟩))∧PV l 4 (X 13) (ptv b)∧PV l 5 (X 14) (ptv (tim 2 b))∧PV l 6 (X 15) (.pointer (some ⟨w.heap.size,6,none⟩))∧PV l 7 (X 16) (ptv c)∧PV l 8 (X 17) (ptv (tim 2 c))∧QA l W (X 3) 9 12 N (tim 2 a)∧QA l W (X 4) 10 13 N (tim 2 b)∧QA l W (X 5) 11 14 N (tim 2 c)∧DD l (X 3) (X 4) 9 10∧DD l (X 3) (X 5) 9 11∧DD l (X 4) (X 5) 10 11
def qr2T (w:World) (a b c:P3) (x y z:Nat) (X:Nat→Value):Array Value:=#[pnv a b c,.pointer (some ⟨w.heap.size,0,none⟩),.pointer (some ⟨w.heap.size + 1,0,none⟩),.pointer (some ⟨x,0,none⟩),.pointer (some ⟨y,0,none⟩),.pointer (some ⟨z,0,none⟩),X 6,X 7,X 8,.pointer (some ⟨w.heap.size,0,none⟩),ptv a,ptv (tim 2 a),.pointer (some ⟨w.heap.size,3,none⟩),ptv b,ptv (tim 2 b),.pointer (some ⟨w.heap.size,6,none⟩),ptv c,ptv (tim 2 c),X 18,X 19,X 20,X 21,X 22,X 23,X 24,X 25,X 26,X 27,X 28,X 29,X 30,X 31,X 32,undef,undef,undef,undef,undef,undef,undef,undef,undef,undef,undef,undef,undef,undef,undef,undef,undef]
theorem qr2T_eq (w:World) (a b c:P3) (x y z:Nat) (X:Nat→Value):qr2T w a b c x y z X=#[pnv a b c,.pointer (some ⟨w.heap.size,0,none⟩),.pointer (some ⟨w.heap.size + 1,0,none⟩),.pointer (some ⟨x,0,none⟩),.pointer (some ⟨y,0,none⟩),.pointer (some ⟨z,0,none⟩),X 6,X 7,X 8,.pointer (some ⟨w.heap.size,0,none⟩),ptv a,ptv (tim 2 a),.pointer (some ⟨w.heap.size,3,none⟩),ptv b,ptv (tim 2 b),.pointer (some ⟨w.heap.size,6,none⟩),ptv c,ptv (tim 2 c),X 18,X 19,X 20,X 21,X 22,X 23,X 24,X 25,X 26,X 27,X 28,X 29,X 30,X 31,X 32,undef,undef,undef,undef,undef,undef,undef,undef,undef,undef,undef,undef,undef,undef,undef,undef,undef]:=rfl
def qr2I (w:World) (a b c:P3) (x y z:Nat) (N:Nat) (l:Array Bool) (A:Act) (W:World):Prop :=
  l.size=21∧∃ X:Nat→Value,A={ tmps:=qr2T w a b c x y z X,defers:=[] }∧N≤W.heap.size∧QH w a b c x y z W∧PV l 0 (X 18) (.pointer (some ⟨w.heap.size,0,none⟩))∧PV l 1 (X 19) (ptv a)∧PV l 2 (X 20) (.pointer (some ⟨w.heap.size,3,none⟩))∧PV l 3 (X 21) (ptv b)∧PV l 4 (X 22) (ptv (add a b))∧PV l 5 (X 23) (.pointer (some ⟨w.heap.size,3,none⟩))∧PV l 6 (X 24) (ptv b)∧PV l 7 (X 25) (.pointer (some ⟨w.heap.size,6,none⟩))∧PV l 8 (X 26) (ptv c)∧PV l 9 (X 27) (ptv (add b c))∧PV l 10 (X 28) (.pointer (some ⟨w.heap.size,6,none⟩))∧PV l 11 (X 29) (ptv c)∧PV l 12 (X 30) (.pointer (some ⟨w.heap.size,0,none⟩))∧PV l 13 (X 31) (ptv a)∧PV l 14 (X 32) (ptv (add c a))∧QA l W (X 6) 15 18 N (add a b)∧QA l W (X 7) 16 19 N (add b c)∧QA l W (X 8) 17 20 N (add c a)∧DD l (X 6) (X 7) 15 16∧DD l (X 6) (X 8) 15 17∧DD l (X 7) (X 8) 16 17
theorem below_cells (N b:Nat):∀ (cs:List Value) (o:Nat) {w:World},N≤b→Below N w (w.setCells b o cs)
  | [],_,_,_=>Below.refl _ _
  | v :: r,o,w,h=>by
    rw [World.setCells]
    exact ((Below.refl N w).setCell (p:=⟨b,o,none⟩) h v).trans (below_cells N b r (o + 1) h)
theorem info89:(Tryz.prog.info? 177).map (·.size)=some 36:=by kernel_rfl
theorem t62 {a:P3} (h:BdP 1152921504606846976 a):BdP 4611686018427387904 (tim 2 a):=(tim2_bd h).mono (by decide)
theorem a62 {a b:P3} (h:BdP 1152921504606846976 a) (k:BdP 1152921504606846976 b):BdP 4611686018427387904 (add a b):=(add2_bd h k).mono (by decide)
theorem pan_zero (w:World) (a b c:P3) (t u:TypeId):QG w a b c ((w.alloc (pnc a b c t)).alloc (.cells #[.int .i64 0,.int .i64 0,.int .i64 0,.int .i64 0,.int .i64 0,.int .i64 0,.int .i64 0,.int .i64 0,.int .i64 0,.int .i64 0,.int .i64 0,.int .i64 0,.int .i64 0,.int .i64 0,.int .i64 0,.int .i64 0,.int .i64 0,.int .i64 0,.int .i64 0,.int .i64 0,.int .i64 0,.int .i64 0,.int .i64 0,.int .i64 0,.int .i64 0,.int .i64 0,.int .i64 0,.int .i64 0,.int .i64 0,.int .i64 0,.int .i64 0,.int .i64 0,.int .i64 0,.int .i64 0,.int .i64 0,.int .i64 0] u)):=by
  refine ⟨pan_alloc (pan_new w a b c t) _,⟨?_,?_,by simp⟩,balloc (balloc (Below.refl _ w) _) _⟩
  · intro o ho
    have:o=0∨o=1∨o=2∨o=3∨o=4∨o=5∨o=6∨o=7∨o=8∨o=9∨o=10∨o=11∨o=12∨o=13∨o=14∨o=15∨o=16∨o=17∨o=18∨o=19∨o=20∨o=21∨o=22∨o=23∨o=24∨o=25∨o=26∨o=27∨o=28∨o=29∨o=30∨o=31∨o=32∨o=33∨o=34∨o=35:=by omega
    (repeat' (rcases this with rfl | this))
    all_goals (try subst this)
    all_goals go_simp
  · intro o ho
    go_simp
end Go.Proofs.YtgchcnpgjfoadaaGreat
namespace Go.Proofs.YtgchcnpgjfoadaaGreat
open Go.ChangeShapes Go.WideShapes Go.RowKit
open Sh
def regR:Option Code→Code
  | some (.seq _ (.seq _ (.seq _ r)))=>r
  | _=>.ret
end Go.Proofs.YtgchcnpgjfoadaaGreat
namespace Go.Proofs.YtgchcnpgjfoadaaGreat
open Go.ChangeShapes Go.WideShapes Go.RowKit
open Sh
set_option maxRecDepth 100000 in
set_option maxHeartbeats 4000000 in
theorem qr_rest (a b c:P3) (x y z x' y' z':Nat) (w W:World) (g:QH w a b c x y z W) (ox:Own W x' (add a b)) (oy:Own W y' (add b c)) (oz:Own W z' (add c a)) :
    Code.wp Tryz.prog (regR Tryz.f145.body) (bodyPost Tryz.prog Tryz.f145 fun e w'=>e=.returned (.agg #[.int .i64 (tim 2 a).1,.int .i64 (tim 2 a).2.1,.int .i64 (tim 2 a).2.2,.int .i64 (add a b).1,.int .i64 (add a b).2.1,.int .i64 (add a b).2.2,.int .i64 (add c a).1,.int .i64 (add c a).2.1,.int .i64 (add c a).2.2,.int .i64 (add a b).1,.int .i64 (add a b).2.1,.int .i64 (add a b).2.2,.int .i64 (tim 2 b).1,.int .i64 (tim 2 b).2.1,.int .i64 (tim 2 b).2.2,.int .i64 (add b c).1,.int .i64 (add b c).2.1,.int .i64 (add b c).2.2,.int .i64 (add c a).1,.int .i64 (add c a).2.1,.int .i64 (add c a).2.2,.int .i64 (add b c).1,.int .i64 (add b c).2.1,.int .i64 (add b c).2.2,.int .i64 (tim 2 c).1,.int .i64 (tim 2 c).2.1,.int .i64 (tim 2 c).2.2,.int .i64 (add a b).1,.int .i64 (add a b).2.1,.int .i64 (add a b).2.2,.int .i64 (add b c).1,.int .i64 (add b c).2.1,.int .i64 (add b c).2.2,.int .i64 (add c a).1,.int .i64 (add c a).2.1,.int .i64 (add c a).2.2])∧Below w.heap.size w w') { tmps:=#[pnv a b c,.pointer (some ⟨w.heap.size,0,none⟩),.pointer (some ⟨w.heap.size + 1,0,none⟩),.pointer (some ⟨x,0,none⟩),.pointer (some ⟨y,0,none⟩),.pointer (some ⟨z,0,none⟩),.pointer (some ⟨x',0,none⟩),.pointer (some ⟨y',0,none⟩),.pointer (some ⟨z',0,none⟩),.pointer (some ⟨w.heap.size,0,none⟩),ptv a,ptv (tim 2 a),.pointer (some ⟨w.heap.size,3,none⟩),ptv b,ptv (tim 2 b),.pointer (some ⟨w.heap.size,6,none⟩),ptv c,ptv (tim 2 c),.pointer (some ⟨w.heap.size,0,none⟩),ptv a,.pointer (some ⟨w.heap.size,3,none⟩),ptv b,ptv (add a b),.pointer (some ⟨w.heap.size,3,none⟩),ptv b,.pointer (some ⟨w.heap.size,6,none⟩),ptv c,ptv (add b c),.pointer (some ⟨w.heap.size,6,none⟩),ptv c,.pointer (some ⟨w.heap.size,0,none⟩),ptv a,ptv (add c a),undef,undef,undef,undef,undef,undef,undef,undef,undef,undef,undef,undef,undef,undef,undef,undef,undef],defers:=[] } W:=by
  have HB2:=Lib.hid g.1.2.2
  have Z:=Lib.hid g.1.2.1
  obtain ⟨u0,u1,u2⟩:=own_cells g.2.1
  obtain ⟨v0,v1,v2⟩:=own_cells g.2.2.1
  obtain ⟨r0,r1,r2⟩:=own_cells g.2.2.2
  obtain ⟨u3,u4,u5⟩:=own_cells ox
  obtain ⟨v3,v4,v5⟩:=own_cells oy
  obtain ⟨r3,r4,r5⟩:=own_cells oz
  clear ox oy oz g
  obtain ⟨cd,hcd⟩:∃ cd,regR Tryz.f145.body=cd:=⟨_,rfl⟩
  rw [hcd]
  unfold regR at hcd
  simp only [Tryz.f145] at hcd
  subst hcd
  go_step
  go_step
  go_step
  dsimp only
  refine wpList_plain rfl (fun K hK=>?_);go_simp;refine hK _ _ ?_;clear hK K
  refine wpList_plain rfl (fun K hK=>?_);go_simp;refine hK _ _ ?_;clear hK K
  refine wpList_plain rfl (fun K hK=>?_);go_simp;refine hK _ _ ?_;clear hK K
  refine wpList_plain rfl (fun K hK=>?_);go_simp;refine hK _ _ ?_;clear hK K
  refine wpList_plain rfl (fun K hK=>?_);go_simp;refine hK _ _ ?_;clear hK K
  refine wpList_plain rfl (fun K hK=>?_);go_simp;refine hK _ _ ?_;clear hK K
  refine wpList_plain rfl (fun K hK=>?_);go_simp;refine hK _ _ ?_;clear hK K
  refine wpList_plain rfl (fun K hK=>?_);go_simp;refine hK _ _ ?_;clear hK K
  refine wpList_plain rfl (fun K hK=>?_);go_simp;refine hK _ _ ?_;clear hK K
  refine wpList_plain rfl (fun K hK=>?_);go_simp;refine hK _ _ ?_;clear hK K
  refine wpList_plain rfl (fun K hK=>?_);go_simp;refine hK _ _ ?_;clear hK K
  refine wpList_plain rfl (fun K hK=>?_);go_simp;refine hK _ _ ?_;clear hK K
  refine wpList_plain rfl (fun K hK=>?_);go_simp;refine hK _ _ ?_;clear hK K
  refine wpList_plain rfl (fun K hK=>?_);go_simp;refine hK _ _ ?_;clear hK K
  refine wpList_plain rfl (fun K hK=>?_);go_simp;refine hK _ _ ?_;clear hK K
  refine wpList_plain rfl (fun K hK=>?_);go_simp;refine hK _ _ ?_;clear hK K
  refine wpList_plain rfl (fun K hK=>?_);go_simp;refine hK _ _ ?_;clear hK K
  have ht:W.there (w.heap.size + 1) 0 36:=fun j hj=>by rw [Nat.zero_add];exact ⟨Z.out.1 j hj,Z.out.2.1 j hj⟩
  refine wpList_store_mid rfl 177 (.tmp 2) (.tmp 49) rfl (w.heap.size + 1) 0 #[.int .i64 (tim 2 a).1,.int .i64 (tim 2 a).2.1,.int .i64 (tim 2 a).2.2,.int .i64 (add a b).1,.int .i64 (add a b).2.1,.int .i64 (add a b).2.2,.int .i64 (add c a).1,.int .i64 (add c a).2.1,.int .i64 (add c a).2.2,.int .i64 (add a b).1,.int .i64 (add a b).2.1,.int .i64 (add a b).2.2,.int .i64 (tim 2 b).1,.int .i64 (tim 2 b).2.1,.int .i64 (tim 2 b).2.2,.int .i64 (add b c).1,.int .i64 (add b c).2.1,.int .i64 (add b c).2.2,.int .i64 (add c a).1,.int .i64 (add c a).2.1,.int .i64 (add c a).2.2,.int .i64 (add b c).1,.int .i64 (add b c).2.1,.int .i64 (add b c).2.2,.int .i64 (tim 2 c).1,.int .i64 (tim 2 c).2.1,.int .i64 (tim 2 c).2.2,.int .i64 (add a b).1,.int .i64 (add a b).2.1,.int .i64 (add a b).2.2,.int .i64 (add b c).1,.int .i64 (add b c).2.1,.int .i64 (add b c).2.2,.int .i64 (add c a).1,.int .i64 (add c a).2.1,.int .i64 (add c a).2.2] rfl rfl ht info89 (by simp [Value.oneCell']) ?_
  have L:=run_loadVar_mid (P:=Tryz.prog) _ (w.heap.size + 1) 0 177 _ _ (World.rangeAt_setCells_same W (w.heap.size + 1) 0 (#[.int .i64 (tim 2 a).1,.int .i64 (tim 2 a).2.1,.int .i64 (tim 2 a).2.2,.int .i64 (add a b).1,.int .i64 (add a b).2.1,.int .i64 (add a b).2.2,.int .i64 (add c a).1,.int .i64 (add c a).2.1,.int .i64 (add c a).2.2,.int .i64 (add a b).1,.int .i64 (add a b).2.1,.int .i64 (add a b).2.2,.int .i64 (tim 2 b).1,.int .i64 (tim 2 b).2.1,.int .i64 (tim 2 b).2.2,.int .i64 (add b c).1,.int .i64 (add b c).2.1,.int .i64 (add b c).2.2,.int .i64 (add c a).1,.int .i64 (add c a).2.1,.int .i64 (add c a).2.2,.int .i64 (add b c).1,.int .i64 (add b c).2.1,.int .i64 (add b c).2.2,.int .i64 (tim 2 c).1,.int .i64 (tim 2 c).2.1,.int .i64 (tim 2 c).2.2,.int .i64 (add a b).1,.int .i64 (add a b).2.1,.int .i64 (add a b).2.2,.int .i64 (add b c).1,.int .i64 (add b c).2.1,.int .i64 (add b c).2.2,.int .i64 (add c a).1,.int .i64 (add c a).2.1,.int .i64 (add c a).2.2]:Array Value).toList ht) Tryz.underlying177 rfl info89
  have B:Below w.heap.size w (W.setCells (w.heap.size + 1) 0 (#[.int .i64 (tim 2 a).1,.int .i64 (tim 2 a).2.1,.int .i64 (tim 2 a).2.2,.int .i64 (add a b).1,.int .i64 (add a b).2.1,.int .i64 (add a b).2.2,.int .i64 (add c a).1,.int .i64 (add c a).2.1,.int .i64 (add c a).2.2,.int .i64 (add a b).1,.int .i64 (add a b).2.1,.int .i64 (add a b).2.2,.int .i64 (tim 2 b).1,.int .i64 (tim 2 b).2.1,.int .i64 (tim 2 b).2.2,.int .i64 (add b c).1,.int .i64 (add b c).2.1,.int .i64 (add b c).2.2,.int .i64 (add c a).1,.int .i64 (add c a).2.1,.int .i64 (add c a).2.2,.int .i64 (add b c).1,.int .i64 (add b c).2.1,.int .i64 (add b c).2.2,.int .i64 (tim 2 c).1,.int .i64 (tim 2 c).2.1,.int .i64 (tim 2 c).2.2,.int .i64 (add a b).1,.int .i64 (add a b).2.1,.int .i64 (add a b).2.2,.int .i64 (add b c).1,.int .i64 (add b c).2.1,.int .i64 (add b c).2.2,.int .i64 (add c a).1,.int .i64 (add c a).2.1,.int .i64 (add c a).2.2]:Array Value).toList):=HB2.out.trans (below_cells _ _ _ _ (by omega))
  clear u0 u1 u2 v0 v1 v2 r0 r1 r2 u3 u4 u5 v3 v4 v5 r3 r4 r5
  generalize W.setCells (w.heap.size + 1) 0 (#[.int .i64 (tim 2 a).1,.int .i64 (tim 2 a).2.1,.int .i64 (tim 2 a).2.2,.int .i64 (add a b).1,.int .i64 (add a b).2.1,.int .i64 (add a b).2.2,.int .i64 (add c a).1,.int .i64 (add c a).2.1,.int .i64 (add c a).2.2,.int .i64 (add a b).1,.int .i64 (add a b).2.1,.int .i64 (add a b).2.2,.int .i64 (tim 2 b).1,.int .i64 (tim 2 b).2.1,.int .i64 (tim 2 b).2.2,.int .i64 (add b c).1,.int .i64 (add b c).2.1,.int .i64 (add b c).2.2,.int .i64 (add c a).1,.int .i64 (add c a).2.1,.int .i64 (add c a).2.2,.int .i64 (add b c).1,.int .i64 (add b c).2.1,.int .i64 (add b c).2.2,.int .i64 (tim 2 c).1,.int .i64 (tim 2 c).2.1,.int .i64 (tim 2 c).2.2,.int .i64 (add a b).1,.int .i64 (add a b).2.1,.int .i64 (add a b).2.2,.int .i64 (add b c).1,.int .i64 (add b c).2.1,.int .i64 (add b c).2.2,.int .i64 (add c a).1,.int .i64 (add c a).2.1,.int .i64 (add c a).2.2]:Array Value).toList=W9 at *
  go_wp2
  have e:(asAddr (.pointer (some ⟨w.heap.size + 1,0,none⟩))).run Tryz.prog W9=.ok ⟨w.heap.size + 1,0,none⟩ W9:=by clear L;go_simp
  refine bodyPost_ret (v:=.agg #[.int .i64 (tim 2 a).1,.int .i64 (tim 2 a).2.1,.int .i64 (tim 2 a).2.2,.int .i64 (add a b).1,.int .i64 (add a b).2.1,.int .i64 (add a b).2.2,.int .i64 (add c a).1,.int .i64 (add c a).2.1,.int .i64 (add c a).2.2,.int .i64 (add a b).1,.int .i64 (add a b).2.1,.int .i64 (add a b).2.2,.int .i64 (tim 2 b).1,.int .i64 (tim 2 b).2.1,.int .i64 (tim 2 b).2.2,.int .i64 (add b c).1,.int .i64 (add b c).2.1,.int .i64 (add b c).2.2,.int .i64 (add c a).1,.int .i64 (add c a).2.1,.int .i64 (add c a).2.2,.int .i64 (add b c).1,.int .i64 (add b c).2.1,.int .i64 (add b c).2.2,.int .i64 (tim 2 c).1,.int .i64 (tim 2 c).2.1,.int .i64 (tim 2 c).2.2,.int .i64 (add a b).1,.int .i64 (add a b).2.1,.int .i64 (add a b).2.2,.int .i64 (add b c).1,.int .i64 (add b c).2.1,.int .i64 (add b c).2.2,.int .i64 (add c a).1,.int .i64 (add c a).2.1,.int .i64 (add c a).2.2]) (by
    rw [results_cell rfl]
    refine (congrArg (fun r=>Result.andThen r (fun a w₁=>(loadVar 177 a).run Tryz.prog w₁)) (show _=Result.ok ⟨w.heap.size + 1,0,none⟩ W9 from e)).trans ?_
    exact L) rfl ⟨rfl,B⟩
end Go.Proofs.YtgchcnpgjfoadaaGreat
namespace Go.Proofs.YtgchcnpgjfoadaaGreat
open Go.ChangeShapes Go.WideShapes Go.RowKit
open Sh
set_option maxRecDepth 100000 in
set_option maxHeartbeats 4000000 in
theorem quarters_any (a b c:P3) (w:World) (ha:BdP 1152921504606846976 a) (hb:BdP 1152921504606846976 b) (hc:BdP 1152921504606846976 c) :
    Calls Tryz.prog 145 #[pnv a b c] w fun e w'=>e=.returned (.agg #[.int .i64 (tim 2 a).1,.int .i64 (tim 2 a).2.1,.int .i64 (tim 2 a).2.2,.int .i64 (add a b).1,.int .i64 (add a b).2.1,.int .i64 (add a b).2.2,.int .i64 (add c a).1,.int .i64 (add c a).2.1,.int .i64 (add c a).2.2,.int .i64 (add a b).1,.int .i64 (add a b).2.1,.int .i64 (add a b).2.2,.int .i64 (tim 2 b).1,.int .i64 (tim 2 b).2.1,.int .i64 (tim 2 b).2.2,.int .i64 (add b c).1,.int .i64 (add b c).2.1,.int .i64 (add b c).2.2,.int .i64 (add c a).1,.int .i64 (add c a).2.1,.int .i64 (add c a).2.2,.int .i64 (add b c).1,.int .i64 (add b c).2.1,.int .i64 (add b c).2.2,.int .i64 (tim 2 c).1,.int .i64 (tim 2 c).2.1,.int .i64 (tim 2 c).2.2,.int .i64 (add a b).1,.int .i64 (add a b).2.1,.int .i64 (add a b).2.2,.int .i64 (add b c).1,.int .i64 (add b c).2.1,.int .i64 (add b c).2.2,.int .i64 (add c a).1,.int .i64 (add c a).2.1,.int .i64 (add c a).2.2])∧Below w.heap.size w w':=by
  have HA:=Lib.hid (t62 ha)
  have HB:=Lib.hid (t62 hb)
  have HC:=Lib.hid (t62 hc)
  have AB:=Lib.hid (a62 ha hb)
  have BC:=Lib.hid (a62 hb hc)
  have CA:=Lib.hid (a62 hc ha)
  clear ha hb hc
  go_enter Tryz.func145,Tryz.ntmps145
  go_wp2_with fail
  rename_i K1 hK1
  refine wp_region_inv (qr1I w a b c (w.heap.size + 1 + 1)) (by kernel_rfl) ?_ ?_ ?_
  · exact ⟨by simp,fun _=>undef,rfl,by simp,qg_drew (pan_zero w a b c _ _),PV.nought,PV.nought,PV.nought,PV.nought,PV.nought,PV.nought,PV.nought,PV.nought,PV.nought,QA.nought,QA.nought,QA.nought,DD.nought,DD.nought,DD.nought⟩
  · simp only [allOps]
    refine ⟨?_,?_,?_,?_,?_,?_,?_,?_,?_,?_,?_,?_,?_,?_,?_,trivial⟩
    · rintro l A W ⟨hl,X,rfl,hN,g,F⟩ h1 hp K hK
      rw [qr1T_eq]
      have g':=Lib.hid g
      have F':=Lib.hid F;clear F g
      have hN':=Lib.hid hN;clear hN;have hl':=Lib.hid hl;clear hl;have h1':=Lib.hid h1;clear h1;have hp':=Lib.hid hp;clear hp;have hK':=Lib.hid hK;clear hK
      go_simp
      have hK:=hK'.out;have hN:=hN'.out;have hl:=hl'.out;have h1:=h1'.out
      obtain ⟨p0,p1,p2,p3,p4,p5,p6,p7,p8,qa0,qa1,qa2,d01,d02,d12⟩:=F'.out
      have g:=g'.out
      refine hK _ _ ⟨by simpa using hl,(upd X 9 (.pointer (some ⟨w.heap.size,0,none⟩))),rfl,hN,g,PV.made rfl,p1.k,p2.k,p3.k,p4.k,p5.k,p6.k,p7.k,p8.k,qa0.keep (by decide) (by decide) (fun _ _ h=>h),qa1.keep (by decide) (by decide) (fun _ _ h=>h),qa2.keep (by decide) (by decide) (fun _ _ h=>h),d01.k,d02.k,d12.k⟩
    · rintro l A W ⟨hl,X,rfl,hN,g,F⟩ h1 hp K hK
      have e:=F.1 (hp ⟨0,.data⟩ (by simp) rfl)
      obtain ⟨c0,c1,c2,c3,c4,c5,c6,c7,c8⟩:=pan_cells g.1
      rw [qr1T_eq]
      have g':=Lib.hid g
      have F':=Lib.hid F;clear F g
      have hN':=Lib.hid hN;clear hN;have hl':=Lib.hid hl;clear hl;have h1':=Lib.hid h1;clear h1;have hp':=Lib.hid hp;clear hp;have hK':=Lib.hid hK;clear hK
      go_simp
      have hK:=hK'.out;have hN:=hN'.out;have hl:=hl'.out;have h1:=h1'.out
      obtain ⟨p0,p1,p2,p3,p4,p5,p6,p7,p8,qa0,qa1,qa2,d01,d02,d12⟩:=F'.out
      have g:=g'.out
      refine hK _ _ ⟨by simpa using hl,(upd (upd X 9 (.pointer (some ⟨w.heap.size,0,none⟩))) 10 (ptv a)),rfl,hN,g,PV.made rfl,PV.made rfl,p2.k,p3.k,p4.k,p5.k,p6.k,p7.k,p8.k,qa0.keep (by decide) (by decide) (fun _ _ h=>h),qa1.keep (by decide) (by decide) (fun _ _ h=>h),qa2.keep (by decide) (by decide) (fun _ _ h=>h),d01.k,d02.k,d12.k⟩
    · rintro l A W ⟨hl,X,rfl,hN,g,F⟩ h1 hp K hK
      have e1:=F.2.1 (hp ⟨1,.data⟩ (by simp) rfl)
      rw [qr1T_eq]
      have g':=Lib.hid g
      have F':=Lib.hid F;clear F g
      have hN':=Lib.hid hN;clear hN;have hl':=Lib.hid hl;clear hl;have h1':=Lib.hid h1;clear h1;have hp':=Lib.hid hp;clear hp;have hK':=Lib.hid hK;clear hK
      go_simp
      go_at_call 103
      refine (ftimes_any 2 a _ (HA.out)).mono ?_
      rintro e W1 ⟨rfl,hb⟩
      (try dsimp only)
      have hK:=hK'.out;have hN:=hN'.out;have hl:=hl'.out;have h1:=h1'.out
      obtain ⟨p0,p1,p2,p3,p4,p5,p6,p7,p8,qa0,qa1,qa2,d01,d02,d12⟩:=F'.out
      have g:=g'.out
      refine hK _ _ ⟨by simpa using hl,(upd (upd X 10 (ptv a)) 11 (ptv (tim 2 a))),rfl,Nat.le_trans hN hb.size,qg_in g (hb.mono hN) (by omega),p0.k,PV.made rfl,PV.made rfl,p3.k,p4.k,p5.k,p6.k,p7.k,p8.k,qa0.keep (by decide) (by decide) (fun _ _ h=>own_below h hb),qa1.keep (by decide) (by decide) (fun _ _ h=>own_below h hb),qa2.keep (by decide) (by decide) (fun _ _ h=>own_below h hb),d01.k,d02.k,d12.k⟩
    · rintro l A W ⟨hl,X,rfl,hN,g,F⟩ h1 hp K hK
      rw [qr1T_eq]
      have g':=Lib.hid g
      have F':=Lib.hid F;clear F g
      have hN':=Lib.hid hN;clear hN;have hl':=Lib.hid hl;clear hl;have h1':=Lib.hid h1;clear h1;have hp':=Lib.hid hp;clear hp;have hK':=Lib.hid hK;clear hK
      go_simp
      have hK:=hK'.out;have hN:=hN'.out;have hl:=hl'.out;have h1:=h1'.out
      obtain ⟨p0,p1,p2,p3,p4,p5,p6,p7,p8,qa0,qa1,qa2,d01,d02,d12⟩:=F'.out
      have g:=g'.out
      refine hK _ _ ⟨by simpa using hl,(upd X 12 (.pointer (some ⟨w.heap.size,3,none⟩))),rfl,hN,g,p0.k,p1.k,p2.k,PV.made rfl,p4.k,p5.k,p6.k,p7.k,p8.k,qa0.keep (by decide) (by decide) (fun _ _ h=>h),qa1.keep (by decide) (by decide) (fun _ _ h=>h),qa2.keep (by decide) (by decide) (fun _ _ h=>h),d01.k,d02.k,d12.k⟩
    · rintro l A W ⟨hl,X,rfl,hN,g,F⟩ h1 hp K hK
      have e:=F.2.2.2.1 (hp ⟨3,.data⟩ (by simp) rfl)
      obtain ⟨c0,c1,c2,c3,c4,c5,c6,c7,c8⟩:=pan_cells g.1
      rw [qr1T_eq]
      have g':=Lib.hid g
      have F':=Lib.hid F;clear F g
      have hN':=Lib.hid hN;clear hN;have hl':=Lib.hid hl;clear hl;have h1':=Lib.hid h1;clear h1;have hp':=Lib.hid hp;clear hp;have hK':=Lib.hid hK;clear hK
      go_simp
      have hK:=hK'.out;have hN:=hN'.out;have hl:=hl'.out;have h1:=h1'.out
      obtain ⟨p0,p1,p2,p3,p4,p5,p6,p7,p8,qa0,qa1,qa2,d01,d02,d12⟩:=F'.out
      have g:=g'.out
      refine hK _ _ ⟨by simpa using hl,(upd (upd X 12 (.pointer (some ⟨w.heap.size,3,none⟩))) 13 (ptv b)),rfl,hN,g,p0.k,p1.k,p2.k,PV.made rfl,PV.made rfl,p5.k,p6.k,p7.k,p8.k,qa0.keep (by decide) (by decide) (fun _ _ h=>h),qa1.keep (by decide) (by decide) (fun _ _ h=>h),qa2.keep (by decide) (by decide) (fun _ _ h=>h),d01.k,d02.k,d12.k⟩
    · rintro l A W ⟨hl,X,rfl,hN,g,F⟩ h1 hp K hK
      have e4:=F.2.2.2.2.1 (hp ⟨4,.data⟩ (by simp) rfl)
      rw [qr1T_eq]
      have g':=Lib.hid g
      have F':=Lib.hid F;clear F g
      have hN':=Lib.hid hN;clear hN;have hl':=Lib.hid hl;clear hl;have h1':=Lib.hid h1;clear h1;have hp':=Lib.hid hp;clear hp;have hK':=Lib.hid hK;clear hK
      go_simp
      go_at_call 103
      refine (ftimes_any 2 b _ (HB.out)).mono ?_
      rintro e W1 ⟨rfl,hb⟩
      (try dsimp only)
      have hK:=hK'.out;have hN:=hN'.out;have hl:=hl'.out;have h1:=h1'.out
      obtain ⟨p0,p1,p2,p3,p4,p5,p6,p7,p8,qa0,qa1,qa2,d01,d02,d12⟩:=F'.out
      have g:=g'.out
      refine hK _ _ ⟨by simpa using hl,(upd (upd X 13 (ptv b)) 14 (ptv (tim 2 b))),rfl,Nat.le_trans hN hb.size,qg_in g (hb.mono hN) (by omega),p0.k,p1.k,p2.k,p3.k,PV.made rfl,PV.made rfl,p6.k,p7.k,p8.k,qa0.keep (by decide) (by decide) (fun _ _ h=>own_below h hb),qa1.keep (by decide) (by decide) (fun _ _ h=>own_below h hb),qa2.keep (by decide) (by decide) (fun _ _ h=>own_below h hb),d01.k,d02.k,d12.k⟩
    · rintro l A W ⟨hl,X,rfl,hN,g,F⟩ h1 hp K hK
      rw [qr1T_eq]
      have g':=Lib.hid g
      have F':=Lib.hid F;clear F g
      have hN':=Lib.hid hN;clear hN;have hl':=Lib.hid hl;clear hl;have h1':=Lib.hid h1;clear h1;have hp':=Lib.hid hp;clear hp;have hK':=Lib.hid hK;clear hK
      go_simp
      have hK:=hK'.out;have hN:=hN'.out;have hl:=hl'.out;have h1:=h1'.out
      obtain ⟨p0,p1,p2,p3,p4,p5,p6,p7,p8,qa0,qa1,qa2,d01,d02,d12⟩:=F'.out
      have g:=g'.out
      refine hK _ _ ⟨by simpa using hl,(upd X 15 (.pointer (some ⟨w.heap.size,6,none⟩))),rfl,hN,g,p0.k,p1.k,p2.k,p3.k,p4.k,p5.k,PV.made rfl,p7.k,p8.k,qa0.keep (by decide) (by decide) (fun _ _ h=>h),qa1.keep (by decide) (by decide) (fun _ _ h=>h),qa2.keep (by decide) (by decide) (fun _ _ h=>h),d01.k,d02.k,d12.k⟩
    · rintro l A W ⟨hl,X,rfl,hN,g,F⟩ h1 hp K hK
      have e:=F.2.2.2.2.2.2.1 (hp ⟨6,.data⟩ (by simp) rfl)
      obtain ⟨c0,c1,c2,c3,c4,c5,c6,c7,c8⟩:=pan_cells g.1
      rw [qr1T_eq]
      have g':=Lib.hid g
      have F':=Lib.hid F;clear F g
      have hN':=Lib.hid hN;clear hN;have hl':=Lib.hid hl;clear hl;have h1':=Lib.hid h1;clear h1;have hp':=Lib.hid hp;clear hp;have hK':=Lib.hid hK;clear hK
      go_simp
      have hK:=hK'.out;have hN:=hN'.out;have hl:=hl'.out;have h1:=h1'.out
      obtain ⟨p0,p1,p2,p3,p4,p5,p6,p7,p8,qa0,qa1,qa2,d01,d02,d12⟩:=F'.out
      have g:=g'.out
      refine hK _ _ ⟨by simpa using hl,(upd (upd X 15 (.pointer (some ⟨w.heap.size,6,none⟩))) 16 (ptv c)),rfl,hN,g,p0.k,p1.k,p2.k,p3.k,p4.k,p5.k,PV.made rfl,PV.made rfl,p8.k,qa0.keep (by decide) (by decide) (fun _ _ h=>h),qa1.keep (by decide) (by decide) (fun _ _ h=>h),qa2.keep (by decide) (by decide) (fun _ _ h=>h),d01.k,d02.k,d12.k⟩
    · rintro l A W ⟨hl,X,rfl,hN,g,F⟩ h1 hp K hK
      have e7:=F.2.2.2.2.2.2.2.1 (hp ⟨7,.data⟩ (by simp) rfl)
      rw [qr1T_eq]
      have g':=Lib.hid g
      have F':=Lib.hid F;clear F g
      have hN':=Lib.hid hN;clear hN;have hl':=Lib.hid hl;clear hl;have h1':=Lib.hid h1;clear h1;have hp':=Lib.hid hp;clear hp;have hK':=Lib.hid hK;clear hK
      go_simp
      go_at_call 103
      refine (ftimes_any 2 c _ (HC.out)).mono ?_
      rintro e W1 ⟨rfl,hb⟩
      (try dsimp only)
      have hK:=hK'.out;have hN:=hN'.out;have hl:=hl'.out;have h1:=h1'.out
      obtain ⟨p0,p1,p2,p3,p4,p5,p6,p7,p8,qa0,qa1,qa2,d01,d02,d12⟩:=F'.out
      have g:=g'.out
      refine hK _ _ ⟨by simpa using hl,(upd (upd X 16 (ptv c)) 17 (ptv (tim 2 c))),rfl,Nat.le_trans hN hb.size,qg_in g (hb.mono hN) (by omega),p0.k,p1.k,p2.k,p3.k,p4.k,p5.k,p6.k,PV.made rfl,PV.made rfl,qa0.keep (by decide) (by decide) (fun _ _ h=>own_below h hb),qa1.keep (by decide) (by decide) (fun _ _ h=>own_below h hb),qa2.keep (by decide) (by decide) (fun _ _ h=>own_below h hb),d01.k,d02.k,d12.k⟩
    · rintro l A W ⟨hl,X,rfl,hN,g,F⟩ h1 hp K hK
      rw [qr1T_eq]
      have g':=Lib.hid g
      have F':=Lib.hid F;clear F g
      have hN':=Lib.hid hN;clear hN;have hl':=Lib.hid hl;clear hl;have h1':=Lib.hid h1;clear h1;have hp':=Lib.hid hp;clear hp;have hK':=Lib.hid hK;clear hK
      go_simp
      have hK:=hK'.out;have hN:=hN'.out;have hl:=hl'.out;have h1:=h1'.out
      obtain ⟨p0,p1,p2,p3,p4,p5,p6,p7,p8,qa0,qa1,qa2,d01,d02,d12⟩:=F'.out
      have g:=g'.out
      refine hK _ _ ⟨by simpa using hl,(upd X 3 (.pointer (some ⟨W.heap.size,0,none⟩))),rfl,(by simp;omega),qg_in g (((Below.refl _ W).alloc (Nat.le_refl _) _).mono hN) (by omega),p0.k,p1.k,p2.k,p3.k,p4.k,p5.k,p6.k,p7.k,p8.k,qa0.made (by decide) (by rw [hl];decide) h1 hN (own_new W (0,0,0) _),qa1.keep (by decide) (by decide) (fun _ _ h=>own_alloc h _),qa2.keep (by decide) (by decide) (fun _ _ h=>own_alloc h _),DD.mk1 qa1 (by decide),DD.mk1 qa2 (by decide),d12.k⟩
    · rintro l A W ⟨hl,X,rfl,hN,g,F⟩ h1 hp K hK
      rw [qr1T_eq]
      have g':=Lib.hid g
      have F':=Lib.hid F;clear F g
      have hN':=Lib.hid hN;clear hN;have hl':=Lib.hid hl;clear hl;have h1':=Lib.hid h1;clear h1;have hp':=Lib.hid hp;clear hp;have hK':=Lib.hid hK;clear hK
      go_simp
      have hK:=hK'.out;have hN:=hN'.out;have hl:=hl'.out;have h1:=h1'.out
      obtain ⟨p0,p1,p2,p3,p4,p5,p6,p7,p8,qa0,qa1,qa2,d01,d02,d12⟩:=F'.out
      have g:=g'.out
      refine hK _ _ ⟨by simpa using hl,(upd X 4 (.pointer (some ⟨W.heap.size,0,none⟩))),rfl,(by simp;omega),qg_in g (((Below.refl _ W).alloc (Nat.le_refl _) _).mono hN) (by omega),p0.k,p1.k,p2.k,p3.k,p4.k,p5.k,p6.k,p7.k,p8.k,qa0.keep (by decide) (by decide) (fun _ _ h=>own_alloc h _),qa1.made (by decide) (by rw [hl];decide) h1 hN (own_new W (0,0,0) _),qa2.keep (by decide) (by decide) (fun _ _ h=>own_alloc h _),DD.mk2 qa0 (by decide),d02.k,DD.mk1 qa2 (by decide)⟩
    · rintro l A W ⟨hl,X,rfl,hN,g,F⟩ h1 hp K hK
      rw [qr1T_eq]
      have g':=Lib.hid g
      have F':=Lib.hid F;clear F g
      have hN':=Lib.hid hN;clear hN;have hl':=Lib.hid hl;clear hl;have h1':=Lib.hid h1;clear h1;have hp':=Lib.hid hp;clear hp;have hK':=Lib.hid hK;clear hK
      go_simp
      have hK:=hK'.out;have hN:=hN'.out;have hl:=hl'.out;have h1:=h1'.out
      obtain ⟨p0,p1,p2,p3,p4,p5,p6,p7,p8,qa0,qa1,qa2,d01,d02,d12⟩:=F'.out
      have g:=g'.out
      refine hK _ _ ⟨by simpa using hl,(upd X 5 (.pointer (some ⟨W.heap.size,0,none⟩))),rfl,(by simp;omega),qg_in g (((Below.refl _ W).alloc (Nat.le_refl _) _).mono hN) (by omega),p0.k,p1.k,p2.k,p3.k,p4.k,p5.k,p6.k,p7.k,p8.k,qa0.keep (by decide) (by decide) (fun _ _ h=>own_alloc h _),qa1.keep (by decide) (by decide) (fun _ _ h=>own_alloc h _),qa2.made (by decide) (by rw [hl];decide) h1 hN (own_new W (0,0,0) _),d01.k,DD.mk2 qa0 (by decide),DD.mk2 qa1 (by decide)⟩
    · rintro l A W ⟨hl,X,rfl,hN,g,F⟩ h1 hp K hK
      have la:=hp ⟨9,.data⟩ (by simp) rfl
      have e:=F.2.2.1 (hp ⟨2,.data⟩ (by simp) rfl)
      obtain ⟨b',v',e2,hb',ow,_⟩:=F.2.2.2.2.2.2.2.2.2.1.2 la
      obtain ⟨o0,o1,o2,o3,o4,o5,o6⟩:=id ow
      rw [qr1T_eq]
      have g':=Lib.hid g
      have F':=Lib.hid F;clear F g
      have hN':=Lib.hid hN;clear hN;have hl':=Lib.hid hl;clear hl;have h1':=Lib.hid h1;clear h1;have hp':=Lib.hid hp;clear hp;have hK':=Lib.hid hK;clear hK
      have la':=Lib.hid la;clear la;have hb'':=Lib.hid hb';clear hb';have ow':=Lib.hid ow;clear ow
      go_simp
      have hK:=hK'.out;have hN:=hN'.out;have hl:=hl'.out;have h1:=h1'.out
      obtain ⟨p0,p1,p2,p3,p4,p5,p6,p7,p8,qa0,qa1,qa2,d01,d02,d12⟩:=F'.out
      have g:=g'.out
      have la:=la'.out;have hb':=hb''.out;have ow:=ow'.out
      refine hK _ _ ⟨by simpa using hl,(upd (upd X 3 (.pointer (some ⟨b',0,none⟩))) 11 (ptv (tim 2 a))),rfl,(by simpa using hN),qg_in g (below_set3 _ _ _ hb') (by omega),p0.k,p1.k,PV.made rfl,p3.k,p4.k,p5.k,p6.k,p7.k,p8.k,QA.put (by decide) la rfl hb' (own_put ow _),qa1.other (by decide) (by decide) (fun z=>by have dd:=d01 la z;rw [e2] at dd;exact dd.symm) (fun _ _ n h=>own_set3 _ _ _ n h),qa2.other (by decide) (by decide) (fun z=>by have dd:=d02 la z;rw [e2] at dd;exact dd.symm) (fun _ _ n h=>own_set3 _ _ _ n h),(by have z:=d01.keep (i:=12) (by decide) (by decide);rw [e2] at z;exact z),(by have z:=d02.keep (i:=12) (by decide) (by decide);rw [e2] at z;exact z),d12.k⟩
    · rintro l A W ⟨hl,X,rfl,hN,g,F⟩ h1 hp K hK
      have la:=hp ⟨10,.data⟩ (by simp) rfl
      have e:=F.2.2.2.2.2.1 (hp ⟨5,.data⟩ (by simp) rfl)
      obtain ⟨b',v',e2,hb',ow,_⟩:=F.2.2.2.2.2.2.2.2.2.2.1.2 la
      obtain ⟨o0,o1,o2,o3,o4,o5,o6⟩:=id ow
      rw [qr1T_eq]
      have g':=Lib.hid g
      have F':=Lib.hid F;clear F g
      have hN':=Lib.hid hN;clear hN;have hl':=Lib.hid hl;clear hl;have h1':=Lib.hid h1;clear h1;have hp':=Lib.hid hp;clear hp;have hK':=Lib.hid hK;clear hK
      have la':=Lib.hid la;clear la;have hb'':=Lib.hid hb';clear hb';have ow':=Lib.hid ow;clear ow
      go_simp
      have hK:=hK'.out;have hN:=hN'.out;have hl:=hl'.out;have h1:=h1'.out
      obtain ⟨p0,p1,p2,p3,p4,p5,p6,p7,p8,qa0,qa1,qa2,d01,d02,d12⟩:=F'.out
      have g:=g'.out
      have la:=la'.out;have hb':=hb''.out;have ow:=ow'.out
      refine hK _ _ ⟨by simpa using hl,(upd (upd X 4 (.pointer (some ⟨b',0,none⟩))) 14 (ptv (tim 2 b))),rfl,(by simpa using hN),qg_in g (below_set3 _ _ _ hb') (by omega),p0.k,p1.k,p2.k,p3.k,p4.k,PV.made rfl,p6.k,p7.k,p8.k,qa0.other (by decide) (by decide) (fun z=>by have dd:=d01 z la;rw [e2] at dd;exact dd) (fun _ _ n h=>own_set3 _ _ _ n h),QA.put (by decide) la rfl hb' (own_put ow _),qa2.other (by decide) (by decide) (fun z=>by have dd:=d12 la z;rw [e2] at dd;exact dd.symm) (fun _ _ n h=>own_set3 _ _ _ n h),(by have z:=d01.keep (i:=13) (by decide) (by decide);rw [e2] at z;exact z),d02.k,(by have z:=d12.keep (i:=13) (by decide) (by decide);rw [e2] at z;exact z)⟩
    · rintro l A W ⟨hl,X,rfl,hN,g,F⟩ h1 hp K hK
      have la:=hp ⟨11,.data⟩ (by simp) rfl
      have e:=F.2.2.2.2.2.2.2.2.1 (hp ⟨8,.data⟩ (by simp) rfl)
      obtain ⟨b',v',e2,hb',ow,_⟩:=F.2.2.2.2.2.2.2.2.2.2.2.1.2 la
      obtain ⟨o0,o1,o2,o3,o4,o5,o6⟩:=id ow
      rw [qr1T_eq]
      have g':=Lib.hid g
      have F':=Lib.hid F;clear F g
      have hN':=Lib.hid hN;clear hN;have hl':=Lib.hid hl;clear hl;have h1':=Lib.hid h1;clear h1;have hp':=Lib.hid hp;clear hp;have hK':=Lib.hid hK;clear hK
      have la':=Lib.hid la;clear la;have hb'':=Lib.hid hb';clear hb';have ow':=Lib.hid ow;clear ow
      go_simp
      have hK:=hK'.out;have hN:=hN'.out;have hl:=hl'.out;have h1:=h1'.out
      obtain ⟨p0,p1,p2,p3,p4,p5,p6,p7,p8,qa0,qa1,qa2,d01,d02,d12⟩:=F'.out
      have g:=g'.out
      have la:=la'.out;have hb':=hb''.out;have ow:=ow'.out
      refine hK _ _ ⟨by simpa using hl,(upd (upd X 5 (.pointer (some ⟨b',0,none⟩))) 17 (ptv (tim 2 c))),rfl,(by simpa using hN),qg_in g (below_set3 _ _ _ hb') (by omega),p0.k,p1.k,p2.k,p3.k,p4.k,p5.k,p6.k,p7.k,PV.made rfl,qa0.other (by decide) (by decide) (fun z=>by have dd:=d02 z la;rw [e2] at dd;exact dd) (fun _ _ n h=>own_set3 _ _ _ n h),qa1.other (by decide) (by decide) (fun z=>by have dd:=d12 z la;rw [e2] at dd;exact dd) (fun _ _ n h=>own_set3 _ _ _ n h),QA.put (by decide) la rfl hb' (own_put ow _),d01.k,(by have z:=d02.keep (i:=14) (by decide) (by decide);rw [e2] at z;exact z),(by have z:=d12.keep (i:=14) (by decide) (by decide);rw [e2] at z;exact z)⟩
  · rintro l A W ⟨hl,X,rfl,hN,g,p0,p1,p2,p3,p4,p5,p6,p7,p8,qa0,qa1,qa2,d01,d02,d12⟩ hr
    have l0:=ready_end hr 0 (by rw [hl];decide) rfl (fun e he _=>by
      simp at he
      (try (repeat (rcases he with rfl | he;· assumption)))
      (try (first | (subst he;assumption) | exact he.elim)))
    have l1:=ready_end hr 1 (by rw [hl];decide) rfl (fun e he _=>by
      simp at he
      (try (repeat (rcases he with rfl | he;· assumption)))
      (try (first | (subst he;assumption) | exact he.elim)))
    have l2:=ready_end hr 2 (by rw [hl];decide) rfl (fun e he _=>by
      simp at he
      (try (repeat (rcases he with rfl | he;· assumption)))
      (try (first | (subst he;assumption) | exact he.elim)))
    have l3:=ready_end hr 3 (by rw [hl];decide) rfl (fun e he _=>by
      simp at he
      (try (repeat (rcases he with rfl | he;· assumption)))
      (try (first | (subst he;assumption) | exact he.elim)))
    have l4:=ready_end hr 4 (by rw [hl];decide) rfl (fun e he _=>by
      simp at he
      (try (repeat (rcases he with rfl | he;· assumption)))
      (try (first | (subst he;assumption) | exact he.elim)))
    have l5:=ready_end hr 5 (by rw [hl];decide) rfl (fun e he _=>by
      simp at he
      (try (repeat (rcases he with rfl | he;· assumption)))
      (try (first | (subst he;assumption) | exact he.elim)))
    have l6:=ready_end hr 6 (by rw [hl];decide) rfl (fun e he _=>by
      simp at he
      (try (repeat (rcases he with rfl | he;· assumption)))
      (try (first | (subst he;assumption) | exact he.elim)))
    have l7:=ready_end hr 7 (by rw [hl];decide) rfl (fun e he _=>by
      simp at he
      (try (repeat (rcases he with rfl | he;· assumption)))
      (try (first | (subst he;assumption) | exact he.elim)))
    have l8:=ready_end hr 8 (by rw [hl];decide) rfl (fun e he _=>by
      simp at he
      (try (repeat (rcases he with rfl | he;· assumption)))
      (try (first | (subst he;assumption) | exact he.elim)))
    have l9:=ready_end hr 9 (by rw [hl];decide) rfl (fun e he _=>by
      simp at he
      (try (repeat (rcases he with rfl | he;· assumption)))
      (try (first | (subst he;assumption) | exact he.elim)))
    have l10:=ready_end hr 10 (by rw [hl];decide) rfl (fun e he _=>by
      simp at he
      (try (repeat (rcases he with rfl | he;· assumption)))
      (try (first | (subst he;assumption) | exact he.elim)))
    have l11:=ready_end hr 11 (by rw [hl];decide) rfl (fun e he _=>by
      simp at he
      (try (repeat (rcases he with rfl | he;· assumption)))
      (try (first | (subst he;assumption) | exact he.elim)))
    have l12:=ready_end hr 12 (by rw [hl];decide) rfl (fun e he _=>by
      simp at he
      (try (repeat (rcases he with rfl | he;· assumption)))
      (try (first | (subst he;assumption) | exact he.elim)))
    have l13:=ready_end hr 13 (by rw [hl];decide) rfl (fun e he _=>by
      simp at he
      (try (repeat (rcases he with rfl | he;· assumption)))
      (try (first | (subst he;assumption) | exact he.elim)))
    have l14:=ready_end hr 14 (by rw [hl];decide) rfl (fun e he _=>by
      simp at he
      (try (repeat (rcases he with rfl | he;· assumption)))
      (try (first | (subst he;assumption) | exact he.elim)))
    obtain ⟨x,vx,e3,nx,ox,tx⟩:=qa0.2 l9
    obtain ⟨y,vy,e4,ny,oy,ty⟩:=qa1.2 l10
    obtain ⟨z,vz,e5,nz,oz,tz⟩:=qa2.2 l11
    obtain rfl:=tx l12
    obtain rfl:=ty l13
    obtain rfl:=tz l14
    have hT:qr1T w a b c X=#[pnv a b c,.pointer (some ⟨w.heap.size,0,none⟩),.pointer (some ⟨w.heap.size + 1,0,none⟩),.pointer (some ⟨x,0,none⟩),.pointer (some ⟨y,0,none⟩),.pointer (some ⟨z,0,none⟩),undef,undef,undef,.pointer (some ⟨w.heap.size,0,none⟩),ptv a,ptv (tim 2 a),.pointer (some ⟨w.heap.size,3,none⟩),ptv b,ptv (tim 2 b),.pointer (some ⟨w.heap.size,6,none⟩),ptv c,ptv (tim 2 c),undef,undef,undef,undef,undef,undef,undef,undef,undef,undef,undef,undef,undef,undef,undef,undef,undef,undef,undef,undef,undef,undef,undef,undef,undef,undef,undef,undef,undef,undef,undef,undef]:=by
      simp only [qr1T,e3,e4,e5,p0 l0,p1 l1,p2 l2,p3 l3,p4 l4,p5 l5,p6 l6,p7 l7,p8 l8]
    have QS:=Lib.hid (show QH w a b c x y z W from ⟨g,ox,oy,oz⟩)
    have NL:=Lib.hid (show w.heap.size + 1 < W.heap.size∧x < W.heap.size∧y < W.heap.size∧z < W.heap.size from ⟨by omega,ox.2.2.2.2.2.2,oy.2.2.2.2.2.2,oz.2.2.2.2.2.2⟩)
    rw [hT]
    clear hT tx ty tz ox oy oz nx ny nz e3 e4 e5 qa0 qa1 qa2 d01 d02 d12 p0 l0 p1 l1 p2 l2 p3 l3 p4 l4 p5 l5 p6 l6 p7 l7 p8 l8 l9 l10 l11 l12 l13 l14 g hN hr X hl HA HB HC
    refine hK1 _ _ ?_
    clear hK1
    go_wp2_with fail
    rename_i K2 hK2
    refine wp_region_inv (qr2I w a b c x y z W.heap.size) (by kernel_rfl) ?_ ?_ ?_
    · exact ⟨by simp,fun _=>undef,rfl,Nat.le_refl _,qh_drew QS.out,PV.nought,PV.nought,PV.nought,PV.nought,PV.nought,PV.nought,PV.nought,PV.nought,PV.nought,PV.nought,PV.nought,PV.nought,PV.nought,PV.nought,PV.nought,QA.nought,QA.nought,QA.nought,DD.nought,DD.nought,DD.nought⟩
    · simp only [allOps]
      refine ⟨?_,?_,?_,?_,?_,?_,?_,?_,?_,?_,?_,?_,?_,?_,?_,?_,?_,?_,?_,?_,?_,trivial⟩
      · rintro l A W ⟨hl,X,rfl,hN,g,F⟩ h1 hp K hK
        rw [qr2T_eq]
        have g':=Lib.hid g
        have F':=Lib.hid F;clear F g
        have hN':=Lib.hid hN;clear hN;have hl':=Lib.hid hl;clear hl;have h1':=Lib.hid h1;clear h1;have hp':=Lib.hid hp;clear hp;have hK':=Lib.hid hK;clear hK
        go_simp
        have hK:=hK'.out;have hN:=hN'.out;have hl:=hl'.out;have h1:=h1'.out
        obtain ⟨p0,p1,p2,p3,p4,p5,p6,p7,p8,p9,p10,p11,p12,p13,p14,qa0,qa1,qa2,d01,d02,d12⟩:=F'.out
        have g:=g'.out
        refine hK _ _ ⟨by simpa using hl,(upd X 18 (.pointer (some ⟨w.heap.size,0,none⟩))),rfl,hN,g,PV.made rfl,p1.k,p2.k,p3.k,p4.k,p5.k,p6.k,p7.k,p8.k,p9.k,p10.k,p11.k,p12.k,p13.k,p14.k,qa0.keep (by decide) (by decide) (fun _ _ h=>h),qa1.keep (by decide) (by decide) (fun _ _ h=>h),qa2.keep (by decide) (by decide) (fun _ _ h=>h),d01.k,d02.k,d12.k⟩
      · rintro l A W ⟨hl,X,rfl,hN,g,F⟩ h1 hp K hK
        have e:=F.1 (hp ⟨0,.data⟩ (by simp) rfl)
        obtain ⟨c0,c1,c2,c3,c4,c5,c6,c7,c8⟩:=pan_cells g.1.1
        rw [qr2T_eq]
        have g':=Lib.hid g
        have F':=Lib.hid F;clear F g
        have hN':=Lib.hid hN;clear hN;have hl':=Lib.hid hl;clear hl;have h1':=Lib.hid h1;clear h1;have hp':=Lib.hid hp;clear hp;have hK':=Lib.hid hK;clear hK
        go_simp
        have hK:=hK'.out;have hN:=hN'.out;have hl:=hl'.out;have h1:=h1'.out
        obtain ⟨p0,p1,p2,p3,p4,p5,p6,p7,p8,p9,p10,p11,p12,p13,p14,qa0,qa1,qa2,d01,d02,d12⟩:=F'.out
        have g:=g'.out
        refine hK _ _ ⟨by simpa using hl,(upd (upd X 18 (.pointer (some ⟨w.heap.size,0,none⟩))) 19 (ptv a)),rfl,hN,g,PV.made rfl,PV.made rfl,p2.k,p3.k,p4.k,p5.k,p6.k,p7.k,p8.k,p9.k,p10.k,p11.k,p12.k,p13.k,p14.k,qa0.keep (by decide) (by decide) (fun _ _ h=>h),qa1.keep (by decide) (by decide) (fun _ _ h=>h),qa2.keep (by decide) (by decide) (fun _ _ h=>h),d01.k,d02.k,d12.k⟩
      · rintro l A W ⟨hl,X,rfl,hN,g,F⟩ h1 hp K hK
        rw [qr2T_eq]
        have g':=Lib.hid g
        have F':=Lib.hid F;clear F g
        have hN':=Lib.hid hN;clear hN;have hl':=Lib.hid hl;clear hl;have h1':=Lib.hid h1;clear h1;have hp':=Lib.hid hp;clear hp;have hK':=Lib.hid hK;clear hK
        go_simp
        have hK:=hK'.out;have hN:=hN'.out;have hl:=hl'.out;have h1:=h1'.out
        obtain ⟨p0,p1,p2,p3,p4,p5,p6,p7,p8,p9,p10,p11,p12,p13,p14,qa0,qa1,qa2,d01,d02,d12⟩:=F'.out
        have g:=g'.out
        refine hK _ _ ⟨by simpa using hl,(upd X 20 (.pointer (some ⟨w.heap.size,3,none⟩))),rfl,hN,g,p0.k,p1.k,PV.made rfl,p3.k,p4.k,p5.k,p6.k,p7.k,p8.k,p9.k,p10.k,p11.k,p12.k,p13.k,p14.k,qa0.keep (by decide) (by decide) (fun _ _ h=>h),qa1.keep (by decide) (by decide) (fun _ _ h=>h),qa2.keep (by decide) (by decide) (fun _ _ h=>h),d01.k,d02.k,d12.k⟩
      · rintro l A W ⟨hl,X,rfl,hN,g,F⟩ h1 hp K hK
        have e:=F.2.2.1 (hp ⟨2,.data⟩ (by simp) rfl)
        obtain ⟨c0,c1,c2,c3,c4,c5,c6,c7,c8⟩:=pan_cells g.1.1
        rw [qr2T_eq]
        have g':=Lib.hid g
        have F':=Lib.hid F;clear F g
        have hN':=Lib.hid hN;clear hN;have hl':=Lib.hid hl;clear hl;have h1':=Lib.hid h1;clear h1;have hp':=Lib.hid hp;clear hp;have hK':=Lib.hid hK;clear hK
        go_simp
        have hK:=hK'.out;have hN:=hN'.out;have hl:=hl'.out;have h1:=h1'.out
        obtain ⟨p0,p1,p2,p3,p4,p5,p6,p7,p8,p9,p10,p11,p12,p13,p14,qa0,qa1,qa2,d01,d02,d12⟩:=F'.out
        have g:=g'.out
        refine hK _ _ ⟨by simpa using hl,(upd (upd X 20 (.pointer (some ⟨w.heap.size,3,none⟩))) 21 (ptv b)),rfl,hN,g,p0.k,p1.k,PV.made rfl,PV.made rfl,p4.k,p5.k,p6.k,p7.k,p8.k,p9.k,p10.k,p11.k,p12.k,p13.k,p14.k,qa0.keep (by decide) (by decide) (fun _ _ h=>h),qa1.keep (by decide) (by decide) (fun _ _ h=>h),qa2.keep (by decide) (by decide) (fun _ _ h=>h),d01.k,d02.k,d12.k⟩
      · rintro l A W ⟨hl,X,rfl,hN,g,F⟩ h1 hp K hK
        have e1:=F.2.1 (hp ⟨1,.data⟩ (by simp) rfl)
        have e3:=F.2.2.2.1 (hp ⟨3,.data⟩ (by simp) rfl)
        rw [qr2T_eq]
        have g':=Lib.hid g
        have F':=Lib.hid F;clear F g
        have hN':=Lib.hid hN;clear hN;have hl':=Lib.hid hl;clear hl;have h1':=Lib.hid h1;clear h1;have hp':=Lib.hid hp;clear hp;have hK':=Lib.hid hK;clear hK
        go_simp
        go_at_call 146
        refine (fplus_any a b _ (AB.out)).mono ?_
        rintro e W1 ⟨rfl,hb⟩
        (try dsimp only)
        have hK:=hK'.out;have hN:=hN'.out;have hl:=hl'.out;have h1:=h1'.out
        obtain ⟨p0,p1,p2,p3,p4,p5,p6,p7,p8,p9,p10,p11,p12,p13,p14,qa0,qa1,qa2,d01,d02,d12⟩:=F'.out
        have g:=g'.out
        refine hK _ _ ⟨by simpa using hl,(upd (upd (upd X 19 (ptv a)) 21 (ptv b)) 22 (ptv (add a b))),rfl,Nat.le_trans hN hb.size,qh_in g (hb.mono hN) NL.out.1 NL.out.2.1 NL.out.2.2.1 NL.out.2.2.2,p0.k,PV.made rfl,p2.k,PV.made rfl,PV.made rfl,p5.k,p6.k,p7.k,p8.k,p9.k,p10.k,p11.k,p12.k,p13.k,p14.k,qa0.keep (by decide) (by decide) (fun _ _ h=>own_below h hb),qa1.keep (by decide) (by decide) (fun _ _ h=>own_below h hb),qa2.keep (by decide) (by decide) (fun _ _ h=>own_below h hb),d01.k,d02.k,d12.k⟩
      · rintro l A W ⟨hl,X,rfl,hN,g,F⟩ h1 hp K hK
        rw [qr2T_eq]
        have g':=Lib.hid g
        have F':=Lib.hid F;clear F g
        have hN':=Lib.hid hN;clear hN;have hl':=Lib.hid hl;clear hl;have h1':=Lib.hid h1;clear h1;have hp':=Lib.hid hp;clear hp;have hK':=Lib.hid hK;clear hK
        go_simp
        have hK:=hK'.out;have hN:=hN'.out;have hl:=hl'.out;have h1:=h1'.out
        obtain ⟨p0,p1,p2,p3,p4,p5,p6,p7,p8,p9,p10,p11,p12,p13,p14,qa0,qa1,qa2,d01,d02,d12⟩:=F'.out
        have g:=g'.out
        refine hK _ _ ⟨by simpa using hl,(upd X 23 (.pointer (some ⟨w.heap.size,3,none⟩))),rfl,hN,g,p0.k,p1.k,p2.k,p3.k,p4.k,PV.made rfl,p6.k,p7.k,p8.k,p9.k,p10.k,p11.k,p12.k,p13.k,p14.k,qa0.keep (by decide) (by decide) (fun _ _ h=>h),qa1.keep (by decide) (by decide) (fun _ _ h=>h),qa2.keep (by decide) (by decide) (fun _ _ h=>h),d01.k,d02.k,d12.k⟩
      · rintro l A W ⟨hl,X,rfl,hN,g,F⟩ h1 hp K hK
        have e:=F.2.2.2.2.2.1 (hp ⟨5,.data⟩ (by simp) rfl)
        obtain ⟨c0,c1,c2,c3,c4,c5,c6,c7,c8⟩:=pan_cells g.1.1
        rw [qr2T_eq]
        have g':=Lib.hid g
        have F':=Lib.hid F;clear F g
        have hN':=Lib.hid hN;clear hN;have hl':=Lib.hid hl;clear hl;have h1':=Lib.hid h1;clear h1;have hp':=Lib.hid hp;clear hp;have hK':=Lib.hid hK;clear hK
        go_simp
        have hK:=hK'.out;have hN:=hN'.out;have hl:=hl'.out;have h1:=h1'.out
        obtain ⟨p0,p1,p2,p3,p4,p5,p6,p7,p8,p9,p10,p11,p12,p13,p14,qa0,qa1,qa2,d01,d02,d12⟩:=F'.out
        have g:=g'.out
        refine hK _ _ ⟨by simpa using hl,(upd (upd X 23 (.pointer (some ⟨w.heap.size,3,none⟩))) 24 (ptv b)),rfl,hN,g,p0.k,p1.k,p2.k,p3.k,p4.k,PV.made rfl,PV.made rfl,p7.k,p8.k,p9.k,p10.k,p11.k,p12.k,p13.k,p14.k,qa0.keep (by decide) (by decide) (fun _ _ h=>h),qa1.keep (by decide) (by decide) (fun _ _ h=>h),qa2.keep (by decide) (by decide) (fun _ _ h=>h),d01.k,d02.k,d12.k⟩
      · rintro l A W ⟨hl,X,rfl,hN,g,F⟩ h1 hp K hK
        rw [qr2T_eq]
        have g':=Lib.hid g
        have F':=Lib.hid F;clear F g
        have hN':=Lib.hid hN;clear hN;have hl':=Lib.hid hl;clear hl;have h1':=Lib.hid h1;clear h1;have hp':=Lib.hid hp;clear hp;have hK':=Lib.hid hK;clear hK
        go_simp
        have hK:=hK'.out;have hN:=hN'.out;have hl:=hl'.out;have h1:=h1'.out
        obtain ⟨p0,p1,p2,p3,p4,p5,p6,p7,p8,p9,p10,p11,p12,p13,p14,qa0,qa1,qa2,d01,d02,d12⟩:=F'.out
        have g:=g'.out
        refine hK _ _ ⟨by simpa using hl,(upd X 25 (.pointer (some ⟨w.heap.size,6,none⟩))),rfl,hN,g,p0.k,p1.k,p2.k,p3.k,p4.k,p5.k,p6.k,PV.made rfl,p8.k,p9.k,p10.k,p11.k,p12.k,p13.k,p14.k,qa0.keep (by decide) (by decide) (fun _ _ h=>h),qa1.keep (by decide) (by decide) (fun _ _ h=>h),qa2.keep (by decide) (by decide) (fun _ _ h=>h),d01.k,d02.k,d12.k⟩
      · rintro l A W ⟨hl,X,rfl,hN,g,F⟩ h1 hp K hK
        have e:=F.2.2.2.2.2.2.2.1 (hp ⟨7,.data⟩ (by simp) rfl)
        obtain ⟨c0,c1,c2,c3,c4,c5,c6,c7,c8⟩:=pan_cells g.1.1
        rw [qr2T_eq]
        have g':=Lib.hid g
        have F':=Lib.hid F;clear F g
        have hN':=Lib.hid hN;clear hN;have hl':=Lib.hid hl;clear hl;have h1':=Lib.hid h1;clear h1;have hp':=Lib.hid hp;clear hp;have hK':=Lib.hid hK;clear hK
        go_simp
        have hK:=hK'.out;have hN:=hN'.out;have hl:=hl'.out;have h1:=h1'.out
        obtain ⟨p0,p1,p2,p3,p4,p5,p6,p7,p8,p9,p10,p11,p12,p13,p14,qa0,qa1,qa2,d01,d02,d12⟩:=F'.out
        have g:=g'.out
        refine hK _ _ ⟨by simpa using hl,(upd (upd X 25 (.pointer (some ⟨w.heap.size,6,none⟩))) 26 (ptv c)),rfl,hN,g,p0.k,p1.k,p2.k,p3.k,p4.k,p5.k,p6.k,PV.made rfl,PV.made rfl,p9.k,p10.k,p11.k,p12.k,p13.k,p14.k,qa0.keep (by decide) (by decide) (fun _ _ h=>h),qa1.keep (by decide) (by decide) (fun _ _ h=>h),qa2.keep (by decide) (by decide) (fun _ _ h=>h),d01.k,d02.k,d12.k⟩
      · rintro l A W ⟨hl,X,rfl,hN,g,F⟩ h1 hp K hK
        have e6:=F.2.2.2.2.2.2.1 (hp ⟨6,.data⟩ (by simp) rfl)
        have e8:=F.2.2.2.2.2.2.2.2.1 (hp ⟨8,.data⟩ (by simp) rfl)
        rw [qr2T_eq]
        have g':=Lib.hid g
        have F':=Lib.hid F;clear F g
        have hN':=Lib.hid hN;clear hN;have hl':=Lib.hid hl;clear hl;have h1':=Lib.hid h1;clear h1;have hp':=Lib.hid hp;clear hp;have hK':=Lib.hid hK;clear hK
        go_simp
        go_at_call 146
        refine (fplus_any b c _ (BC.out)).mono ?_
        rintro e W1 ⟨rfl,hb⟩
        (try dsimp only)
        have hK:=hK'.out;have hN:=hN'.out;have hl:=hl'.out;have h1:=h1'.out
        obtain ⟨p0,p1,p2,p3,p4,p5,p6,p7,p8,p9,p10,p11,p12,p13,p14,qa0,qa1,qa2,d01,d02,d12⟩:=F'.out
        have g:=g'.out
        refine hK _ _ ⟨by simpa using hl,(upd (upd (upd X 24 (ptv b)) 26 (ptv c)) 27 (ptv (add b c))),rfl,Nat.le_trans hN hb.size,qh_in g (hb.mono hN) NL.out.1 NL.out.2.1 NL.out.2.2.1 NL.out.2.2.2,p0.k,p1.k,p2.k,p3.k,p4.k,p5.k,PV.made rfl,p7.k,PV.made rfl,PV.made rfl,p10.k,p11.k,p12.k,p13.k,p14.k,qa0.keep (by decide) (by decide) (fun _ _ h=>own_below h hb),qa1.keep (by decide) (by decide) (fun _ _ h=>own_below h hb),qa2.keep (by decide) (by decide) (fun _ _ h=>own_below h hb),d01.k,d02.k,d12.k⟩
      · rintro l A W ⟨hl,X,rfl,hN,g,F⟩ h1 hp K hK
        rw [qr2T_eq]
        have g':=Lib.hid g
        have F':=Lib.hid F;clear F g
        have hN':=Lib.hid hN;clear hN;have hl':=Lib.hid hl;clear hl;have h1':=Lib.hid h1;clear h1;have hp':=Lib.hid hp;clear hp;have hK':=Lib.hid hK;clear hK
        go_simp
        have hK:=hK'.out;have hN:=hN'.out;have hl:=hl'.out;have h1:=h1'.out
        obtain ⟨p0,p1,p2,p3,p4,p5,p6,p7,p8,p9,p10,p11,p12,p13,p14,qa0,qa1,qa2,d01,d02,d12⟩:=F'.out
        have g:=g'.out
        refine hK _ _ ⟨by simpa using hl,(upd X 28 (.pointer (some ⟨w.heap.size,6,none⟩))),rfl,hN,g,p0.k,p1.k,p2.k,p3.k,p4.k,p5.k,p6.k,p7.k,p8.k,p9.k,PV.made rfl,p11.k,p12.k,p13.k,p14.k,qa0.keep (by decide) (by decide) (fun _ _ h=>h),qa1.keep (by decide) (by decide) (fun _ _ h=>h),qa2.keep (by decide) (by decide) (fun _ _ h=>h),d01.k,d02.k,d12.k⟩
      · rintro l A W ⟨hl,X,rfl,hN,g,F⟩ h1 hp K hK
        have e:=F.2.2.2.2.2.2.2.2.2.2.1 (hp ⟨10,.data⟩ (by simp) rfl)
        obtain ⟨c0,c1,c2,c3,c4,c5,c6,c7,c8⟩:=pan_cells g.1.1
        rw [qr2T_eq]
        have g':=Lib.hid g
        have F':=Lib.hid F;clear F g
        have hN':=Lib.hid hN;clear hN;have hl':=Lib.hid hl;clear hl;have h1':=Lib.hid h1;clear h1;have hp':=Lib.hid hp;clear hp;have hK':=Lib.hid hK;clear hK
        go_simp
        have hK:=hK'.out;have hN:=hN'.out;have hl:=hl'.out;have h1:=h1'.out
        obtain ⟨p0,p1,p2,p3,p4,p5,p6,p7,p8,p9,p10,p11,p12,p13,p14,qa0,qa1,qa2,d01,d02,d12⟩:=F'.out
        have g:=g'.out
        refine hK _ _ ⟨by simpa using hl,(upd (upd X 28 (.pointer (some ⟨w.heap.size,6,none⟩))) 29 (ptv c)),rfl,hN,g,p0.k,p1.k,p2.k,p3.k,p4.k,p5.k,p6.k,p7.k,p8.k,p9.k,PV.made rfl,PV.made rfl,p12.k,p13.k,p14.k,qa0.keep (by decide) (by decide) (fun _ _ h=>h),qa1.keep (by decide) (by decide) (fun _ _ h=>h),qa2.keep (by decide) (by decide) (fun _ _ h=>h),d01.k,d02.k,d12.k⟩
      · rintro l A W ⟨hl,X,rfl,hN,g,F⟩ h1 hp K hK
        rw [qr2T_eq]
        have g':=Lib.hid g
        have F':=Lib.hid F;clear F g
        have hN':=Lib.hid hN;clear hN;have hl':=Lib.hid hl;clear hl;have h1':=Lib.hid h1;clear h1;have hp':=Lib.hid hp;clear hp;have hK':=Lib.hid hK;clear hK
        go_simp
        have hK:=hK'.out;have hN:=hN'.out;have hl:=hl'.out;have h1:=h1'.out
        obtain ⟨p0,p1,p2,p3,p4,p5,p6,p7,p8,p9,p10,p11,p12,p13,p14,qa0,qa1,qa2,d01,d02,d12⟩:=F'.out
        have g:=g'.out
        refine hK _ _ ⟨by simpa using hl,(upd X 30 (.pointer (some ⟨w.heap.size,0,none⟩))),rfl,hN,g,p0.k,p1.k,p2.k,p3.k,p4.k,p5.k,p6.k,p7.k,p8.k,p9.k,p10.k,p11.k,PV.made rfl,p13.k,p14.k,qa0.keep (by decide) (by decide) (fun _ _ h=>h),qa1.keep (by decide) (by decide) (fun _ _ h=>h),qa2.keep (by decide) (by decide) (fun _ _ h=>h),d01.k,d02.k,d12.k⟩
      · rintro l A W ⟨hl,X,rfl,hN,g,F⟩ h1 hp K hK
        have e:=F.2.2.2.2.2.2.2.2.2.2.2.2.1 (hp ⟨12,.data⟩ (by simp) rfl)
        obtain ⟨c0,c1,c2,c3,c4,c5,c6,c7,c8⟩:=pan_cells g.1.1
        rw [qr2T_eq]
        have g':=Lib.hid g
        have F':=Lib.hid F;clear F g
        have hN':=Lib.hid hN;clear hN;have hl':=Lib.hid hl;clear hl;have h1':=Lib.hid h1;clear h1;have hp':=Lib.hid hp;clear hp;have hK':=Lib.hid hK;clear hK
        go_simp
        have hK:=hK'.out;have hN:=hN'.out;have hl:=hl'.out;have h1:=h1'.out
        obtain ⟨p0,p1,p2,p3,p4,p5,p6,p7,p8,p9,p10,p11,p12,p13,p14,qa0,qa1,qa2,d01,d02,d12⟩:=F'.out
        have g:=g'.out
        refine hK _ _ ⟨by simpa using hl,(upd (upd X 30 (.pointer (some ⟨w.heap.size,0,none⟩))) 31 (ptv a)),rfl,hN,g,p0.k,p1.k,p2.k,p3.k,p4.k,p5.k,p6.k,p7.k,p8.k,p9.k,p10.k,p11.k,PV.made rfl,PV.made rfl,p14.k,qa0.keep (by decide) (by decide) (fun _ _ h=>h),qa1.keep (by decide) (by decide) (fun _ _ h=>h),qa2.keep (by decide) (by decide) (fun _ _ h=>h),d01.k,d02.k,d12.k⟩
      · rintro l A W ⟨hl,X,rfl,hN,g,F⟩ h1 hp K hK
        have e11:=F.2.2.2.2.2.2.2.2.2.2.2.1 (hp ⟨11,.data⟩ (by simp) rfl)
        have e13:=F.2.2.2.2.2.2.2.2.2.2.2.2.2.1 (hp ⟨13,.data⟩ (by simp) rfl)
        rw [qr2T_eq]
        have g':=Lib.hid g
        have F':=Lib.hid F;clear F g
        have hN':=Lib.hid hN;clear hN;have hl':=Lib.hid hl;clear hl;have h1':=Lib.hid h1;clear h1;have hp':=Lib.hid hp;clear hp;have hK':=Lib.hid hK;clear hK
        go_simp
        go_at_call 146
        refine (fplus_any c a _ (CA.out)).mono ?_
        rintro e W1 ⟨rfl,hb⟩
        (try dsimp only)
        have hK:=hK'.out;have hN:=hN'.out;have hl:=hl'.out;have h1:=h1'.out
        obtain ⟨p0,p1,p2,p3,p4,p5,p6,p7,p8,p9,p10,p11,p12,p13,p14,qa0,qa1,qa2,d01,d02,d12⟩:=F'.out
        have g:=g'.out
        refine hK _ _ ⟨by simpa using hl,(upd (upd (upd X 29 (ptv c)) 31 (ptv a)) 32 (ptv (add c a))),rfl,Nat.le_trans hN hb.size,qh_in g (hb.mono hN) NL.out.1 NL.out.2.1 NL.out.2.2.1 NL.out.2.2.2,p0.k,p1.k,p2.k,p3.k,p4.k,p5.k,p6.k,p7.k,p8.k,p9.k,p10.k,PV.made rfl,p12.k,PV.made rfl,PV.made rfl,qa0.keep (by decide) (by decide) (fun _ _ h=>own_below h hb),qa1.keep (by decide) (by decide) (fun _ _ h=>own_below h hb),qa2.keep (by decide) (by decide) (fun _ _ h=>own_below h hb),d01.k,d02.k,d12.k⟩
      · rintro l A W ⟨hl,X,rfl,hN,g,F⟩ h1 hp K hK
        rw [qr2T_eq]
        have g':=Lib.hid g
        have F':=Lib.hid F;clear F g
        have hN':=Lib.hid hN;clear hN;have hl':=Lib.hid hl;clear hl;have h1':=Lib.hid h1;clear h1;have hp':=Lib.hid hp;clear hp;have hK':=Lib.hid hK;clear hK
        go_simp
        have hK:=hK'.out;have hN:=hN'.out;have hl:=hl'.out;have h1:=h1'.out
        obtain ⟨p0,p1,p2,p3,p4,p5,p6,p7,p8,p9,p10,p11,p12,p13,p14,qa0,qa1,qa2,d01,d02,d12⟩:=F'.out
        have g:=g'.out
        refine hK _ _ ⟨by simpa using hl,(upd X 6 (.pointer (some ⟨W.heap.size,0,none⟩))),rfl,(by simp;omega),qh_in g (((Below.refl _ W).alloc (Nat.le_refl _) _).mono hN) NL.out.1 NL.out.2.1 NL.out.2.2.1 NL.out.2.2.2,p0.k,p1.k,p2.k,p3.k,p4.k,p5.k,p6.k,p7.k,p8.k,p9.k,p10.k,p11.k,p12.k,p13.k,p14.k,qa0.made (by decide) (by rw [hl];decide) h1 hN (own_new W (0,0,0) _),qa1.keep (by decide) (by decide) (fun _ _ h=>own_alloc h _),qa2.keep (by decide) (by decide) (fun _ _ h=>own_alloc h _),DD.mk1 qa1 (by decide),DD.mk1 qa2 (by decide),d12.k⟩
      · rintro l A W ⟨hl,X,rfl,hN,g,F⟩ h1 hp K hK
        rw [qr2T_eq]
        have g':=Lib.hid g
        have F':=Lib.hid F;clear F g
        have hN':=Lib.hid hN;clear hN;have hl':=Lib.hid hl;clear hl;have h1':=Lib.hid h1;clear h1;have hp':=Lib.hid hp;clear hp;have hK':=Lib.hid hK;clear hK
        go_simp
        have hK:=hK'.out;have hN:=hN'.out;have hl:=hl'.out;have h1:=h1'.out
        obtain ⟨p0,p1,p2,p3,p4,p5,p6,p7,p8,p9,p10,p11,p12,p13,p14,qa0,qa1,qa2,d01,d02,d12⟩:=F'.out
        have g:=g'.out
        refine hK _ _ ⟨by simpa using hl,(upd X 7 (.pointer (some ⟨W.heap.size,0,none⟩))),rfl,(by simp;omega),qh_in g (((Below.refl _ W).alloc (Nat.le_refl _) _).mono hN) NL.out.1 NL.out.2.1 NL.out.2.2.1 NL.out.2.2.2,p0.k,p1.k,p2.k,p3.k,p4.k,p5.k,p6.k,p7.k,p8.k,p9.k,p10.k,p11.k,p12.k,p13.k,p14.k,qa0.keep (by decide) (by decide) (fun _ _ h=>own_alloc h _),qa1.made (by decide) (by rw [hl];decide) h1 hN (own_new W (0,0,0) _),qa2.keep (by decide) (by decide) (fun _ _ h=>own_alloc h _),DD.mk2 qa0 (by decide),d02.k,DD.mk1 qa2 (by decide)⟩
      · rintro l A W ⟨hl,X,rfl,hN,g,F⟩ h1 hp K hK
        rw [qr2T_eq]
        have g':=Lib.hid g
        have F':=Lib.hid F;clear F g
        have hN':=Lib.hid hN;clear hN;have hl':=Lib.hid hl;clear hl;have h1':=Lib.hid h1;clear h1;have hp':=Lib.hid hp;clear hp;have hK':=Lib.hid hK;clear hK
        go_simp
        have hK:=hK'.out;have hN:=hN'.out;have hl:=hl'.out;have h1:=h1'.out
        obtain ⟨p0,p1,p2,p3,p4,p5,p6,p7,p8,p9,p10,p11,p12,p13,p14,qa0,qa1,qa2,d01,d02,d12⟩:=F'.out
        have g:=g'.out
        refine hK _ _ ⟨by simpa using hl,(upd X 8 (.pointer (some ⟨W.heap.size,0,none⟩))),rfl,(by simp;omega),qh_in g (((Below.refl _ W).alloc (Nat.le_refl _) _).mono hN) NL.out.1 NL.out.2.1 NL.out.2.2.1 NL.out.2.2.2,p0.k,p1.k,p2.k,p3.k,p4.k,p5.k,p6.k,p7.k,p8.k,p9.k,p10.k,p11.k,p12.k,p13.k,p14.k,qa0.keep (by decide) (by decide) (fun _ _ h=>own_alloc h _),qa1.keep (by decide) (by decide) (fun _ _ h=>own_alloc h _),qa2.made (by decide) (by rw [hl];decide) h1 hN (own_new W (0,0,0) _),d01.k,DD.mk2 qa0 (by decide),DD.mk2 qa1 (by decide)⟩
      · rintro l A W ⟨hl,X,rfl,hN,g,F⟩ h1 hp K hK
        have la:=hp ⟨15,.data⟩ (by simp) rfl
        have e:=F.2.2.2.2.1 (hp ⟨4,.data⟩ (by simp) rfl)
        obtain ⟨b',v',e2,hb',ow,_⟩:=F.2.2.2.2.2.2.2.2.2.2.2.2.2.2.2.1.2 la
        obtain ⟨o0,o1,o2,o3,o4,o5,o6⟩:=id ow
        rw [qr2T_eq]
        have g':=Lib.hid g
        have F':=Lib.hid F;clear F g
        have hN':=Lib.hid hN;clear hN;have hl':=Lib.hid hl;clear hl;have h1':=Lib.hid h1;clear h1;have hp':=Lib.hid hp;clear hp;have hK':=Lib.hid hK;clear hK
        have la':=Lib.hid la;clear la;have hb'':=Lib.hid hb';clear hb';have ow':=Lib.hid ow;clear ow
        go_simp
        have hK:=hK'.out;have hN:=hN'.out;have hl:=hl'.out;have h1:=h1'.out
        obtain ⟨p0,p1,p2,p3,p4,p5,p6,p7,p8,p9,p10,p11,p12,p13,p14,qa0,qa1,qa2,d01,d02,d12⟩:=F'.out
        have g:=g'.out
        have la:=la'.out;have hb':=hb''.out;have ow:=ow'.out
        refine hK _ _ ⟨by simpa using hl,(upd (upd X 6 (.pointer (some ⟨b',0,none⟩))) 22 (ptv (add a b))),rfl,(by simpa using hN),qh_in g (below_set3 _ _ _ hb') NL.out.1 NL.out.2.1 NL.out.2.2.1 NL.out.2.2.2,p0.k,p1.k,p2.k,p3.k,PV.made rfl,p5.k,p6.k,p7.k,p8.k,p9.k,p10.k,p11.k,p12.k,p13.k,p14.k,QA.put (by decide) la rfl hb' (own_put ow _),qa1.other (by decide) (by decide) (fun z=>by have dd:=d01 la z;rw [e2] at dd;exact dd.symm) (fun _ _ n h=>own_set3 _ _ _ n h),qa2.other (by decide) (by decide) (fun z=>by have dd:=d02 la z;rw [e2] at dd;exact dd.symm) (fun _ _ n h=>own_set3 _ _ _ n h),(by have z:=d01.keep (i:=18) (by decide) (by decide);rw [e2] at z;exact z),(by have z:=d02.keep (i:=18) (by decide) (by decide);rw [e2] at z;exact z),d12.k⟩
      · rintro l A W ⟨hl,X,rfl,hN,g,F⟩ h1 hp K hK
        have la:=hp ⟨16,.data⟩ (by simp) rfl
        have e:=F.2.2.2.2.2.2.2.2.2.1 (hp ⟨9,.data⟩ (by simp) rfl)
        obtain ⟨b',v',e2,hb',ow,_⟩:=F.2.2.2.2.2.2.2.2.2.2.2.2.2.2.2.2.1.2 la
        obtain ⟨o0,o1,o2,o3,o4,o5,o6⟩:=id ow
        rw [qr2T_eq]
        have g':=Lib.hid g
        have F':=Lib.hid F;clear F g
        have hN':=Lib.hid hN;clear hN;have hl':=Lib.hid hl;clear hl;have h1':=Lib.hid h1;clear h1;have hp':=Lib.hid hp;clear hp;have hK':=Lib.hid hK;clear hK
        have la':=Lib.hid la;clear la;have hb'':=Lib.hid hb';clear hb';have ow':=Lib.hid ow;clear ow
        go_simp
        have hK:=hK'.out;have hN:=hN'.out;have hl:=hl'.out;have h1:=h1'.out
        obtain ⟨p0,p1,p2,p3,p4,p5,p6,p7,p8,p9,p10,p11,p12,p13,p14,qa0,qa1,qa2,d01,d02,d12⟩:=F'.out
        have g:=g'.out
        have la:=la'.out;have hb':=hb''.out;have ow:=ow'.out
        refine hK _ _ ⟨by simpa using hl,(upd (upd X 7 (.pointer (some ⟨b',0,none⟩))) 27 (ptv (add b c))),rfl,(by simpa using hN),qh_in g (below_set3 _ _ _ hb') NL.out.1 NL.out.2.1 NL.out.2.2.1 NL.out.2.2.2,p0.k,p1.k,p2.k,p3.k,p4.k,p5.k,p6.k,p7.k,p8.k,PV.made rfl,p10.k,p11.k,p12.k,p13.k,p14.k,qa0.other (by decide) (by decide) (fun z=>by have dd:=d01 z la;rw [e2] at dd;exact dd) (fun _ _ n h=>own_set3 _ _ _ n h),QA.put (by decide) la rfl hb' (own_put ow _),qa2.other (by decide) (by decide) (fun z=>by have dd:=d12 la z;rw [e2] at dd;exact dd.symm) (fun _ _ n h=>own_set3 _ _ _ n h),(by have z:=d01.keep (i:=19) (by decide) (by decide);rw [e2] at z;exact z),d02.k,(by have z:=d12.keep (i:=19) (by decide) (by decide);rw [e2] at z;exact z)⟩
      · rintro l A W ⟨hl,X,rfl,hN,g,F⟩ h1 hp K hK
        have la:=hp ⟨17,.data⟩ (by simp) rfl
        have e:=F.2.2.2.2.2.2.2.2.2.2.2.2.2.2.1 (hp ⟨14,.data⟩ (by simp) rfl)
        obtain ⟨b',v',e2,hb',ow,_⟩:=F.2.2.2.2.2.2.2.2.2.2.2.2.2.2.2.2.2.1.2 la
        obtain ⟨o0,o1,o2,o3,o4,o5,o6⟩:=id ow
        rw [qr2T_eq]
        have g':=Lib.hid g
        have F':=Lib.hid F;clear F g
        have hN':=Lib.hid hN;clear hN;have hl':=Lib.hid hl;clear hl;have h1':=Lib.hid h1;clear h1;have hp':=Lib.hid hp;clear hp;have hK':=Lib.hid hK;clear hK
        have la':=Lib.hid la;clear la;have hb'':=Lib.hid hb';clear hb';have ow':=Lib.hid ow;clear ow
        go_simp
        have hK:=hK'.out;have hN:=hN'.out;have hl:=hl'.out;have h1:=h1'.out
        obtain ⟨p0,p1,p2,p3,p4,p5,p6,p7,p8,p9,p10,p11,p12,p13,p14,qa0,qa1,qa2,d01,d02,d12⟩:=F'.out
        have g:=g'.out
        have la:=la'.out;have hb':=hb''.out;have ow:=ow'.out
        refine hK _ _ ⟨by simpa using hl,(upd (upd X 8 (.pointer (some ⟨b',0,none⟩))) 32 (ptv (add c a))),rfl,(by simpa using hN),qh_in g (below_set3 _ _ _ hb') NL.out.1 NL.out.2.1 NL.out.2.2.1 NL.out.2.2.2,p0.k,p1.k,p2.k,p3.k,p4.k,p5.k,p6.k,p7.k,p8.k,p9.k,p10.k,p11.k,p12.k,p13.k,PV.made rfl,qa0.other (by decide) (by decide) (fun z=>by have dd:=d02 z la;rw [e2] at dd;exact dd) (fun _ _ n h=>own_set3 _ _ _ n h),qa1.other (by decide) (by decide) (fun z=>by have dd:=d12 z la;rw [e2] at dd;exact dd) (fun _ _ n h=>own_set3 _ _ _ n h),QA.put (by decide) la rfl hb' (own_put ow _),d01.k,(by have z:=d02.keep (i:=20) (by decide) (by decide);rw [e2] at z;exact z),(by have z:=d12.keep (i:=20) (by decide) (by decide);rw [e2] at z;exact z)⟩
    · rintro l A W' ⟨hl,X,rfl,hN,g,p0,p1,p2,p3,p4,p5,p6,p7,p8,p9,p10,p11,p12,p13,p14,qa0,qa1,qa2,d01,d02,d12⟩ hr
      have l0:=ready_end hr 0 (by rw [hl];decide) rfl (fun e he _=>by
        simp at he
        (try (repeat (rcases he with rfl | he;· assumption)))
        (try (first | (subst he;assumption) | exact he.elim)))
      have l1:=ready_end hr 1 (by rw [hl];decide) rfl (fun e he _=>by
        simp at he
        (try (repeat (rcases he with rfl | he;· assumption)))
        (try (first | (subst he;assumption) | exact he.elim)))
      have l2:=ready_end hr 2 (by rw [hl];decide) rfl (fun e he _=>by
        simp at he
        (try (repeat (rcases he with rfl | he;· assumption)))
        (try (first | (subst he;assumption) | exact he.elim)))
      have l3:=ready_end hr 3 (by rw [hl];decide) rfl (fun e he _=>by
        simp at he
        (try (repeat (rcases he with rfl | he;· assumption)))
        (try (first | (subst he;assumption) | exact he.elim)))
      have l4:=ready_end hr 4 (by rw [hl];decide) rfl (fun e he _=>by
        simp at he
        (try (repeat (rcases he with rfl | he;· assumption)))
        (try (first | (subst he;assumption) | exact he.elim)))
      have l5:=ready_end hr 5 (by rw [hl];decide) rfl (fun e he _=>by
        simp at he
        (try (repeat (rcases he with rfl | he;· assumption)))
        (try (first | (subst he;assumption) | exact he.elim)))
      have l6:=ready_end hr 6 (by rw [hl];decide) rfl (fun e he _=>by
        simp at he
        (try (repeat (rcases he with rfl | he;· assumption)))
        (try (first | (subst he;assumption) | exact he.elim)))
      have l7:=ready_end hr 7 (by rw [hl];decide) rfl (fun e he _=>by
        simp at he
        (try (repeat (rcases he with rfl | he;· assumption)))
        (try (first | (subst he;assumption) | exact he.elim)))
      have l8:=ready_end hr 8 (by rw [hl];decide) rfl (fun e he _=>by
        simp at he
        (try (repeat (rcases he with rfl | he;· assumption)))
        (try (first | (subst he;assumption) | exact he.elim)))
      have l9:=ready_end hr 9 (by rw [hl];decide) rfl (fun e he _=>by
        simp at he
        (try (repeat (rcases he with rfl | he;· assumption)))
        (try (first | (subst he;assumption) | exact he.elim)))
      have l10:=ready_end hr 10 (by rw [hl];decide) rfl (fun e he _=>by
        simp at he
        (try (repeat (rcases he with rfl | he;· assumption)))
        (try (first | (subst he;assumption) | exact he.elim)))
      have l11:=ready_end hr 11 (by rw [hl];decide) rfl (fun e he _=>by
        simp at he
        (try (repeat (rcases he with rfl | he;· assumption)))
        (try (first | (subst he;assumption) | exact he.elim)))
      have l12:=ready_end hr 12 (by rw [hl];decide) rfl (fun e he _=>by
        simp at he
        (try (repeat (rcases he with rfl | he;· assumption)))
        (try (first | (subst he;assumption) | exact he.elim)))
      have l13:=ready_end hr 13 (by rw [hl];decide) rfl (fun e he _=>by
        simp at he
        (try (repeat (rcases he with rfl | he;· assumption)))
        (try (first | (subst he;assumption) | exact he.elim)))
      have l14:=ready_end hr 14 (by rw [hl];decide) rfl (fun e he _=>by
        simp at he
        (try (repeat (rcases he with rfl | he;· assumption)))
        (try (first | (subst he;assumption) | exact he.elim)))
      have l15:=ready_end hr 15 (by rw [hl];decide) rfl (fun e he _=>by
        simp at he
        (try (repeat (rcases he with rfl | he;· assumption)))
        (try (first | (subst he;assumption) | exact he.elim)))
      have l16:=ready_end hr 16 (by rw [hl];decide) rfl (fun e he _=>by
        simp at he
        (try (repeat (rcases he with rfl | he;· assumption)))
        (try (first | (subst he;assumption) | exact he.elim)))
      have l17:=ready_end hr 17 (by rw [hl];decide) rfl (fun e he _=>by
        simp at he
        (try (repeat (rcases he with rfl | he;· assumption)))
        (try (first | (subst he;assumption) | exact he.elim)))
      have l18:=ready_end hr 18 (by rw [hl];decide) rfl (fun e he _=>by
        simp at he
        (try (repeat (rcases he with rfl | he;· assumption)))
        (try (first | (subst he;assumption) | exact he.elim)))
      have l19:=ready_end hr 19 (by rw [hl];decide) rfl (fun e he _=>by
        simp at he
        (try (repeat (rcases he with rfl | he;· assumption)))
        (try (first | (subst he;assumption) | exact he.elim)))
      have l20:=ready_end hr 20 (by rw [hl];decide) rfl (fun e he _=>by
        simp at he
        (try (repeat (rcases he with rfl | he;· assumption)))
        (try (first | (subst he;assumption) | exact he.elim)))
      obtain ⟨x',vx,e6,nx,ox,tx⟩:=qa0.2 l15
      obtain ⟨y',vy,e7,ny,oy,ty⟩:=qa1.2 l16
      obtain ⟨z',vz,e8,nz,oz,tz⟩:=qa2.2 l17
      obtain rfl:=tx l18
      obtain rfl:=ty l19
      obtain rfl:=tz l20
      have hT:qr2T w a b c x y z X=#[pnv a b c,.pointer (some ⟨w.heap.size,0,none⟩),.pointer (some ⟨w.heap.size + 1,0,none⟩),.pointer (some ⟨x,0,none⟩),.pointer (some ⟨y,0,none⟩),.pointer (some ⟨z,0,none⟩),.pointer (some ⟨x',0,none⟩),.pointer (some ⟨y',0,none⟩),.pointer (some ⟨z',0,none⟩),.pointer (some ⟨w.heap.size,0,none⟩),ptv a,ptv (tim 2 a),.pointer (some ⟨w.heap.size,3,none⟩),ptv b,ptv (tim 2 b),.pointer (some ⟨w.heap.size,6,none⟩),ptv c,ptv (tim 2 c),.pointer (some ⟨w.heap.size,0,none⟩),ptv a,.pointer (some ⟨w.heap.size,3,none⟩),ptv b,ptv (add a b),.pointer (some ⟨w.heap.size,3,none⟩),ptv b,.pointer (some ⟨w.heap.size,6,none⟩),ptv c,ptv (add b c),.pointer (some ⟨w.heap.size,6,none⟩),ptv c,.pointer (some ⟨w.heap.size,0,none⟩),ptv a,ptv (add c a),undef,undef,undef,undef,undef,undef,undef,undef,undef,undef,undef,undef,undef,undef,undef,undef,undef]:=by
        simp only [qr2T,e6,e7,e8,p0 l0,p1 l1,p2 l2,p3 l3,p4 l4,p5 l5,p6 l6,p7 l7,p8 l8,p9 l9,p10 l10,p11 l11,p12 l12,p13 l13,p14 l14]
      rw [hT]
      exact hK2 _ _ (qr_rest a b c x y z x' y' z' w W' g ox oy oz)
end Go.Proofs.YtgchcnpgjfoadaaGreat
namespace Go.Proofs.YtgchcnpgjfoadaaGreat
open Go.ChangeShapes Go.WideShapes Go.RowKit
open Sh
open Go.Shelf
attribute [local go_sem] Oper.semAt_some
def ckP (d:Nat) (t:P9):Nat→List P9
  | 0=>[]
  | 1=>cutP d (qr0 t)
  | 2=>cutP d (qr0 t) ++ cutP d (qr1 t)
  | 3=>cutP d (qr0 t) ++ (cutP d (qr1 t) ++ cutP d (qr2 t))
  | _=>cutP (d + 1) t
def qrk (t:P9):Nat→P9
  | 0=>qr0 t
  | 1=>qr1 t
  | 2=>qr2 t
  | _=>qr3 t
theorem ckP_succ (d:Nat) (t:P9) {k:Nat} (h:k < 4):ckP d t (k + 1)=ckP d t k ++ cutP d (qrk t k):=by
  have:k=0∨k=1∨k=2∨k=3:=by omega
  rcases this with rfl | rfl | rfl | rfl
  · rfl
  · rfl
  · show _ ++ (_ ++ _)=(_ ++ _) ++ _
    rw [List.append_assoc]
    rfl
  · show _ ++ (_ ++ (_ ++ _))=(_ ++ (_ ++ _)) ++ _
    rw [List.append_assoc,List.append_assoc]
    rfl
theorem ckP_len (d:Nat) (t:P9) {k:Nat} (h:k≤4):(ckP d t k).length=k * 4 ^ d:=by
  induction k with
  | zero=>simp [ckP]
  | succ k ih =>
    rw [ckP_succ d t (by omega),List.length_append,ih (by omega),cutP_len,Nat.succ_mul]
theorem ckP_pre (d:Nat) (t:P9) {k:Nat} (h:k < 4) {q:List P9} (hq:q <+: cutP d (qrk t k)):ckP d t k ++ q <+: cutP (d + 1) t:=by
  obtain ⟨r,hr⟩:=hq
  have:k=0∨k=1∨k=2∨k=3:=by omega
  have e:cutP (d + 1) t=cutP d (qr0 t) ++ (cutP d (qr1 t) ++ (cutP d (qr2 t) ++ cutP d (qr3 t))):=rfl
  rcases this with rfl | rfl | rfl | rfl
  · exact ⟨r ++ (cutP d (qr1 t) ++ (cutP d (qr2 t) ++ cutP d (qr3 t))),by rw [e];show _=cutP d (qrk t 0) ++ _;rw [← hr];simp [ckP,List.append_assoc]⟩
  · exact ⟨r ++ (cutP d (qr2 t) ++ cutP d (qr3 t)),by rw [e];show _=_ ++ (cutP d (qrk t 1) ++ _);rw [← hr];simp [ckP,List.append_assoc]⟩
  · exact ⟨r ++ cutP d (qr3 t),by rw [e];show _=_ ++ (_ ++ (cutP d (qrk t 2) ++ _));rw [← hr];simp [ckP,List.append_assoc]⟩
  · exact ⟨r,by rw [e];show _=_ ++ (_ ++ (_ ++ (cutP d (qrk t 3))));rw [← hr];simp [ckP,List.append_assoc]⟩
theorem qrk_bd {B:Int} {t:P9} (h:BdT B t) (k:Nat):BdT (2 * B) (qrk t k):=by
  unfold qrk
  split
  · exact qr0_bd h
  · exact qr1_bd h
  · exact qr2_bd h
  · exact qr3_bd h
abbrev ar4 (p q r s:P9):Value:=.agg #[.int .i64 p.1.1,.int .i64 p.1.2.1,.int .i64 p.1.2.2,.int .i64 p.2.1.1,.int .i64 p.2.1.2.1,.int .i64 p.2.1.2.2,.int .i64 p.2.2.1,.int .i64 p.2.2.2.1,.int .i64 p.2.2.2.2,.int .i64 q.1.1,.int .i64 q.1.2.1,.int .i64 q.1.2.2,.int .i64 q.2.1.1,.int .i64 q.2.1.2.1,.int .i64 q.2.1.2.2,.int .i64 q.2.2.1,.int .i64 q.2.2.2.1,.int .i64 q.2.2.2.2,.int .i64 r.1.1,.int .i64 r.1.2.1,.int .i64 r.1.2.2,.int .i64 r.2.1.1,.int .i64 r.2.1.2.1,.int .i64 r.2.1.2.2,.int .i64 r.2.2.1,.int .i64 r.2.2.2.1,.int .i64 r.2.2.2.2,.int .i64 s.1.1,.int .i64 s.1.2.1,.int .i64 s.1.2.2,.int .i64 s.2.1.1,.int .i64 s.2.1.2.1,.int .i64 s.2.1.2.2,.int .i64 s.2.2.1,.int .i64 s.2.2.2.1,.int .i64 s.2.2.2.2]
abbrev p9v (t:P9):Value:=pnv t.1 t.2.1 t.2.2
theorem ar4_0 (p q r s:P9) (w:World):(Instr.index 177 (ar4 p q r s) (.int .i64 0)).run Tryz.prog w=.ok (p9v p) w:=by kernel_rfl
theorem ar4_1 (p q r s:P9) (w:World):(Instr.index 177 (ar4 p q r s) (.int .i64 1)).run Tryz.prog w=.ok (p9v q) w:=by kernel_rfl
theorem ar4_2 (p q r s:P9) (w:World):(Instr.index 177 (ar4 p q r s) (.int .i64 2)).run Tryz.prog w=.ok (p9v r) w:=by kernel_rfl
theorem ar4_3 (p q r s:P9) (w:World):(Instr.index 177 (ar4 p q r s) (.int .i64 3)).run Tryz.prog w=.ok (p9v s) w:=by kernel_rfl
theorem index_k (t:P9) {k:Nat} (h:k < 4) (w:World):(Instr.index 177 (ar4 (qr0 t) (qr1 t) (qr2 t) (qr3 t)) (.int .i64 (k:Int))).run Tryz.prog w=.ok (p9v (qrk t k)) w:=by
  have:k=0∨k=1∨k=2∨k=3:=by omega
  rcases this with rfl | rfl | rfl | rfl
  · exact ar4_0 _ _ _ _ w
  · exact ar4_1 _ _ _ _ w
  · exact ar4_2 _ _ _ _ w
  · exact ar4_3 _ _ _ _ w
def VisR (n₀:Nat) (J Jx:List P9→World→Prop) (pre l:List P9) (W:World) (e:Ending) (W':World):Prop :=
  (e=.returned (.bool true)∧J (pre ++ l) W'∧Below n₀ W W')∨(e=.returned (.bool false)∧∃ q,q <+: l∧Jx (pre ++ q) W')
set_option maxRecDepth 100000 in
set_option maxHeartbeats 4000000 in
theorem visit_in (l n₀ N:Nat) (J Jx:List P9→World→Prop) (hJ:∀ s W W',J s W→Below W.heap.size W W'→J s W')
    (hY:∀ m pre x W,J pre W→pre.length < N→YieldAt Fence.wide m Tryz.prog l #[p9v x] W fun e W' =>
      (e=.returned (.bool true)∧J (pre ++ [x]) W'∧Below n₀ W W')∨(e=.returned (.bool false)∧Jx (pre ++ [x]) W')) :
    ∀ (d n:Nat) (D B:Int) (t:P9) (pre:List P9) (W:World),D=(d:Int)→d≤3→BdT B t→2 ^ d * B≤2305843009213693952→n₀≤W.heap.size→J pre W→pre.length + 4 ^ d≤N →
      CallsIn Fence.wide n Tryz.prog 135 #[p9v t,.int .i64 D,.func (.yield l) #[] #[]] W (VisR n₀ J Jx pre (cutP d t) W):=by
  intro d
  induction d with
  | zero =>
    rintro n D B ⟨a,b,c⟩ pre W rfl _ _ _ hn h0 hN
    have hB0:Below W.heap.size W (W.alloc (pnc a b c 59)):=(Below.refl _ _).alloc (Nat.le_refl _) _
    obtain ⟨fn,tmps,assign,body,hy,hR⟩:=hY (n - 1) pre (a,b,c) (W.alloc (pnc a b c 59)) (hJ _ _ _ h0 hB0) (by have:=hN;simp at this;omega)
    have HJ:=Lib.hid hJ
    clear hJ hY h0 hN
    refine callsIn_of_wp Tryz.func135 rfl trivial ?_ rfl
    simp only [Tryz.ntmps135,List.size_toArray,List.length_cons,List.length_nil,Nat.reduceAdd,Nat.reduceSub,Array.replicate_succ,Array.replicate_zero,List.push_toArray,List.append_toArray,List.nil_append,List.cons_append]
    gi_wp2_with ((first | refine ⟨trivial,fun h=>(by cases (show false=true from h)),?_⟩ | refine ⟨fun h=>(by cases (show false=true from h)),?_⟩ | skip);refine hR.mono ?_;clear hR;rintro e W2 (⟨rfl,h1,h2⟩ | ⟨rfl,h1⟩))
    · go_ret
      exact .inl ⟨rfl,h1,(hB0.mono hn).trans h2⟩
    · go_ret
      exact .inr ⟨rfl,_,List.prefix_refl _,h1⟩
  | succ d ih =>
    rintro n D B ⟨a,b,c⟩ pre W hD hd hB hb hn h0 hN
    have p2:(2:Int) ^ (d + 1) * B=2 ^ d * (2 * B):=by rw [Int.pow_succ,Int.mul_assoc]
    have p4:4 ^ (d + 1)=4 * 4 ^ d:=by rw [Nat.pow_succ];omega
    have B60:BdT 1152921504606846976 (a,b,c):=by
      refine hB.mono ?_
      have d3:d=0∨d=1∨d=2:=by omega
      have b0:0≤B:=by have:=hB.1.1;have:=hB.1.2.1;omega
      rcases d3 with rfl | rfl | rfl <;> simp at hb <;> omega
    have QU:=Lib.hid (fun (m:Nat) (W:World)=>(callsIn_wide (n:=m)).2 (show Calls Tryz.prog 145 #[pnv a b c] W fun e w'=>e=.returned (ar4 (qr0 (a,b,c)) (qr1 (a,b,c)) (qr2 (a,b,c)) (qr3 (a,b,c)))∧Below W.heap.size W w' from quarters_any a b c W B60.1 B60.2.1 B60.2.2))
    have IX:=Lib.hid (fun (k:Nat) (h:k < 4) (w:World)=>index_k (a,b,c) h w)
    have IH:=Lib.hid (fun (m k:Nat) (W1:World) (hk:k < 4) (hn1:n₀≤W1.heap.size) (hj:J (pre ++ ckP d (a,b,c) k) W1)=>ih m (D - 1) (2 * B) (qrk (a,b,c) k) (pre ++ ckP d (a,b,c) k) W1 (by omega) (by omega) (qrk_bd hB k) (by omega) hn1 hj (by
      rw [List.length_append,ckP_len d _ (by omega)]
      have:k * 4 ^ d≤3 * 4 ^ d:=Nat.mul_le_mul_right _ (by omega)
      omega))
    have D1:1≤D:=by omega
    have D2:D≤3:=by omega
    have D3:(D == 0)=false:=beq_eq_false_iff_ne.2 (by omega)
    have HJ:=Lib.hid hJ
    have H0:=Lib.hid h0
    have HN:=Lib.hid hn
    clear hJ hY h0 hN ih hD hd hB hb p2 p4 B60 hn
    refine callsIn_of_wp Tryz.func135 rfl trivial ?_ rfl
    simp only [Tryz.ntmps135,List.size_toArray,List.length_cons,List.length_nil,Nat.reduceAdd,Nat.reduceSub,Array.replicate_succ,Array.replicate_zero,List.push_toArray,List.append_toArray,List.nil_append,List.cons_append]
    gi_wp2_with ((first | refine ⟨trivial,fun h=>(by cases (show false=true from h)),?_⟩ | refine ⟨fun h=>(by cases (show false=true from h)),?_⟩ | skip);gi_at_call 145;refine (QU.out _ _).mono ?_;rintro e W1 ⟨rfl,hb1⟩)
    have ST:Hid (J (pre ++ ckP d (a,b,c) 0) W1∧Below n₀ W W1):=by
      have z:=(((Below.refl _ W).alloc (Nat.le_refl _) (pnc a b c 59)).trans (hb1.mono (by simp)))
      exact Lib.hid ⟨by have:=HJ.out _ _ _ H0.out z;simpa [ckP] using this,z.mono HN.out⟩
    clear hb1
    change _ at ST
    gi_loopw [16] (fun kv wr=>∃ k:Nat,k≤4∧kv=.int .i64 k∧J (pre ++ ckP d (a,b,c) k) wr∧Below n₀ W wr) (fun kv _=>4 - (intOf kv).toNat)
    case atStart=>exact ⟨0,by omega,rfl,ST.out⟩
    case round =>
      clear ST
      obtain ⟨k,hk,rfl,hj,hw⟩:=hrel
      by_cases hlt:k < 4
      · have hk1:(k:Int) < 4:=by omega
        have hk0:0≤(k:Int):=by omega
        have ix:=IX.out k hlt
        have sz:n₀≤wr.heap.size:=Nat.le_trans HN.out hw.size
        have R:=Lib.hid (IH.out (n - 1) k (wr.alloc (pnc (qrk (a,b,c) k).1 (qrk (a,b,c) k).2.1 (qrk (a,b,c) k).2.2 59)) hlt (by simp;omega) (HJ.out _ _ _ hj ((Below.refl _ _).alloc (Nat.le_refl _) _)))
        have NX:=Lib.hid (ckP_succ d (a,b,c) hlt)
        have PX:=Lib.hid (fun q h=>ckP_pre d (a,b,c) hlt (q:=q) h)
        have HW:=Lib.hid hw
        have SZ:=Lib.hid sz
        clear hj hw sz IH IX QU
        generalize qrk (a,b,c) k=p at *
        gi_wp2_with ((first | refine ⟨trivial,fun h=>(by cases (show false=true from h)),?_⟩ | refine ⟨fun h=>(by cases (show false=true from h)),?_⟩ | skip);gi_at_call 135;refine R.out.mono ?_;rintro e W2 (⟨rfl,h1,h2⟩ | ⟨rfl,q,hq,h1⟩))
        · go_roundw
          case rel=>exact ⟨k + 1,by omega,by go_num,by rw [NX.out,← List.append_assoc];exact h1,HW.out.trans ((((Below.refl _ _).alloc (Nat.le_refl _) _).mono SZ.out).trans h2)⟩
          case measure=>simp [intOf];omega
        · refine bodyPost_ret (results_tmp rfl _ _ _) rfl ?_
          exact .inr ⟨rfl,_,PX.out q hq,by rw [← List.append_assoc];exact h1⟩
      · obtain rfl:k=4:=by omega
        gi_wp2
        go_ret
        exact .inl ⟨rfl,hj,hw⟩
end Go.Proofs.YtgchcnpgjfoadaaGreat
