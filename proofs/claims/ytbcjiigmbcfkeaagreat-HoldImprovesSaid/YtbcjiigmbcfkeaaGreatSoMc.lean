import Derived.Test.YtbcjiigmbcfkeaaGreatSoMb
import Derived.Test.YtbcjiigmbcfkeaaGreatSo32
import Derived.Deep.DeepCutAuto
namespace Go.Proofs.YtbcjiigmbcfkeaaGreat
open Go.ChangeShapes Go.WideShapes Go.RowKit
open Sh
attribute [local go_sem 1000000] run_min_mn run_max_mx
end Go.Proofs.YtbcjiigmbcfkeaaGreat
namespace Go.Proofs.YtbcjiigmbcfkeaaGreat
open Go.ChangeShapes Go.WideShapes Go.RowKit
open Sh
theorem isq_mono8 {a b:Nat} (h:a≤b):Rt.isq a≤Rt.isq b:=by
  refine Classical.byContradiction fun c=>?_
  have h1:=(Rt.isq_spec a).1
  have h2:=(Rt.isq_spec b).2
  have:=Nat.mul_le_mul (show Rt.isq b+1≤Rt.isq a by omega) (show Rt.isq b+1≤Rt.isq a by omega)
  omega
theorem qUp_or (t n:Nat):qUp t n 1=Rt.isq (QT t n 1)∨qUp t n 1=Rt.isq (QT t n 1)+1:=by
  unfold qUp Rt.csq
  split
  · split
    · exact Or.inl rfl
    · exact Or.inr rfl
  · exact Or.inr rfl
theorem invR_val {m k:Int} (m1:1≤m) (m2:m≤1099511627776) (k1:1≤k) (k2:k≤8) :
    ∃ r u:Nat,invR m k=(((r:Int),(u:Int)),0)∧r=Rt.isq (k.toNat*1048576*(k.toNat*1048576) / m.toNat)∧r≤u∧u≤8388609:=by
  have hk:k.toNat≤8:=by omega
  have h1:k.toNat*1048576*(k.toNat*1048576)≤8*1048576*(8*1048576):=Nat.mul_le_mul (Nat.mul_le_mul_right _ hk) (Nat.mul_le_mul_right _ hk)
  have h2:=QT_le (k.toNat*1048576*(k.toNat*1048576)) m.toNat 1
  have hq:=qUp_or (k.toNat*1048576*(k.toNat*1048576)) m.toNat
  have h3:Rt.isq (QT (k.toNat*1048576*(k.toNat*1048576)) m.toNat 1)≤8388608:=by
    have hs:=(Rt.isq_spec (QT (k.toNat*1048576*(k.toNat*1048576)) m.toNat 1)).1
    refine Classical.byContradiction fun c=>?_
    have:=Nat.mul_le_mul (show 8388609≤Rt.isq (QT (k.toNat*1048576*(k.toNat*1048576)) m.toNat 1) by omega) (show 8388609≤Rt.isq (QT (k.toNat*1048576*(k.toNat*1048576)) m.toNat 1) by omega)
    omega
  refine ⟨_,qUp (k.toNat*1048576*(k.toNat*1048576)) m.toNat 1,?_,rfl,?_,?_⟩
  · unfold invR
    rw [if_pos ⟨m1,m2,k1,k2⟩]
    unfold belowR
    rw [Sp.told_yes (Sp.vld_iff.2 ⟨by omega,by omega,by omega⟩)]
    rfl
  · show Rt.isq (QT (k.toNat*1048576*(k.toNat*1048576)) m.toNat 1)≤_
    omega
  · omega
theorem invR_mono {m f k:Int} (m1:1≤m) (mf:m≤f) (f2:f≤1099511627776) (k1:1≤k) (k2:k≤8):(invR f k).1.1≤(invR m k).1.2:=by
  obtain ⟨r,u,e,er,_,_⟩:=invR_val (by omega:1≤f) f2 k1 k2
  obtain ⟨r',u',e',er',h',_⟩:=invR_val m1 (by omega) k1 k2
  rw [e,e']
  have:r≤r':=by
    rw [er,er']
    exact isq_mono8 (Nat.div_le_div_left (by omega) (by omega))
  show (r:Int)≤(u':Int)
  omega
theorem lit_src (w:World) (cl:List Value) (t:TypeId) (hm:cl.length≤maxLen) (j:Nat) (u:Value) (h:cl[j]?=some u):(w.alloc (.cells cl.toArray t)).cell? ((⟨w.heap.size,0,none⟩:Addr).add j)=some u:=by
  have hj:j<cl.length:=(List.getElem?_eq_some_iff.1 h).1
  have e:(⟨w.heap.size,0,none⟩:Addr).add j=⟨w.heap.size,j,none⟩:=by
    unfold Addr.add
    split
    · rename_i e;subst e;rfl
    · simp
  rw [e]
  have z:=(World.ownsRow_lit (base:=0) (e:=t) (size:=1) w cl.toArray cl.length (Nat.zero_le _) hm (by simp)).cellAt j (by simpa using hj)
  rw [z]
  exact h
theorem pcs_one:∀ (l:List P9),∀ u ∈ pcs l,u.oneCell'=true:=by
  intro l u hu
  unfold pcs at hu
  obtain ⟨t,_,ht⟩:=List.mem_flatMap.1 hu
  unfold pcs9 at ht
  simp at ht
  rcases ht with rfl|rfl|rfl|rfl|rfl|rfl|rfl|rfl|rfl<;>rfl
theorem pcs_app (l m:List P9):pcs (l ++ m)=pcs l ++ pcs m:=by unfold pcs;exact List.flatMap_append
theorem take_next {l:List P9} {k:Nat} (h:k<l.length):(l.take (k+1)).flatMap qrs=(l.take k).flatMap qrs ++ qrs (l.getD k ((0,0,0),(0,0,0),(0,0,0))):=by
  rw [List.take_add_one,List.getElem?_eq_getElem h,List.flatMap_append,List.getD_eq_getElem?_getD,List.getElem?_eq_getElem h]
  show _ ++ [l[k]].flatMap qrs=_
  rw [List.flatMap_singleton]
  rfl
theorem own_row9 {w:World} {base n:Nat} {v:Value} {l:List P9} (h:w.ownsRow base 77 9 v n (pcs l)) (hn:l.length=n) (h0:0<n):∃ g off cap,v=.slice (some ⟨g,off,none⟩) n cap∧RowP w g off n (fun k=>l.getD k ((0,0,0),(0,0,0),(0,0,0))):=by
  obtain ⟨g,cap,rfl⟩:=own_slice8 h h0
  exact ⟨g,0,cap,rfl,rowP_of h hn⟩
def GIp (w:World) (B:Nat) (v:Value) (n:Nat) (xs:List Value) (W:World):Prop:=Below w.heap.size w W∧W.ownsRow w.heap.size 77 9 v n xs∧∀ g,v.ownBlock=some g→g<B
theorem own_in9' {w w1:World} {N base:Nat} {e:TypeId} {n:Nat} {v:Value} {k:Nat} {xs:List Value} (h:w.ownsRow base e n v k xs) (hb:Below N w w1) (hg:∀ g,v.ownBlock=some g→g<N):w1.ownsRow base e n v k xs:=by
  refine ⟨h.1,?_⟩
  rcases h.2 with hn|⟨g,cap,cur,rfl,hg',hgg,rest⟩
  · exact .inl hn
  · exact .inr ⟨g,cap,cur,rfl,hg',by rw [hb.block g (hg g rfl)];exact hgg,rest⟩
theorem gip_in {w W W':World} {B:Nat} {v:Value} {n:Nat} {xs:List Value} (h:GIp w B v n xs W) (hs:w.heap.size≤B) (hb:Below B W W'):GIp w B v n xs W':=⟨h.1.trans (hb.mono hs),own_in9' h.2.1 hb h.2.2,h.2.2⟩
def SX (W:World) (x y z u v q:Nat) (a b c d e f:P3):Prop:=(Own W x a∧Own W y b∧Own W z c)∧Own W u d∧Own W v e∧Own W q f
theorem gip_drew {w W:World} {B:Nat} {v:Value} {n:Nat} {xs:List Value} (h:GIp w B v n xs W):GIp w B v n xs W.drew:=⟨Below.drew h.1,h.2.1,h.2.2⟩
theorem sx_cells {W:World} {x y z u v q:Nat} {a b c d e f:P3} (h:SX W x y z u v q a b c d e f):W.cell? ⟨x,0,none⟩=some (.int .i64 a.1)∧W.cell? ⟨x,1,none⟩=some (.int .i64 a.2.1)∧W.cell? ⟨x,2,none⟩=some (.int .i64 a.2.2)∧W.cell? ⟨y,0,none⟩=some (.int .i64 b.1)∧W.cell? ⟨y,1,none⟩=some (.int .i64 b.2.1)∧W.cell? ⟨y,2,none⟩=some (.int .i64 b.2.2)∧W.cell? ⟨z,0,none⟩=some (.int .i64 c.1)∧W.cell? ⟨z,1,none⟩=some (.int .i64 c.2.1)∧W.cell? ⟨z,2,none⟩=some (.int .i64 c.2.2)∧W.cell? ⟨u,0,none⟩=some (.int .i64 d.1)∧W.cell? ⟨u,1,none⟩=some (.int .i64 d.2.1)∧W.cell? ⟨u,2,none⟩=some (.int .i64 d.2.2)∧W.cell? ⟨v,0,none⟩=some (.int .i64 e.1)∧W.cell? ⟨v,1,none⟩=some (.int .i64 e.2.1)∧W.cell? ⟨v,2,none⟩=some (.int .i64 e.2.2)∧W.cell? ⟨q,0,none⟩=some (.int .i64 f.1)∧W.cell? ⟨q,1,none⟩=some (.int .i64 f.2.1)∧W.cell? ⟨q,2,none⟩=some (.int .i64 f.2.2):=by
  obtain ⟨⟨⟨a0,a1,a2,_⟩,⟨b0,b1,b2,_⟩,⟨c0,c1,c2,_⟩⟩,⟨d0,d1,d2,_⟩,⟨e0,e1,e2,_⟩,⟨f0,f1,f2,_⟩⟩:=h
  exact ⟨a0,a1,a2,b0,b1,b2,c0,c1,c2,d0,d1,d2,e0,e1,e2,f0,f1,f2⟩
theorem rmean8_any (b off n cap:Nat) (l h:Nat→Int) (w:World) (r:Row w b off n l h) (hm:n≤1000) :
    Calls Tryz.prog 119 #[.slice (some ⟨b,off,none⟩) n cap] w fun e w'=>e=.returned (spr (mnR8 l h n))∧Below w.heap.size w w':=by
  unfold mnR8
  rcases first_bad8 (fun k=>Sp.vldB (l k) (h k)) n with v|⟨k0,hk,nv,v⟩
  · rw [if_pos (all_yes v)]
    have bd1:=sm_bd (f:=l) (k:=n) (fun i hi=>by have:=Sp.vld_iff.1 (v i hi);omega)
    have bd2:=sm_bd (f:=h) (k:=n) (fun i hi=>by have:=Sp.vld_iff.1 (v i hi);omega)
    have T1:TotC 115 (some ⟨b,off,none⟩) n cap (sm l n) (sm h n) 0 w:=fun W B=>rtotal_ok b off n cap l h W (row_below r B) (by omega) v
    have S1:Sm (sm l n) (n:Int):=⟨by omega,by omega,by omega,by omega⟩
    have S2:Sm (sm h n) (n:Int):=⟨by omega,by omega,by omega,by omega⟩
    exact rmean_any _ n cap _ _ 0 w w (Lib.hid T1) (Below.refl _ _) (by omega) (Lib.hid S1) (Lib.hid S2)
  · rw [if_neg (all_no hk nv)]
    have T1:TotC 115 (some ⟨b,off,none⟩) n cap 0 0 1 w:=fun W B=>rtotal_bad b off n cap k0 l h W (row_below r B) (by omega) hk v nv
    have S1:Sm 0 (n:Int):=⟨by omega,by omega,by omega,by omega⟩
    exact rmean_any _ n cap 0 0 1 w w (Lib.hid T1) (Below.refl _ _) (by omega) (Lib.hid S1) (Lib.hid S1)
attribute [local go_sem 1000000] run_min_mn run_max_mx
def T2 (f t:Int) (k:Nat):Int:=if k=0 then f else t
end Go.Proofs.YtbcjiigmbcfkeaaGreat
