import Derived.Test.YtgchcnpgjfoadaaGreatSoMb
import Derived.Test.YtgchcnpgjfoadaaGreatSo32
import Derived.Deep.DeepCutAuto
namespace Go.Proofs.YtgchcnpgjfoadaaGreat
open Go.ChangeShapes Go.WideShapes Go.RowKit
open Sh
attribute [local go_sem 1000000] run_min_mn run_max_mx
end Go.Proofs.YtgchcnpgjfoadaaGreat
namespace Go.Proofs.YtgchcnpgjfoadaaGreat
open Go.ChangeShapes Go.WideShapes Go.RowKit
open Sh
theorem isq_mono8 {a b:Nat} (h:a≤b):Rt.isq a≤Rt.isq b:=by
  refine Classical.byContradiction fun c=>?_
  have h1:=(Rt.isq_spec a).1
  have h2:=(Rt.isq_spec b).2
  have:=Nat.mul_le_mul (show Rt.isq b + 1≤Rt.isq a by omega) (show Rt.isq b + 1≤Rt.isq a by omega)
  omega
theorem qUp_or (t n:Nat):qUp t n 1=Rt.isq (QT t n 1)∨qUp t n 1=Rt.isq (QT t n 1) + 1:=by
  unfold qUp Rt.csq
  split
  · split
    · exact Or.inl rfl
    · exact Or.inr rfl
  · exact Or.inr rfl
theorem invR_val {m k:Int} (m1:1≤m) (m2:m≤1099511627776) (k1:1≤k) (k2:k≤8) :
    ∃ r u:Nat,invR m k=(((r:Int),(u:Int)),0)∧r=Rt.isq (k.toNat * 1048576 * (k.toNat * 1048576) / m.toNat)∧r≤u∧u≤8388609:=by
  have hk:k.toNat≤8:=by omega
  have h1:k.toNat * 1048576 * (k.toNat * 1048576)≤8 * 1048576 * (8 * 1048576):=Nat.mul_le_mul (Nat.mul_le_mul_right _ hk) (Nat.mul_le_mul_right _ hk)
  have h2:=QT_le (k.toNat * 1048576 * (k.toNat * 1048576)) m.toNat 1
  have hq:=qUp_or (k.toNat * 1048576 * (k.toNat * 1048576)) m.toNat
  have h3:Rt.isq (QT (k.toNat * 1048576 * (k.toNat * 1048576)) m.toNat 1)≤8388608:=by
    have hs:=(Rt.isq_spec (QT (k.toNat * 1048576 * (k.toNat * 1048576)) m.toNat 1)).1
    refine Classical.byContradiction fun c=>?_
    have:=Nat.mul_le_mul (show 8388609≤Rt.isq (QT (k.toNat * 1048576 * (k.toNat * 1048576)) m.toNat 1) by omega) (show 8388609≤Rt.isq (QT (k.toNat * 1048576 * (k.toNat * 1048576)) m.toNat 1) by omega)
    omega
  refine ⟨_,qUp (k.toNat * 1048576 * (k.toNat * 1048576)) m.toNat 1,?_,rfl,?_,?_⟩
  · unfold invR
    rw [if_pos ⟨m1,m2,k1,k2⟩]
    unfold belowR
    rw [Sp.told_yes (Sp.vld_iff.2 ⟨by omega,by omega,by omega⟩)]
    rfl
  · show Rt.isq (QT (k.toNat * 1048576 * (k.toNat * 1048576)) m.toNat 1)≤_
    omega
  · omega
theorem invR_mono {m f k:Int} (m1:1≤m) (mf:m≤f) (f2:f≤1099511627776) (k1:1≤k) (k2:k≤8):(invR f k).1.1≤(invR m k).1.2:=by
  obtain ⟨r,u,e,er,_,_⟩:=invR_val (by omega:1≤f) f2 k1 k2
  obtain ⟨r',u',e',er',h',_⟩:=invR_val m1 (by omega) k1 k2
  rw [e,e']
  have:r≤r':=by
    rw [er,er']
    exact isq_mono8 (Nat.div_le_div_left (by omega) (by omega))
  show (r:Int)≤(u':Int)
  omega
theorem sq_le8 {a b:Int} (h:(0≤a∧a≤b)∨(b≤a∧a≤0)):a * a≤b * b:=by
  rcases h with ⟨h1,h2⟩ | ⟨h1,h2⟩
  · exact Int.mul_le_mul h2 h2 h1 (by omega)
  · have:=Int.mul_le_mul (show -a≤-b by omega) (show -a≤-b by omega) (by omega) (by omega)
    rwa [Int.neg_mul_neg,Int.neg_mul_neg] at this
theorem nst_le (n a b c:Int):(n - nst n a b c) * (n - nst n a b c)≤(a - n) * (a - n):=by
  have e:(a - n) * (a - n)=(n - a) * (n - a):=by rw [← Int.neg_mul_neg,Int.neg_sub]
  rw [e]
  refine sq_le8 ?_
  unfold nst lo3' hi3'
  simp only [Sp.mn_eq,Sp.mx_eq]
  omega
theorem near_far (t:P9) (c:P3):nearN t c≤farN t c:=by
  have h1:=nst_le c.1 t.1.1 t.2.1.1 t.2.2.1
  have h2:=nst_le c.2.1 t.1.2.1 t.2.1.2.1 t.2.2.2.1
  have h3:=nst_le c.2.2 t.1.2.2 t.2.1.2.2 t.2.2.2.2
  have h4:nearN t c≤sq (sub t.1 c):=by
    show (c.1 - nst c.1 t.1.1 t.2.1.1 t.2.2.1) * (c.1 - nst c.1 t.1.1 t.2.1.1 t.2.2.1) + (c.2.1 - nst c.2.1 t.1.2.1 t.2.1.2.1 t.2.2.2.1) * (c.2.1 - nst c.2.1 t.1.2.1 t.2.1.2.1 t.2.2.2.1) + (c.2.2 - nst c.2.2 t.1.2.2 t.2.1.2.2 t.2.2.2.2) * (c.2.2 - nst c.2.2 t.1.2.2 t.2.1.2.2 t.2.2.2.2)≤(t.1.1 - c.1) * (t.1.1 - c.1) + (t.1.2.1 - c.2.1) * (t.1.2.1 - c.2.1) + (t.1.2.2 - c.2.2) * (t.1.2.2 - c.2.2)
    omega
  refine Int.le_trans h4 ?_
  unfold farN hi3'
  exact Int.le_trans (Sp.mx_ge1 _ _) (Sp.mx_ge1 _ _)
def gOk (r:Sp.R):Prop:=r.2=10∨(r.2=0∧0≤r.1.1∧r.1.1≤r.1.2∧r.1.2≤8388609)
theorem giR_ok (c:P3) (i o k:Int) (t:P9) (i0:0≤i) (i1:i≤1099511627776) (k1:1≤k) (k2:k≤8) (fm:farN t c≤1099511627776):gOk (giR c i o k t):=by
  have nf:=near_far t c
  unfold giR
  by_cases h1:farN t c≤i∨o < nearN t c
  · rw [if_pos h1]
    exact Or.inr ⟨rfl,by decide,by decide,by decide⟩
  rw [if_neg h1]
  by_cases h3:Sp.mx (nearN t c) i=0
  · rw [if_pos h3]
    exact Or.inl rfl
  rw [if_neg h3]
  have hm:1≤Sp.mx (nearN t c) i∧Sp.mx (nearN t c) i≤farN t c:=by
    rw [Sp.mx_eq] at h3 ⊢
    omega
  obtain ⟨r,u,e,_,h5,h6⟩:=invR_val hm.1 (by omega) k1 k2
  by_cases h4:nearN t c≤i∨o < farN t c
  · rw [if_pos h4,e]
    exact Or.inr ⟨rfl,Int.le_refl 0,by show (0:Int)≤(u:Int);omega,by show (u:Int)≤_;omega⟩
  · rw [if_neg h4]
    have mo:=invR_mono hm.1 hm.2 fm k1 k2
    obtain ⟨r',u',e',_,_,_⟩:=invR_val (by omega:1≤farN t c) fm k1 k2
    rw [e,e'] at mo ⊢
    exact Or.inr ⟨rfl,by show (0:Int)≤(r':Int);omega,mo,by show (u:Int)≤_;omega⟩
theorem gie_or {g:P9→Sp.R} {L:Nat→P9}:∀ {n:Nat},(∀ k,k < n→gOk (g (L k)))→gie g L n=0∨gie g L n=10
  | 0,_=>Or.inl rfl
  | n + 1,h=>by
    show (if gie g L n=0 then (g (L n)).2 else gie g L n)=0∨(if gie g L n=0 then (g (L n)).2 else gie g L n)=10
    rcases gie_or (n:=n) (fun k hk=>h k (by omega)) with e | e
    · rw [if_pos e]
      rcases h n (by omega) with z | z
      · exact Or.inr z
      · exact Or.inl z.1
    · rw [if_neg (by rw [e];decide)]
      exact Or.inr e
theorem gie_all {g:P9→Sp.R} {L:Nat→P9}:∀ {n:Nat},gie g L n=0→∀ k,k < n→(g (L k)).2=0
  | 0,_,k,h=>absurd h (Nat.not_lt_zero k)
  | n + 1,h,k,hk=>by
    have h:(if gie g L n=0 then (g (L n)).2 else gie g L n)=0:=h
    by_cases z:gie g L n=0
    · rw [if_pos z] at h
      by_cases e:k=n
      · subst e;exact h
      · exact gie_all z k (by omega)
    · rw [if_neg z] at h
      exact absurd h z
theorem gis_at {g:P9→Sp.R} {L:Nat→P9}:∀ {n k:Nat},k < n→(gis g L n).getD k (0,0)=(g (L k)).1
  | 0,k,h=>absurd h (Nat.not_lt_zero k)
  | n + 1,k,h=>by
    show (gis g L n ++ [(g (L n)).1]).getD k (0,0)=_
    rw [List.getD_eq_getElem?_getD]
    by_cases e:k=n
    · subst e
      rw [List.getElem?_append_right (by rw [gis_len];omega),gis_len,Nat.sub_self]
      rfl
    · rw [List.getElem?_append_left (by rw [gis_len];omega),← List.getD_eq_getElem?_getD]
      exact gis_at (by omega)
theorem sm_pos8 {l h:Nat→Int} {B:Int}:∀ {n:Nat},(∀ k,k < n→0≤l k∧l k≤h k∧h k≤B)→0≤sm l n∧sm l n≤sm h n∧sm h n≤(n:Int) * B
  | 0,_=>⟨by show (0:Int)≤0;omega,by show (0:Int)≤0;omega,by show (0:Int)≤((0:Nat):Int) * B;simp⟩
  | n + 1,q=>by
    obtain ⟨a,b,c⟩:=sm_pos8 (n:=n) (fun k hk=>q k (by omega))
    obtain ⟨d,e,f⟩:=q n (by omega)
    show 0≤sm l n + l n∧sm l n + l n≤sm h n + h n∧sm h n + h n≤((n + 1:Nat):Int) * B
    have:((n + 1:Nat):Int) * B=(n:Int) * B + B:=by rw [Int.natCast_add,Int.add_mul];simp
    omega
theorem mn8_ok {l h:Nat→Int} {n:Nat} (hn:0 < n) (q:∀ k,k < n→0≤l k∧l k≤h k∧h k≤8388609):(mnR8 l h n).2=0∧0≤(mnR8 l h n).1.1∧(mnR8 l h n).1.1≤(mnR8 l h n).1.2∧(mnR8 l h n).1.2≤8388609:=by
  obtain ⟨a,b,c⟩:=sm_pos8 q
  have hd:(0:Int) < (n:Int):=by omega
  have h1:0≤Sp.fl (sm l n) n:=by rw [Sp.fl_pos hd];exact Int.ediv_nonneg a (by omega)
  have h2:Sp.ce (sm h n) n≤8388609:=by
    have z:Sp.ce (sm h n) n≤Sp.ce ((n:Int) * 8388609) n:=Sp.ce_mono hd c
    have y:Sp.ce ((n:Int) * 8388609) n=8388609:=by
      unfold Sp.ce
      rw [Sp.fl_pos hd,← Int.mul_neg,Int.mul_ediv_cancel_left _ (by omega)]
      rfl
    omega
  have h3:Sp.fl (sm l n) n≤Sp.ce (sm h n) n:=by
    refine Int.le_trans (Sp.fl_mono hd b) ?_
    have i1:=Int.ediv_mul_le (sm h n) (show (n:Int) ≠ 0 by omega)
    have i2:=Int.ediv_mul_le (-(sm h n)) (show (n:Int) ≠ 0 by omega)
    unfold Sp.ce
    rw [Sp.fl_pos hd,Sp.fl_pos hd]
    refine Classical.byContradiction fun x=>?_
    have y:(1:Int) * n≤(sm h n / n + -(sm h n) / n) * n:=Int.mul_le_mul_of_nonneg_right (by omega) (by omega)
    rw [Int.add_mul] at y
    omega
  unfold mnR8
  rw [if_pos (all_yes fun k hk=>by obtain ⟨x,y,z⟩:=q k hk;exact Sp.vld_iff.2 ⟨by omega,y,by omega⟩)]
  unfold meanR
  rw [if_pos rfl,if_neg (by omega),Sp.told_yes (Sp.vld_iff.2 ⟨by omega,h3,by omega⟩)]
  exact ⟨rfl,h1,h3,h2⟩
theorem scale8_ok {a b p:Int} (h0:0≤a) (h1:a≤b) (h2:b≤8388609) (p1:-100≤p) (p2:p≤100):(scaleR a b p).2=0∧(scaleR a b p).1.1≤(scaleR a b p).1.2∧-838860900≤(scaleR a b p).1.1∧(scaleR a b p).1.2≤838860900∧(scaleR a b p).1=(Sp.mn (a * p) (b * p),Sp.mx (a * p) (b * p)):=by
  have q1:=mul_bd (x:=a) (y:=p) (A:=8388609) (B:=100) (by omega) (by omega) (by omega) (by omega)
  have q2:=mul_bd (x:=b) (y:=p) (A:=8388609) (B:=100) (by omega) (by omega) (by omega) (by omega)
  have e:scaleR a b p=((Sp.mn (a * p) (b * p),Sp.mx (a * p) (b * p)),0):=by
    unfold scaleR
    rw [if_pos ⟨Sp.vld_iff.2 ⟨by omega,h1,by omega⟩,by omega,by omega⟩]
    refine Sp.told_yes (Sp.vld_iff.2 ?_)
    rw [Sp.mn_eq,Sp.mx_eq]
    omega
  rw [e]
  refine ⟨rfl,?_,?_,?_,rfl⟩ <;> (try dsimp only) <;> simp only [Sp.mn_eq,Sp.mx_eq] <;> omega
theorem shG_ok {x:P3} {s d q:Int} {t:P9} (hx:BdP 256 x) (s1:1≤s) (s2:s≤16) (d1:0≤d) (d2:d≤3) (q1:1≤q) (q2:q≤2000) (ht:BdT 512 t):gOk (shG x s d q t):=by
  have scl8:1≤scl d∧scl d≤8:=by
    unfold scl
    have:d.toNat=0∨d.toNat=1∨d.toNat=2∨d.toNat=3:=by omega
    rcases this with e | e | e | e <;> rw [e] <;> decide
  have bb:=sh_bd scl8.1 scl8.2 s1 s2 q1 q2
  have hc:BdP 2048 (tim (scl d) x):=(tim_bd (K:=8) (by omega) (by omega) hx).mono (by decide)
  refine giR_ok _ _ _ _ _ bb.2.2.2.1.1 (by have:=bb.2.2.2.1.2;unfold inn;omega) scl8.1 scl8.2 ?_
  have key:∀ u:P3,BdP 512 u→sq (sub u (tim (scl d) x))≤19660800:=fun u hu=>by
    have z:=(sub_bd hu hc)
    obtain ⟨a1,a2,a3,a4,a5,a6⟩:=z.mono (B:=2560) (by decide)
    have e1:=mul_bd (x:=(sub u (tim (scl d) x)).1) (y:=(sub u (tim (scl d) x)).1) (A:=2560) (B:=2560) a1 a2 a1 a2
    have e2:=mul_bd (x:=(sub u (tim (scl d) x)).2.1) (y:=(sub u (tim (scl d) x)).2.1) (A:=2560) (B:=2560) a3 a4 a3 a4
    have e3:=mul_bd (x:=(sub u (tim (scl d) x)).2.2) (y:=(sub u (tim (scl d) x)).2.2) (A:=2560) (B:=2560) a5 a6 a5 a6
    show (sub u (tim (scl d) x)).1 * (sub u (tim (scl d) x)).1 + (sub u (tim (scl d) x)).2.1 * (sub u (tim (scl d) x)).2.1 + (sub u (tim (scl d) x)).2.2 * (sub u (tim (scl d) x)).2.2≤_
    omega
  have k1:=key _ ht.1
  have k2:=key _ ht.2.1
  have k3:=key _ ht.2.2
  unfold farN hi3'
  simp only [Sp.mx_eq]
  omega
def hOk (r:Sp.R):Prop:=(r.2=10∧r.1=(0,0))∨(r.2=0∧r.1.1≤r.1.2∧-838860900≤r.1.1∧r.1.2≤838860900)
theorem ptn_pos (d:Int):0 < ptn d:=Nat.pow_pos (by decide)
theorem hd_ok {x:P3} {s d:Int} {p:Pu} {tick:Int} (hp:pucode p=0) (hx:BdP 256 x) (s1:1≤s) (s2:s≤16) (d1:0≤d) (d2:d≤3) (_t1:0≤tick) (t2:tick≤2000):hOk (hdR x s d p tick):=by
  obtain ⟨hb,_,⟨a1,a2⟩,b1,b2⟩:=pucode_ok hp
  unfold hdR
  by_cases h1:tick≤p.2.1
  · rw [if_pos h1]
    exact Or.inr ⟨rfl,Int.le_refl 0,by decide,by decide⟩
  rw [if_neg h1]
  have G:∀ k,k < ptn d→gOk (shG x s d (tick - p.2.1) (ptk p.1 d k)):=fun k hk=>shG_ok hx s1 s2 d1 d2 (by omega) (by omega) (ptk_bd hb d1 d2 hk)
  rcases gie_or G with z | z
  · rw [if_neg (fun c=>c z)]
    have key:∀ k,k < ptn d→0≤((gis (shG x s d (tick - p.2.1)) (ptk p.1 d) (ptn d)).getD k (0,0)).1∧((gis (shG x s d (tick - p.2.1)) (ptk p.1 d) (ptn d)).getD k (0,0)).1≤((gis (shG x s d (tick - p.2.1)) (ptk p.1 d) (ptn d)).getD k (0,0)).2∧((gis (shG x s d (tick - p.2.1)) (ptk p.1 d) (ptn d)).getD k (0,0)).2≤8388609:=fun k hk=>by
      rw [gis_at hk]
      have e:=gie_all z k hk
      rcases G k hk with y | y
      · rw [y] at e;cases e
      · exact y.2
    obtain ⟨m1,m2,m3,m4⟩:=mn8_ok (ptn_pos d) key
    dsimp only
    rw [if_neg (fun c=>c m1)]
    obtain ⟨q1,q2,q3,q4,_⟩:=scale8_ok m2 m3 m4 b1 b2
    exact Or.inr ⟨q1,q2,q3,q4⟩
  · rw [if_pos (by rw [z];decide)]
    exact Or.inl ⟨z,rfl⟩
theorem hd_neg {x:P3} {s d:Int} {t:P9} {at_ pw tick:Int} (hp:pucode (t,at_,pw)=0) (hx:BdP 256 x) (s1:1≤s) (s2:s≤16) (d1:0≤d) (d2:d≤3) (_t1:0≤tick) (t2:tick≤2000) :
    hdR x s d (t,at_,-pw) tick=((-(hdR x s d (t,at_,pw) tick).1.2,-(hdR x s d (t,at_,pw) tick).1.1),(hdR x s d (t,at_,pw) tick).2):=by
  obtain ⟨hb,_,⟨a1,a2⟩,b1,b2⟩:=pucode_ok hp
  dsimp only at a1 a2 b1 b2 hb
  unfold hdR
  dsimp only
  by_cases h1:tick≤at_
  · rw [if_pos h1,if_pos h1]
    rfl
  rw [if_neg h1,if_neg h1]
  have G:∀ k,k < ptn d→gOk (shG x s d (tick - at_) (ptk t d k)):=fun k hk=>shG_ok hx s1 s2 d1 d2 (by omega) (by omega) (ptk_bd hb d1 d2 hk)
  rcases gie_or G with z | z
  · have zz:¬ (gie (shG x s d (tick - at_)) (ptk t d) (ptn d) ≠ 0):=fun c=>c z
    rw [if_neg zz,if_neg zz]
    have key:∀ k,k < ptn d→0≤((gis (shG x s d (tick - at_)) (ptk t d) (ptn d)).getD k (0,0)).1∧((gis (shG x s d (tick - at_)) (ptk t d) (ptn d)).getD k (0,0)).1≤((gis (shG x s d (tick - at_)) (ptk t d) (ptn d)).getD k (0,0)).2∧((gis (shG x s d (tick - at_)) (ptk t d) (ptn d)).getD k (0,0)).2≤8388609:=fun k hk=>by
      rw [gis_at hk]
      have e:=gie_all z k hk
      rcases G k hk with y | y
      · rw [y] at e;cases e
      · exact y.2
    obtain ⟨m1,m2,m3,m4⟩:=mn8_ok (ptn_pos d) key
    clear key
    generalize mnR8 _ _ _=m at *
    have mm:¬ (m.2 ≠ 0):=fun c=>c m1
    rw [if_neg mm,if_neg mm]
    obtain ⟨q1,_,_,_,q5⟩:=scale8_ok m2 m3 m4 b1 b2
    obtain ⟨r1,_,_,_,r5⟩:=scale8_ok m2 m3 m4 (show -100≤-pw by omega) (show -pw≤100 by omega)
    generalize scaleR m.1.1 m.1.2 (-pw)=A at *
    generalize scaleR m.1.1 m.1.2 pw=B at *
    obtain ⟨⟨A1,A2⟩,A3⟩:=A
    obtain ⟨⟨B1,B2⟩,B3⟩:=B
    simp only [Prod.mk.injEq] at q5 r5
    dsimp only at q1 r1 ⊢
    have n1:m.1.1 * -pw=-(m.1.1 * pw):=Int.mul_neg _ _
    have n2:m.1.2 * -pw=-(m.1.2 * pw):=Int.mul_neg _ _
    rw [n1,n2,Sp.mn_eq,Sp.mx_eq] at r5
    rw [Sp.mn_eq,Sp.mx_eq] at q5
    rw [q1,r1]
    refine Prod.ext (Prod.ext ?_ ?_) rfl
    · show A1=-B2;omega
    · show A2=-B1;omega
  · rw [if_pos (by rw [z];decide),if_pos (by rw [z];decide)]
    rfl
theorem hd_later (x:P3) (s d:Int) (t:P9) (at_ pw tick by_:Int):hdR x s d (t,at_ + by_,pw) (tick + by_)=hdR x s d (t,at_,pw) tick:=by
  unfold hdR
  dsimp only
  rw [show tick + by_ - (at_ + by_)=tick - at_ by omega]
  by_cases h:tick≤at_
  · rw [if_pos h,if_pos (by omega)]
  · rw [if_neg h,if_neg (by omega)]
end Go.Proofs.YtgchcnpgjfoadaaGreat
namespace Go.Proofs.YtgchcnpgjfoadaaGreat
open Go.ChangeShapes Go.WideShapes Go.RowKit
open Sh
end Go.Proofs.YtgchcnpgjfoadaaGreat
namespace Go.Proofs.YtgchcnpgjfoadaaGreat
open Go.ChangeShapes Go.WideShapes Go.RowKit
open Sh
theorem pair_in {w w1:World} {b N:Nat} {x y:Int} (h:Pair w b x y) (hb:Below N w w1) (hN:b < N):Pair w1 b x y:=by
  obtain ⟨h1,h2,h3,h4,h5⟩:=h
  exact ⟨(hb.cell (p:=⟨b,0,none⟩) hN).trans h1,(hb.cell (p:=⟨b,1,none⟩) hN).trans h2,(hb.frozen (p:=⟨b,0,none⟩) hN).trans h3,(hb.frozen (p:=⟨b,1,none⟩) hN).trans h4,Nat.lt_of_lt_of_le h5 hb.size⟩
end Go.Proofs.YtgchcnpgjfoadaaGreat
namespace Go.Proofs.YtgchcnpgjfoadaaGreat
open Go.ChangeShapes Go.WideShapes Go.RowKit
open Sh
end Go.Proofs.YtgchcnpgjfoadaaGreat
namespace Go.Proofs.YtgchcnpgjfoadaaGreat
open Go.ChangeShapes Go.WideShapes Go.RowKit
open Sh
def gsN (g:Nat→Sp.R):Nat→List (Int × Int)
  | 0=>[]
  | k + 1=>gsN g k ++ [(g k).1]
theorem gsN_len (g:Nat→Sp.R):∀ k,(gsN g k).length=k
  | 0=>rfl
  | k + 1=>by show (gsN g k ++ [_]).length=_;rw [List.length_append,gsN_len g k];rfl
def geN (g:Nat→Sp.R):Nat→Int
  | 0=>0
  | k + 1=>if geN g k=0 then (g k).2 else geN g k
theorem geN_stop {g:Nat→Sp.R} {k:Nat} (h:geN g k ≠ 0):∀ {n:Nat},k≤n→geN g n=geN g k
  | 0,hn=>by
    have:k=0:=by omega
    subst this;rfl
  | n + 1,hn=>by
    by_cases e:k=n + 1
    · subst e;rfl
    · have z:=geN_stop h (n:=n) (by omega)
      show (if geN g n=0 then _ else _)=_
      rw [z,if_neg h]
theorem geN_hit {g:Nat→Sp.R} {k n:Nat} (hk:k < n) (e:geN g k=0) (h:(g k).2 ≠ 0):geN g n=(g k).2:=by
  have q:geN g (k + 1)=(g k).2:=by
    show (if geN g k=0 then _ else _)=_
    rw [if_pos e]
  rw [geN_stop (k:=k + 1) (by rw [q];exact h) (by omega),q]
theorem geN_next {g:Nat→Sp.R} {k:Nat} (e:geN g k=0) (h:(g k).2=0):geN g (k + 1)=0:=by
  show (if geN g k=0 then _ else _)=_
  rw [if_pos e,h]
theorem geN_all {g:Nat→Sp.R}:∀ {n:Nat},geN g n=0→∀ k,k < n→(g k).2=0
  | 0,_,k,h=>absurd h (Nat.not_lt_zero k)
  | n + 1,h,k,hk=>by
    have h:(if geN g n=0 then (g n).2 else geN g n)=0:=h
    by_cases z:geN g n=0
    · rw [if_pos z] at h
      by_cases e:k=n
      · subst e;exact h
      · exact geN_all z k (by omega)
    · rw [if_neg z] at h
      exact absurd h z
theorem gsN_at {g:Nat→Sp.R}:∀ {n k:Nat},k < n→(gsN g n).getD k (0,0)=(g k).1
  | 0,k,h=>absurd h (Nat.not_lt_zero k)
  | n + 1,k,h=>by
    show (gsN g n ++ [(g n).1]).getD k (0,0)=_
    rw [List.getD_eq_getElem?_getD]
    by_cases e:k=n
    · subst e
      rw [List.getElem?_append_right (by rw [gsN_len];omega),gsN_len,Nat.sub_self]
      rfl
    · rw [List.getElem?_append_left (by rw [gsN_len];omega),← List.getD_eq_getElem?_getD]
      exact gsN_at (by omega)
def smR8 (l h:Nat→Int) (n:Nat):Sp.R:=if (List.range n).all (fun k=>Sp.vldB (l k) (h k))=true then sumR (sm l n) (sm h n) 0 else ((0,0),1)
def sceR (g:Nat→Sp.R) (n:Nat):Sp.R:=if geN g n ≠ 0 then ((0,0),geN g n) else smR8 (fun k=>((gsN g n).getD k (0,0)).1) (fun k=>((gsN g n).getD k (0,0)).2) n
theorem sum8_row (b off n cap:Nat) (l h:Nat→Int) (w:World) (r:Row w b off n l h) (hm:n≤1000) :
    Calls Tryz.prog 10 #[.slice (some ⟨b,off,none⟩) n cap] w fun e w'=>e=.returned (spr (smR8 l h n))∧Below w.heap.size w w':=by
  unfold smR8
  rcases first_bad8 (fun k=>Sp.vldB (l k) (h k)) n with v | ⟨k0,hk,nv,v⟩
  · rw [if_pos (all_yes v)]
    have T1:TotC 32 (some ⟨b,off,none⟩) n cap (sm l n) (sm h n) 0 w:=fun W B=>total_ok b off n cap l h W (row_below r B) (by omega) v
    exact sum_any _ n cap _ _ 0 w w (Lib.hid T1) (Below.refl _ _)
  · rw [if_neg (all_no hk nv)]
    have T1:TotC 32 (some ⟨b,off,none⟩) n cap 0 0 1 w:=fun W B=>total_bad b off n cap k0 l h W (row_below r B) (by omega) hk v nv
    exact sum_any _ n cap 0 0 1 w w (Lib.hid T1) (Below.refl _ _)
theorem sum8_own (u:Value) (n:Nat) (l:List (Int × Int)) (w:World) (h:w.ownsRow 0 34 2 u n (svs l)) (hl:l.length=n) (hm:n≤1000) :
    Calls Tryz.prog 10 #[u] w fun e w'=>e=.returned (spr (smR8 (fun k=>(l.getD k (0,0)).1) (fun k=>(l.getD k (0,0)).2) n))∧Below w.heap.size w w':=by
  rcases Nat.eq_zero_or_pos n with h0 | h0
  · subst h0
    have key:∃ a c,u=.slice a 0 c:=by
      rcases h.2 with ⟨e,_⟩ | ⟨g,cap,cur,e,_⟩
      · exact ⟨none,0,e⟩
      · exact ⟨_,cap,e⟩
    obtain ⟨a,c,rfl⟩:=key
    have T1:TotC 32 a 0 c 0 0 0 w:=fun W B=>total_zero a c W
    exact sum_any a 0 c 0 0 0 w w (Lib.hid T1) (Below.refl _ _)
  · obtain ⟨g,cap,rfl⟩:=own_slice8 h h0
    exact sum8_row g 0 n cap _ _ w (row_of8 h hl) hm
theorem sp2_new' (w:World) (b:Nat) (x y:Int) (t:TypeId) (hb:b=w.heap.size):∀ j u,([.int .i64 x,.int .i64 y]:List Value)[j]?=some u→(w.alloc (.cells #[.int .i64 x,.int .i64 y] t)).cell? ((⟨b,0,none⟩:Addr).add j)=some u:=by
  subst hb
  exact sp2_new w x y t
theorem ownMic_in8 {w w1:World} {b N:Nat} {x:P3} {s d:Int} (h:OwnMic w b x s d) (hb:Below N w w1) (hN:b < N):OwnMic w1 b x s d:=by
  obtain ⟨⟨h0,h1,h2,h3,h4⟩,l⟩:=h
  exact ⟨⟨(hb.cell (p:=⟨b,0,none⟩) hN).trans h0,(hb.cell (p:=⟨b,1,none⟩) hN).trans h1,(hb.cell (p:=⟨b,2,none⟩) hN).trans h2,(hb.cell (p:=⟨b,3,none⟩) hN).trans h3,(hb.cell (p:=⟨b,4,none⟩) hN).trans h4⟩,Nat.lt_of_lt_of_le l hb.size⟩
theorem pair_set2 {N:Nat} {u w:World} {b:Nat} {x y:Value} (h:Below N u w) (k:N≤b):Below N u ((w.setCell ⟨b,0,none⟩ x).setCell ⟨b,1,none⟩ y):=(h.setCell k _).setCell k _
set_option maxRecDepth 100000 in
set_option maxHeartbeats 4000000 in
theorem sce_walk (x:P3) (s d tick:Int) (a:Option Addr) (n c:Nat) (Q:Nat→Pu) (w:World) (g:Nat→Sp.R) (r res:Sp.R) (rr:LstU w a n Q) (hn:n≤60)
    (G:Hid (∀ k,k < n→∀ W,Calls Tryz.prog 55 #[micv x s d,puv (Q k),.int .i64 tick] W fun e w'=>e=.returned (spr (g k))∧Below W.heap.size W w'))
    (R1:Hid (geN g n ≠ 0→res=((0,0),geN g n))) (R2:Hid (geN g n=0→res=r)) (SM:Hid (geN g n=0→∀ u W,World.ownsRow W 0 34 2 u n (svs (gsN g n))→Calls Tryz.prog 10 #[u] W fun e w'=>e=.returned (spr r)∧Below W.heap.size W w')):Calls Tryz.prog 31 #[micv x s d,.slice a n c,.int .i64 tick] w fun e w'=>e=.returned (spr res)∧Below w.heap.size w w':=by
  obtain ⟨i0,hi,hz0,hz1,hz2⟩:=info_parts infoSp8
  have HI:=Lib.hid hi
  have HZ0:=Lib.hid hz0
  have HZ1:=Lib.hid hz1
  have HZ2:=Lib.hid hz2
  clear hi hz0 hz1 hz2
  have hn':(n:Int)≤60:=by omega
  have RR:=Lib.hid rr
  have M0:=Lib.hid (ownMic_alloc (ownMic_new w x s d 55) (.cells #[.int .i64 0,.int .i64 0] 34))
  have R0:=Lib.hid (pair_new (w.alloc (micb x s d 55)) 0 0 34)
  have B0:=Lib.hid (show Below w.heap.size w ((w.alloc (micb x s d 55)).alloc (.cells #[.int .i64 0,.int .i64 0] 34)) by (repeat' (first | exact Below.refl _ _ | refine Below.setCell ?_ (by simp <;> omega) _ | refine balloc ?_ _ | refine Below.drew ?_ | refine bdrewN ?_ _)))
  simp only [World.size_alloc] at R0
  clear rr
  go_enter Tryz.func31,Tryz.ntmps31
  go_wp2
  have z0:((w.alloc (micb x s d 55)).alloc (.cells #[.int .i64 0,.int .i64 0] 34)).heap.size=w.heap.size + 1 + 1:=by simp
  generalize (w.alloc (micb x s d 55)).alloc (.cells #[.int .i64 0,.int .i64 0] 34)=w2 at *
  have Z0:=Lib.hid z0
  have l0:w.heap.size < w2.heap.size:=by omega
  have l1:w.heap.size + 1 < w2.heap.size:=by omega
  clear z0
  go_loopw [8,15] (fun sv kv wr=>∃ k:Nat,k≤n∧kv=.int .i64 k∧geN g k=0∧wr.ownsRow w2.heap.size 34 2 sv k (svs (gsN g k))∧Below w2.heap.size w2 wr) (fun _ kv _=>n - (intOf kv).toNat)
  case atStart=>exact ⟨0,Nat.zero_le _,rfl,rfl,World.ownsRow_nil _ _ _ _,Below.refl _ _⟩
  case round =>
    obtain ⟨k,hk,rfl,good,how,hbb⟩:=hrel
    have GOOD:=Lib.hid good
    have ROW:=Lib.hid how
    have BB:=Lib.hid hbb
    clear good how hbb
    have szw:=BB.out.size
    by_cases hlt:k < n
    · have hk1:(k:Int) < (n:Int):=by omega
      obtain ⟨b,off,rfl,rw0⟩:=RR.out (show 0 < n by omega)
      have hbl:b < w.heap.size:=rw0.1
      have RB:=Lib.hid (rowU_in (rowU_in rw0 B0.out hbl) BB.out (by omega))
      have MW:=Lib.hid (ownMic_in8 M0.out BB.out l0)
      have GK:=Lib.hid (G.out k hlt)
      have HIT:=Lib.hid (fun h:(g k).2 ≠ 0=>geN_hit hlt GOOD.out h)
      have NEXT:=Lib.hid (fun h:(g k).2=0=>geN_next GOOD.out h)
      have GS:=Lib.hid (show gsN g (k + 1)=gsN g k ++ [(g k).1] from rfl)
      have hbr:b < wr.heap.size:=by omega
      obtain ⟨c0,c1,c2,c3,c4,c5,c6,c7,c8,c9,c10⟩:=RB.out.2 k hlt
      generalize Q k=q at *
      generalize g k=gr at *
      have P3:=Lib.hid (ownPu_new wr q 61)
      have M3:=Lib.hid (ownMic_alloc MW.out (pub q 61))
      have ZB:=Lib.hid (((Below.refl wr.heap.size wr).alloc (Nat.le_refl _) (pub q 61)))
      obtain ⟨⟨m0,m1,m2,m3,m4⟩,ml⟩:=MW.out
      clear rw0 RB MW
      go_wp2_with fail
      refine (GK.out _).mono ?_
      rintro e w5 ⟨rfl,hb5⟩
      obtain ⟨⟨u,v⟩,z⟩:=gr
      dsimp only at *
      have BW:=Lib.hid (BB.out.trans ((ZB.out.trans (hb5.mono (by simp))).mono szw))
      have ROWc:=Lib.hid (own_below9 (own_below9 ROW.out ZB.out) hb5)
      have sz5:=BW.out.size
      clear hb5 ROW c0 c1 c2 c3 c4 c5 c6 c7 c8 c9 c10 m0 m1 m2 m3 m4 ml P3 M3 ZB GK
      obtain ⟨e0,e1,e2,e3,el⟩:=pair_new w5 u v 34
      by_cases z0:z=0
      · subst z0
        have NX:=Lib.hid (NEXT.out (by first | rfl | trivial))
        clear HIT NEXT
        have ROWd:=ROWc
        clear ROWc
        have ROWc:=Lib.hid (ROWd.out.alloc (.cells #[.int .i64 u,.int .i64 v] 34))
        have hm60:k + 1≤60:=by omega
        go_wp2_with (at_builtin;(refine wpList_append_own _ rfl _ _ 37 rfl w2.heap.size 34 i0 (.agg #[.int .i64 0,.int .i64 0]) 2 16 Tryz.underlying37 HI.out HZ0.out HZ1.out HZ2.out rfl (by decide) _ k (svs (gsN g k)) rfl (ROWc.out.alloc _) ⟨_,0,none⟩ 1 1 [.int .i64 u,.int .i64 v] rfl rfl (sp2_new' _ _ _ _ _ (by simp)) (by intro u hu;simp at hu;rcases hu with rfl | rfl <;> rfl) (by unfold maxLen;omega) (by omega) (by simp;omega) ?_);intro v' w7 hown' hgrow _;have OW:=Lib.hid hown';have GR:=Lib.hid hgrow;clear hown' hgrow)
        have BG:=Lib.hid (BW.out.trans ((((Below.refl w2.heap.size w5).alloc (by omega) _).alloc (by simp;omega) _).grown GR.out (by simp;omega) (fun gg hg=>(ROWd.out.lt gg hg).1)))
        go_roundw
        case rel=>exact ⟨k + 1,by omega,by go_num,NX.out,by rw [GS.out,← svs_snoc];exact OW.out,BG.out⟩
        case measure=>simp [intOf];omega
      · have z1:(z != 0)=true:=bne_iff_ne.2 z0
        have hf:res=((0,0),z):=by
          have hh:=HIT.out z0
          rw [← hh]
          exact R1.out (by rw [hh];exact z0)
        subst hf
        obtain ⟨g0,g1,g2,g3,gl⟩:=pair_alloc (pair_in R0.out BW.out l1) (.cells #[.int .i64 u,.int .i64 v] 34)
        clear HIT NEXT
        go_wp2
        refine bodyPost_ret (v:=spr ((0,0),z)) (by rw [results_cell_tmp rfl];go_simp) rfl ⟨rfl,?_⟩
        exact pair_set2 (balloc (B0.out.trans (BW.out.mono B0.out.size)) _) (by show w.heap.size≤w.heap.size + 1;omega)
    · obtain rfl:k=n:=by omega
      have hf:=R2.out GOOD.out
      subst hf
      have UV:=Lib.hid (own_base9 ROW.out (Nat.zero_le _))
      have SM0:=Lib.hid (SM.out GOOD.out)
      have Q4:=Lib.hid (pair_in R0.out BB.out l1)
      clear G HI HZ0 HZ1 HZ2 ROW R1 R2 GOOD SM M0 R0
      go_wp2_with fail
      refine (SM0.out _ _ UV.out).mono ?_
      rintro e w5 ⟨rfl,hb5⟩
      obtain ⟨g0,g1,g2,g3,gl⟩:=pair_below Q4.out hb5
      go_wp2
      refine bodyPost_ret (v:=spr res) (by rw [results_cell_tmp rfl];go_simp) rfl ⟨rfl,?_⟩
      exact pair_set2 ((B0.out.trans (BB.out.mono B0.out.size)).trans (hb5.mono (Nat.le_trans B0.out.size szw))) (by show w.heap.size≤w.heap.size + 1;omega)
theorem rsc_keep {W:World} {b0 b off k n:Nat} {x:P3} {Q:Nat→Pu} {q:Pu} (h:Own W b0 x) (r:RowU W b off n Q) (hk:k < n) (e:Q k=q):W.cell? ⟨b,off + k * 11,none⟩=some (.int .i64 q.1.1.1)∧W.cell? ⟨b,off + k * 11 + 1,none⟩=some (.int .i64 q.1.1.2.1)∧W.cell? ⟨b,off + k * 11 + 1 + 1,none⟩=some (.int .i64 q.1.1.2.2)∧W.cell? ⟨b,off + k * 11 + 1 + 1 + 1,none⟩=some (.int .i64 q.1.2.1.1)∧W.cell? ⟨b,off + k * 11 + 1 + 1 + 1 + 1,none⟩=some (.int .i64 q.1.2.1.2.1)∧W.cell? ⟨b,off + k * 11 + 1 + 1 + 1 + 1 + 1,none⟩=some (.int .i64 q.1.2.1.2.2)∧W.cell? ⟨b,off + k * 11 + 1 + 1 + 1 + 1 + 1 + 1,none⟩=some (.int .i64 q.1.2.2.1)∧W.cell? ⟨b,off + k * 11 + 1 + 1 + 1 + 1 + 1 + 1 + 1,none⟩=some (.int .i64 q.1.2.2.2.1)∧W.cell? ⟨b,off + k * 11 + 1 + 1 + 1 + 1 + 1 + 1 + 1 + 1,none⟩=some (.int .i64 q.1.2.2.2.2)∧W.cell? ⟨b,off + k * 11 + 1 + 1 + 1 + 1 + 1 + 1 + 1 + 1 + 1,none⟩=some (.int .i64 q.2.1)∧W.cell? ⟨b,off + k * 11 + 1 + 1 + 1 + 1 + 1 + 1 + 1 + 1 + 1 + 1,none⟩=some (.int .i64 q.2.2)∧W.cell? ⟨b0,0,none⟩=some (.int .i64 x.1)∧W.cell? ⟨b0,1,none⟩=some (.int .i64 x.2.1)∧W.cell? ⟨b0,2,none⟩=some (.int .i64 x.2.2):=by
  subst e
  obtain ⟨k0,k1,k2,k3,k4,k5,k6,k7,k8,k9,k10⟩:=r.2 k hk
  exact ⟨k0,k1,k2,k3,k4,k5,k6,k7,k8,k9,k10,h.1,h.2.1,h.2.2.1⟩
end Go.Proofs.YtgchcnpgjfoadaaGreat
namespace Go.Proofs.YtgchcnpgjfoadaaGreat
open Go.ChangeShapes Go.WideShapes Go.RowKit
open Sh
def sceQ (x:P3) (s d:Int) (Q:Nat→Pu) (n:Nat) (t:Int):Sp.R:=sceR (fun k=>hdR x s d (Q k) t) n
def scode (n:Nat) (Q:Nat→Pu) (x:P3) (s t d:Int):Int:=if vpcode n Q=0 then acode8 x s t d else vpcode n Q
theorem scode_m (n:Nat) (Q:Nat→Pu) (x:P3) (s t d:Int):mcode8 (vpcode n Q) x s d (tcode (fun _=>t) 1)=scode n Q x s t d:=by
  have f:tcode (fun _=>t) 1=if rngB t 0 2000 then 0 else 1:=by
    show (if (0:Int)=0 then (if rngB t 0 2000 then (0:Int) else 1) else 1)=_
    rw [if_pos rfl]
  rw [f]
  unfold mcode8 scode acode8
  cases inP 256 x <;> cases rngB s 1 16 <;> cases rngB t 0 2000 <;> cases rngB d 0 3 <;> rfl
theorem vpk_ok {n:Nat} {Q:Nat→Pu} (h:vpcode n Q=0):n≤16∧∀ k,k < n→pucode (Q k)=0:=by
  unfold vpcode at h
  by_cases z:n≤16
  · rw [if_pos z] at h;exact ⟨z,fun k hk=>pucodes_all h k hk⟩
  · rw [if_neg z] at h;exact absurd h (by decide)
theorem scode_ok {n:Nat} {Q:Nat→Pu} {x:P3} {s t d:Int} (h:scode n Q x s t d=0):(n≤16∧∀ k,k < n→pucode (Q k)=0)∧BdP 256 x∧(1≤s∧s≤16)∧(0≤t∧t≤2000)∧(0≤d∧d≤3):=by
  unfold scode at h
  by_cases z:vpcode n Q=0
  · rw [if_pos z] at h
    exact ⟨vpk_ok z,acode8_ok h⟩
  · rw [if_neg z] at h
    exact absurd h z
def scnR (n:Nat) (Q:Nat→Pu) (x:P3) (s t d:Int):Sp.R:=if scode n Q x s t d=0 then sceQ x s d Q n t else ((0,0),scode n Q x s t d)
theorem sce_any (x:P3) (s d tick:Int) (a:Option Addr) (n c:Nat) (Q:Nat→Pu) (w:World) (rr:LstU w a n Q) (hn:n≤60) (hp:∀ k,k < n→pucode (Q k)=0) (hx:BdP 256 x) (s1:1≤s) (s2:s≤16) (d1:0≤d) (d2:d≤3) (t1:0≤tick) (t2:tick≤2000):Calls Tryz.prog 31 #[micv x s d,.slice a n c,.int .i64 tick] w fun e w'=>e=.returned (spr (sceQ x s d Q n tick))∧Below w.heap.size w w':=by
  unfold sceQ
  refine sce_walk x s d tick a n c Q w (fun k=>hdR x s d (Q k) tick) (smR8 (fun k=>((gsN (fun k=>hdR x s d (Q k) tick) n).getD k (0,0)).1) (fun k=>((gsN (fun k=>hdR x s d (Q k) tick) n).getD k (0,0)).2) n) _ rr hn (Lib.hid fun k hk W=>hrd_any x s d (Q k) tick W (hp k hk) hx s1 s2 d1 d2 t1 t2) (Lib.hid fun h=>?_) (Lib.hid fun h=>?_) (Lib.hid fun h u W ho=>sum8_own u n _ W ho (gsN_len _ _) (by omega))
  · unfold sceR;rw [if_pos h]
  · unfold sceR;rw [if_neg (show ¬ (geN (fun k=>hdR x s d (Q k) tick) n ≠ 0) from fun c=>c h)]
set_option maxRecDepth 100000 in
set_option maxHeartbeats 4000000 in
theorem scn_no (a:Option Addr) (n c:Nat) (x:P3) (s t d:Int) (cc:Int) (w:World) (C:Hid (∀ (W:World) (b:Nat),Below w.heap.size w W→b=W.heap.size→Calls Tryz.prog 24 #[micv x s d,.slice a n c,.slice (some ⟨b,0,none⟩) 1 1] (W.alloc (.cells #[.int .i64 t] 3)) fun e w'=>e=.returned (.int .i64 cc)∧Below (W.alloc (.cells #[.int .i64 t] 3)).heap.size (W.alloc (.cells #[.int .i64 t] 3)) w')) (z:(cc != 0)=true):Calls Tryz.prog 21 #[.slice a n c,ptv x,.int .i64 s,.int .i64 t,.int .i64 d] w fun e w'=>e=.returned (spr ((0,0),cc))∧Below w.heap.size w w':=by
  have R:=Lib.hid (pair_alloc (pair_new (w.alloc (ptc x 24)) 0 0 34) (micb x s d 55))
  have M:=Lib.hid (ownMic_new ((w.alloc (ptc x 24)).alloc (.cells #[.int .i64 0,.int .i64 0] 34)) x s d 55)
  have B0:=Lib.hid (show Below w.heap.size w (((w.alloc (ptc x 24)).alloc (.cells #[.int .i64 0,.int .i64 0] 34)).alloc (micb x s d 55)) by (repeat' (first | exact Below.refl _ _ | refine Below.setCell ?_ (by simp <;> omega) _ | refine balloc ?_ _ | refine Below.drew ?_ | refine bdrewN ?_ _)))
  have C0:=Lib.hid (C.out (((w.alloc (ptc x 24)).alloc (.cells #[.int .i64 0,.int .i64 0] 34)).alloc (micb x s d 55)) (w.heap.size + 1 + 1 + 1) B0.out (by simp))
  simp only [World.size_alloc] at R M
  go_enter Tryz.func21,Tryz.ntmps21
  go_wp2_with fail
  refine C0.out.mono ?_
  rintro e w1 ⟨rfl,hb1⟩
  obtain ⟨g0,g1,g2,g3,gl⟩:=pair_below (pair_alloc R.out (.cells #[.int .i64 t] 3)) hb1
  go_wp2
  refine bodyPost_ret (v:=spr ((0,0),cc)) (by rw [results_cell_tmp rfl];go_simp) rfl ⟨rfl,?_⟩
  (repeat' (first | exact Below.refl _ _ | refine bstep ?_ hb1 | refine Below.setCell ?_ (by simp <;> omega) _ | refine balloc ?_ _ | refine Below.drew ?_ | refine bdrewN ?_ _))
set_option maxRecDepth 100000 in
set_option maxHeartbeats 4000000 in
theorem scn_ok (a:Option Addr) (n c:Nat) (x:P3) (s t d:Int) (r:Sp.R) (w:World) (C:Hid (∀ (W:World) (b:Nat),Below w.heap.size w W→b=W.heap.size→Calls Tryz.prog 24 #[micv x s d,.slice a n c,.slice (some ⟨b,0,none⟩) 1 1] (W.alloc (.cells #[.int .i64 t] 3)) fun e w'=>e=.returned (.int .i64 0)∧Below (W.alloc (.cells #[.int .i64 t] 3)).heap.size (W.alloc (.cells #[.int .i64 t] 3)) w')) (H:Hid (∀ W,Below w.heap.size w W→Calls Tryz.prog 31 #[micv x s d,.slice a n c,.int .i64 t] W fun e w'=>e=.returned (spr r)∧Below W.heap.size W w')):Calls Tryz.prog 21 #[.slice a n c,ptv x,.int .i64 s,.int .i64 t,.int .i64 d] w fun e w'=>e=.returned (spr r)∧Below w.heap.size w w':=by
  have R:=Lib.hid (pair_alloc (pair_new (w.alloc (ptc x 24)) 0 0 34) (micb x s d 55))
  have M:=Lib.hid (ownMic_new ((w.alloc (ptc x 24)).alloc (.cells #[.int .i64 0,.int .i64 0] 34)) x s d 55)
  have B0:=Lib.hid (show Below w.heap.size w (((w.alloc (ptc x 24)).alloc (.cells #[.int .i64 0,.int .i64 0] 34)).alloc (micb x s d 55)) by (repeat' (first | exact Below.refl _ _ | refine Below.setCell ?_ (by simp <;> omega) _ | refine balloc ?_ _ | refine Below.drew ?_ | refine bdrewN ?_ _)))
  have C0:=Lib.hid (C.out (((w.alloc (ptc x 24)).alloc (.cells #[.int .i64 0,.int .i64 0] 34)).alloc (micb x s d 55)) (w.heap.size + 1 + 1 + 1) B0.out (by simp))
  simp only [World.size_alloc] at R M
  go_enter Tryz.func21,Tryz.ntmps21
  go_wp2_with fail
  refine C0.out.mono ?_
  rintro e w1 ⟨rfl,hb1⟩
  obtain ⟨g0,g1,g2,g3,gl⟩:=pair_below (pair_alloc R.out (.cells #[.int .i64 t] 3)) hb1
  obtain ⟨⟨m0,m1,m2,m3,m4⟩,ml⟩:=ownMic_below (ownMic_alloc M.out (.cells #[.int .i64 t] 3)) hb1
  have E0:=Lib.hid (show Pair w1 (w.heap.size + 1) 0 0 from ⟨g0,g1,g2,g3,gl⟩)
  have B1:=Lib.hid (show Below w.heap.size w w1 by (repeat' (first | exact Below.refl _ _ | refine bstep ?_ hb1 | refine Below.setCell ?_ (by simp <;> omega) _ | refine balloc ?_ _ | refine Below.drew ?_ | refine bdrewN ?_ _)))
  go_wp2_with fail
  refine (H.out _ B1.out).mono ?_
  rintro e w2 ⟨rfl,hb2⟩
  clear g0 g1 g2 g3 gl m0 m1 m2 m3 m4 ml
  obtain ⟨g0,g1,g2,g3,gl⟩:=pair_below E0.out hb2
  go_wp2
  refine bodyPost_ret (v:=spr r) (by rw [results_cell_tmp rfl];go_simp) rfl ⟨rfl,?_⟩
  (repeat' (first | exact Below.refl _ _ | refine bstep ?_ hb2 | refine bstep ?_ hb1 | refine Below.setCell ?_ (by simp <;> omega) _ | refine balloc ?_ _ | refine Below.drew ?_ | refine bdrewN ?_ _))
theorem lstT_one (W:World) (b:Nat) (t:Int) (h:b=W.heap.size):LstT (W.alloc (.cells #[.int .i64 t] 3)) (some ⟨b,0,none⟩) 1 (fun _=>t):=fun _=>⟨_,_,rfl,by simp [h],fun k hk=>by
    obtain rfl:k=0:=by omega
    subst h
    rw [Nat.add_zero]
    go_simp⟩
theorem scn_any (a:Option Addr) (n c:Nat) (Q:Nat→Pu) (x:P3) (s t d:Int) (w:World) (rr:LstU w a n Q) (hn:n≤140737488355328):Calls Tryz.prog 21 #[.slice a n c,ptv x,.int .i64 s,.int .i64 t,.int .i64 d] w fun e w'=>e=.returned (spr (scnR n Q x s t d))∧Below w.heap.size w w':=by
  have C:=fun (W:World) (b:Nat) (B:Below w.heap.size w W) (e:b=W.heap.size)=>mck_any x s d a n c (some ⟨b,0,none⟩) 1 1 Q (fun _=>t) (W.alloc (.cells #[.int .i64 t] 3)) (lstU_below (lstU_below rr B) ((Below.refl _ _).alloc (Nat.le_refl _) _)) hn (lstT_one W b t e) (by decide)
  rw [scode_m] at C
  unfold scnR
  by_cases z:scode n Q x s t d=0
  · rw [if_pos z]
    rw [z] at C
    obtain ⟨⟨h0,h1⟩,h2,h3,h4,h5⟩:=scode_ok z
    exact scn_ok a n c x s t d _ w (Lib.hid C) (Lib.hid fun W B=>sce_any x s d t a n c Q W (lstU_below rr B) (by omega) h1 h2 h3.1 h3.2 h5.1 h5.2 h4.1 h4.2)
  · rw [if_neg z]
    exact scn_no a n c x s t d _ w (Lib.hid C) (bne_iff_ne.2 z)
end Go.Proofs.YtgchcnpgjfoadaaGreat
namespace Go.Proofs.YtgchcnpgjfoadaaGreat
open Go.ChangeShapes Go.WideShapes Go.RowKit
open Sh
attribute [local go_sem 1000000] run_min_mn run_max_mx
def SpR (W:World) (n:Nat) (e:Int) (l:List (Int × Int)) (v:Value):Prop:=if e=0 then W.ownsRow 0 34 2 v n (svs l) else v=.slice none 0 0
theorem spR_below {W W':World} {n:Nat} {e:Int} {l:List (Int × Int)} {v:Value} (h:SpR W n e l v) (hb:Below W.heap.size W W'):SpR W' n e l v:=by
  unfold SpR at *
  by_cases z:e=0
  · rw [if_pos z] at h ⊢
    exact own_below9 h hb
  · rw [if_neg z] at h ⊢
    exact h
def T2 (f t:Int) (k:Nat):Int:=if k=0 then f else t
def trc0 (n:Nat) (Q:Nat→Pu) (x:P3) (s f t d:Int):Int:=mcode8 (vpcode n Q) x s d (tcode (T2 f t) 2)
def trcC (n:Nat) (Q:Nat→Pu) (x:P3) (s f t d:Int):Int:=if trc0 n Q x s f t d=0 then (if rngB (t - f) 0 200 then 0 else 1) else trc0 n Q x s f t d
theorem trc0_ok {n:Nat} {Q:Nat→Pu} {x:P3} {s f t d:Int} (h:trc0 n Q x s f t d=0):(n≤16∧∀ k,k < n→pucode (Q k)=0)∧BdP 256 x∧(1≤s∧s≤16)∧(0≤d∧d≤3)∧(0≤f∧f≤2000)∧0≤t∧t≤2000:=by
  obtain ⟨h1,h2,h3,h4,h5⟩:=mcode8_ok h
  refine ⟨vpk_ok h1,h2,h3,h4,?_⟩
  have e:tcode (T2 f t) 2=if (if (0:Int)=0 then (if rngB f 0 2000 then (0:Int) else 1) else 1)=0 then (if rngB t 0 2000 then (0:Int) else 1) else 1:=rfl
  rw [e,if_pos rfl] at h5
  cases hf:rngB f 0 2000 with
  | false=>rw [hf] at h5;simp at h5
  | true =>
    rw [hf] at h5
    cases ht:rngB t 0 2000 with
    | false=>rw [ht] at h5;simp at h5
    | true=>exact ⟨rngB_iff.1 hf,rngB_iff.1 ht⟩
theorem trcC_r (n:Nat) (Q:Nat→Pu) (x:P3) (s f t d:Int):trcC n Q x s f t d=if vpcode n Q=0 then (if acode8 x s f d=0 then (if rngB t f (Sp.mn (f + 200) 2000) then 0 else 1) else acode8 x s f d) else vpcode n Q:=by
  have e:tcode (T2 f t) 2=if (if (0:Int)=0 then (if rngB f 0 2000 then (0:Int) else 1) else 1)=0 then (if rngB t 0 2000 then (0:Int) else 1) else 1:=rfl
  unfold trcC trc0
  rw [e,if_pos rfl]
  unfold mcode8 acode8
  by_cases hv:vpcode n Q=0
  · rw [if_pos hv,if_pos hv]
    cases inP 256 x <;> cases rngB s 1 16 <;> cases hf:rngB f 0 2000 <;> cases rngB d 0 3 <;> simp
    obtain ⟨f1,f2⟩:=rngB_iff.1 hf
    cases ht:rngB t 0 2000 with
    | true =>
      obtain ⟨t1,t2⟩:=rngB_iff.1 ht
      have:rngB (t - f) 0 200=rngB t f (Sp.mn (f + 200) 2000):=by
        rw [Bool.eq_iff_iff,rngB_iff,rngB_iff,Sp.mn_eq]
        omega
      simp [this]
    | false =>
      have:rngB t f (Sp.mn (f + 200) 2000)=false:=by
        rw [Bool.eq_false_iff]
        intro c
        have c:=rngB_iff.1 c
        rw [Sp.mn_eq] at c
        have:=rngB_iff.2 (show 0≤t∧t≤2000 by omega)
        rw [ht] at this
        cases this
      simp [this]
  · rw [if_neg hv,if_neg hv,if_neg hv]
set_option maxRecDepth 100000 in
set_option maxHeartbeats 4000000 in
theorem trc_c (a:Option Addr) (n c:Nat) (x:P3) (s f t d:Int) (cc:Int) (w:World) (C:Hid (∀ (W:World) (b:Nat),Below w.heap.size w W→b=W.heap.size→Calls Tryz.prog 24 #[micv x s d,.slice a n c,.slice (some ⟨b,0,none⟩) 2 2] (W.alloc (.cells #[.int .i64 f,.int .i64 t] 3)) fun e w'=>e=.returned (.int .i64 cc)∧Below (W.alloc (.cells #[.int .i64 f,.int .i64 t] 3)).heap.size (W.alloc (.cells #[.int .i64 f,.int .i64 t] 3)) w')) (z:(cc != 0)=true):Calls Tryz.prog 9 #[.slice a n c,ptv x,.int .i64 s,.int .i64 f,.int .i64 t,.int .i64 d] w fun e w'=>e=.returned (.tuple #[.slice none 0 0,.int .i64 cc])∧Below w.heap.size w w':=by
  have M:=Lib.hid (ownMic_new (w.alloc (ptc x 24)) x s d 55)
  have B0:=Lib.hid (show Below w.heap.size w ((w.alloc (ptc x 24)).alloc (micb x s d 55)) by (repeat' (first | exact Below.refl _ _ | refine Below.setCell ?_ (by simp <;> omega) _ | refine balloc ?_ _ | refine Below.drew ?_ | refine bdrewN ?_ _)))
  have C0:=Lib.hid (C.out ((w.alloc (ptc x 24)).alloc (micb x s d 55)) (w.heap.size + 1 + 1) B0.out (by simp))
  simp only [World.size_alloc] at M
  go_enter Tryz.func9,Tryz.ntmps9
  go_wp2_with fail
  refine C0.out.mono ?_
  rintro e w1 ⟨rfl,hb1⟩
  go_wp2
  go_ret2
  exact ⟨rfl,by (repeat' (first | exact Below.refl _ _ | refine bstep ?_ hb1 | refine Below.setCell ?_ (by simp <;> omega) _ | refine balloc ?_ _ | refine Below.drew ?_ | refine bdrewN ?_ _))⟩
set_option maxRecDepth 100000 in
set_option maxHeartbeats 4000000 in
theorem trc_r (a:Option Addr) (n c:Nat) (x:P3) (s f t d:Int) (w:World) (C:Hid (∀ (W:World) (b:Nat),Below w.heap.size w W→b=W.heap.size→Calls Tryz.prog 24 #[micv x s d,.slice a n c,.slice (some ⟨b,0,none⟩) 2 2] (W.alloc (.cells #[.int .i64 f,.int .i64 t] 3)) fun e w'=>e=.returned (.int .i64 0)∧Below (W.alloc (.cells #[.int .i64 f,.int .i64 t] 3)).heap.size (W.alloc (.cells #[.int .i64 f,.int .i64 t] 3)) w')) (f1:0≤f) (f2:f≤2000) (t1:0≤t) (t2:t≤2000) (I:Hid (∀ W,Calls Tryz.prog 30 #[.int .i64 (t - f),.int .i64 0,.int .i64 200] W fun e w'=>e=.returned (.bool false)∧W=w')):Calls Tryz.prog 9 #[.slice a n c,ptv x,.int .i64 s,.int .i64 f,.int .i64 t,.int .i64 d] w fun e w'=>e=.returned (.tuple #[.slice none 0 0,.int .i64 1])∧Below w.heap.size w w':=by
  have M:=Lib.hid (ownMic_new (w.alloc (ptc x 24)) x s d 55)
  have B0:=Lib.hid (show Below w.heap.size w ((w.alloc (ptc x 24)).alloc (micb x s d 55)) by (repeat' (first | exact Below.refl _ _ | refine Below.setCell ?_ (by simp <;> omega) _ | refine balloc ?_ _ | refine Below.drew ?_ | refine bdrewN ?_ _)))
  have C0:=Lib.hid (C.out ((w.alloc (ptc x 24)).alloc (micb x s d 55)) (w.heap.size + 1 + 1) B0.out (by simp))
  simp only [World.size_alloc] at M
  go_enter Tryz.func9,Tryz.ntmps9
  go_wp2_with fail
  refine C0.out.mono ?_
  rintro e w1 ⟨rfl,hb1⟩
  go_wp2_with fail
  refine (I.out _).mono ?_
  rintro e w2 ⟨rfl,rfl⟩
  go_wp2
  go_ret2
  exact ⟨rfl,by (repeat' (first | exact Below.refl _ _ | refine bstep ?_ hb1 | refine Below.setCell ?_ (by simp <;> omega) _ | refine balloc ?_ _ | refine Below.drew ?_ | refine bdrewN ?_ _))⟩
set_option maxRecDepth 100000 in
set_option maxHeartbeats 4000000 in
theorem trc_ok (a:Option Addr) (n c:Nat) (x:P3) (s f t d:Int) (m:Nat) (G:Nat→Sp.R) (hm:(m:Int)=t - f + 1) (hm2:m≤201) (w:World) (C:Hid (∀ (W:World) (b:Nat),Below w.heap.size w W→b=W.heap.size→Calls Tryz.prog 24 #[micv x s d,.slice a n c,.slice (some ⟨b,0,none⟩) 2 2] (W.alloc (.cells #[.int .i64 f,.int .i64 t] 3)) fun e w'=>e=.returned (.int .i64 0)∧Below (W.alloc (.cells #[.int .i64 f,.int .i64 t] 3)).heap.size (W.alloc (.cells #[.int .i64 f,.int .i64 t] 3)) w')) (f1:0≤f) (f2:f≤2000) (t1:0≤t) (t2:t≤2000) (I:Hid (∀ W,Calls Tryz.prog 30 #[.int .i64 (t - f),.int .i64 0,.int .i64 200] W fun e w'=>e=.returned (.bool true)∧W=w')) (SCH:Hid (∀ k,k < m→∀ W,Below w.heap.size w W→Calls Tryz.prog 31 #[micv x s d,.slice a n c,.int .i64 (f + (k:Int))] W fun e w'=>e=.returned (spr (G k))∧Below W.heap.size W w')):Calls Tryz.prog 9 #[.slice a n c,ptv x,.int .i64 s,.int .i64 f,.int .i64 t,.int .i64 d] w fun e w'=>∃ v,e=.returned (.tuple #[v,.int .i64 (geN G m)])∧SpR w' m (geN G m) (gsN G m) v∧Below w.heap.size w w':=by
  obtain ⟨i0,hi,hz0,hz1,hz2⟩:=info_parts infoSp8
  have HI:=Lib.hid hi
  have HZ0:=Lib.hid hz0
  have HZ1:=Lib.hid hz1
  have HZ2:=Lib.hid hz2
  clear hi hz0 hz1 hz2
  have M:=Lib.hid (ownMic_new (w.alloc (ptc x 24)) x s d 55)
  have B0:=Lib.hid (show Below w.heap.size w ((w.alloc (ptc x 24)).alloc (micb x s d 55)) by (repeat' (first | exact Below.refl _ _ | refine Below.setCell ?_ (by simp <;> omega) _ | refine balloc ?_ _ | refine Below.drew ?_ | refine bdrewN ?_ _)))
  have C0:=Lib.hid (C.out ((w.alloc (ptc x 24)).alloc (micb x s d 55)) (w.heap.size + 1 + 1) B0.out (by simp))
  simp only [World.size_alloc] at M
  go_enter Tryz.func9,Tryz.ntmps9
  go_wp2_with fail
  refine C0.out.mono ?_
  rintro e w1 ⟨rfl,hb1⟩
  go_wp2_with fail
  refine (I.out _).mono ?_
  rintro e w2 ⟨rfl,rfl⟩
  have M2:=Lib.hid (ownMic_below (ownMic_alloc M.out (.cells #[.int .i64 f,.int .i64 t] 3)) hb1)
  have B2:=Lib.hid (show Below w.heap.size w w1 by (repeat' (first | exact Below.refl _ _ | refine bstep ?_ hb1 | refine Below.setCell ?_ (by simp <;> omega) _ | refine balloc ?_ _ | refine Below.drew ?_ | refine bdrewN ?_ _)))
  have l0:=M2.out.2
  clear hb1 M I
  generalize w1=w2 at *
  go_wp2
  go_loopw [16,17] (fun sv kv wr=>∃ k:Nat,k≤m∧kv=.int .i64 (f + (k:Int))∧geN G k=0∧wr.ownsRow w2.heap.size 34 2 sv k (svs (gsN G k))∧Below w2.heap.size w2 wr) (fun _ kv _=>m - (intOf kv - f).toNat)
  case atStart=>exact ⟨0,Nat.zero_le _,congrArg (Value.int .i64) (by omega),rfl,World.ownsRow_nil _ _ _ _,Below.refl _ _⟩
  case round =>
    obtain ⟨k,hk,rfl,good,how,hbb⟩:=hrel
    have GOOD:=Lib.hid good
    have ROW:=Lib.hid how
    have BB:=Lib.hid hbb
    clear good how hbb
    have szw:=BB.out.size
    by_cases hlt:k < m
    · have hk1:f + (k:Int)≤t:=by omega
      have GK:=Lib.hid (SCH.out k hlt)
      have HIT:=Lib.hid (fun h:(G k).2 ≠ 0=>geN_hit hlt GOOD.out h)
      have NEXT:=Lib.hid (fun h:(G k).2=0=>geN_next GOOD.out h)
      have GS:=Lib.hid (show gsN G (k + 1)=gsN G k ++ [(G k).1] from rfl)
      have BK:=Lib.hid (B2.out.trans (BB.out.mono B2.out.size))
      have MW:=Lib.hid (ownMic_in8 M2.out BB.out l0)
      obtain ⟨⟨m0,m1,m2,m3,m4⟩,ml⟩:=MW.out
      clear MW
      generalize G k=gr at *
      go_wp2_with fail
      refine (GK.out _ BK.out).mono ?_
      rintro e w5 ⟨rfl,hb5⟩
      obtain ⟨⟨u,v⟩,z⟩:=gr
      dsimp only at *
      have BW:=Lib.hid (BB.out.trans (hb5.mono szw))
      have ROWd:=Lib.hid (own_below9 ROW.out hb5)
      have sz5:=BW.out.size
      clear hb5 ROW GK m0 m1 m2 m3 m4 ml
      obtain ⟨e0,e1,e2,e3,el⟩:=pair_new w5 u v 34
      by_cases z0:z=0
      · subst z0
        have NX:=Lib.hid (NEXT.out (by first | rfl | trivial))
        clear HIT NEXT
        have ROWc:=Lib.hid (ROWd.out.alloc (.cells #[.int .i64 u,.int .i64 v] 34))
        have hm60:k + 1≤201:=by omega
        go_wp2_with (at_builtin;(refine wpList_append_own _ rfl _ _ 37 rfl w2.heap.size 34 i0 (.agg #[.int .i64 0,.int .i64 0]) 2 16 Tryz.underlying37 HI.out HZ0.out HZ1.out HZ2.out rfl (by decide) _ k (svs (gsN G k)) rfl (ROWc.out.alloc _) ⟨_,0,none⟩ 1 1 [.int .i64 u,.int .i64 v] rfl rfl (sp2_new' _ _ _ _ _ (by simp)) (by intro u hu;simp at hu;rcases hu with rfl | rfl <;> rfl) (by unfold maxLen;omega) (by omega) (by simp;omega) ?_);intro v' w7 hown' hgrow _;have OW:=Lib.hid hown';have GR:=Lib.hid hgrow;clear hown' hgrow)
        have BG:=Lib.hid (BW.out.trans ((((Below.refl w2.heap.size w5).alloc (by omega) _).alloc (by simp;omega) _).grown GR.out (by simp;omega) (fun gg hg=>(ROWd.out.lt gg hg).1)))
        go_roundw
        case rel=>exact ⟨k + 1,by omega,congrArg (Value.int .i64) (by omega),NX.out,by rw [GS.out,← svs_snoc];exact OW.out,BG.out⟩
        case measure=>simp [intOf];omega
      · have z1:(z != 0)=true:=bne_iff_ne.2 z0
        have hh:=Lib.hid (HIT.out z0)
        have B3:=Lib.hid (balloc (B2.out.trans (BW.out.mono B2.out.size)) (.cells #[.int .i64 u,.int .i64 v] 34))
        clear HIT NEXT
        go_wp2
        go_ret2
        refine ⟨.slice none 0 0,by rw [hh.out];rfl,?_,B3.out⟩
        unfold SpR
        rw [hh.out,if_neg z0]
    · obtain rfl:k=m:=by omega
      have hk1:¬ (f + (k:Int)≤t):=by omega
      go_wp2
      go_ret2
      refine ⟨_,by rw [GOOD.out];rfl,?_,B2.out.trans (BB.out.mono B2.out.size)⟩
      unfold SpR
      rw [GOOD.out,if_pos rfl]
      exact own_base9 ROW.out (Nat.zero_le _)
end Go.Proofs.YtgchcnpgjfoadaaGreat
