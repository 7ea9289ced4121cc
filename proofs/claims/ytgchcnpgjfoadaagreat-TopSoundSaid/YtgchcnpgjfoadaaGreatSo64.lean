import Derived.Test.YtgchcnpgjfoadaaGreatSo63
namespace Go.Proofs.YtgchcnpgjfoadaaGreat
open Go.ChangeShapes Go.WideShapes Go.RowKit
open Sh
theorem scale8_val {lo hi a:Int} (h:(scaleR lo hi a).2=0):(scaleR lo hi a).1=(Sp.mn (lo * a) (hi * a),Sp.mx (lo * a) (hi * a)):=by
  unfold scaleR at h ⊢
  by_cases c:Sp.vldB lo hi=true∧-1099511627776≤a∧a≤1099511627776
  · rw [if_pos c] at h ⊢
    generalize Sp.mn (lo * a) (hi * a)=u at *
    generalize Sp.mx (lo * a) (hi * a)=v at *
    unfold Sp.told at h ⊢
    by_cases y:Sp.vldB u v=true
    · rw [if_pos y]
    · rw [if_neg y] at h;exact absurd h (by decide)
  · rw [if_neg c] at h;exact absurd h (by decide)
theorem mn8_val {l h:Nat→Int} {n:Nat} (hn:0 < n) (e:(mnR8 l h n).2=0):(mnR8 l h n).1=(Sp.fl (sm l n) n,Sp.ce (sm h n) n):=by
  unfold mnR8 at e ⊢
  by_cases c:(List.range n).all (fun k=>Sp.vldB (l k) (h k))=true
  · rw [if_pos c] at e ⊢
    unfold meanR at e ⊢
    rw [if_pos rfl,if_neg (by omega)] at e ⊢
    generalize Sp.fl (sm l n) n=u at *
    generalize Sp.ce (sm h n) n=v at *
    unfold Sp.told at e ⊢
    by_cases y:Sp.vldB u v=true
    · rw [if_pos y]
    · rw [if_neg y] at e;exact absurd e (by decide)
  · rw [if_neg c] at e;exact absurd e (by decide)
theorem hd_val {x:P3} {s d:Int} {p:Pu} {t:Nat} (h:(hdR x s d p t).2=0):(hdR x s d p t).1=(Sp.mn (hF x s d p t * p.2.2) (hC x s d p t * p.2.2),Sp.mx (hF x s d p t * p.2.2) (hC x s d p t * p.2.2)):=by
  have n0:(0:Int) < (ptn d:Int):=by have:=ptn_pos d;omega
  by_cases c:(t:Int)≤p.2.1
  · have e1:sm (pLo x s d p t) (ptn d)=0:=sm_zero fun k _=>by unfold pLo;exact if_pos c
    have e2:sm (pHi x s d p t) (ptn d)=0:=sm_zero fun k _=>by unfold pHi;exact if_pos c
    have f1:hF x s d p t=0:=by unfold hF;rw [e1,Sp.fl_pos n0];simp
    have f2:hC x s d p t=0:=by unfold hC Sp.ce;rw [e2,Int.neg_zero,Sp.fl_pos n0];simp
    rw [f1,f2,Int.zero_mul]
    unfold hdR
    rw [if_pos c]
    rfl
  · unfold hdR at h ⊢
    rw [if_neg c] at h ⊢
    by_cases g:gie (shG x s d ((t:Int) - p.2.1)) (ptk p.1 d) (ptn d)=0
    · rw [if_neg (fun y=>y g)] at h ⊢
      have l1:sm (fun k=>((gis (shG x s d ((t:Int) - p.2.1)) (ptk p.1 d) (ptn d)).getD k (0,0)).1) (ptn d)=sm (pLo x s d p t) (ptn d):=q8sm_cg fun k hk=>by
        show ((gis (shG x s d ((t:Int) - p.2.1)) (ptk p.1 d) (ptn d)).getD k (0,0)).1=_
        rw [gis_at hk]
        unfold pLo
        rw [if_neg c]
      have l2:sm (fun k=>((gis (shG x s d ((t:Int) - p.2.1)) (ptk p.1 d) (ptn d)).getD k (0,0)).2) (ptn d)=sm (pHi x s d p t) (ptn d):=q8sm_cg fun k hk=>by
        show ((gis (shG x s d ((t:Int) - p.2.1)) (ptk p.1 d) (ptn d)).getD k (0,0)).2=_
        rw [gis_at hk]
        unfold pHi
        rw [if_neg c]
      have V:=mn8_val (l:=fun k=>((gis (shG x s d ((t:Int) - p.2.1)) (ptk p.1 d) (ptn d)).getD k (0,0)).1) (h:=fun k=>((gis (shG x s d ((t:Int) - p.2.1)) (ptk p.1 d) (ptn d)).getD k (0,0)).2) (ptn_pos d)
      rw [l1,l2] at V
      dsimp only at h ⊢
      obtain ⟨M,hM⟩:∃ M,mnR8 (fun k=>((gis (shG x s d ((t:Int) - p.2.1)) (ptk p.1 d) (ptn d)).getD k (0,0)).1) (fun k=>((gis (shG x s d ((t:Int) - p.2.1)) (ptk p.1 d) (ptn d)).getD k (0,0)).2) (ptn d)=M:=⟨_,rfl⟩
      rw [hM] at h V ⊢
      by_cases z:M.2=0
      · rw [if_neg (fun y=>y z)] at h ⊢
        rw [V z] at h ⊢
        exact scale8_val h
      · rw [if_pos z] at h;exact absurd h z
    · rw [if_pos g] at h;exact absurd h g
theorem pot_val {x:P3} {D:Int} {q:Ch} (h:(potC x D q).2=0):anyz (ptd q.1 D x) (ptn D)=false∧(potC x D q).1=(Sp.mn (sm (mLo false q.1 D x) (ptn D) / (ptn D:Int) * q.2) ((sm (mHi false q.1 D x) (ptn D) + (ptn D:Int) - 1) / (ptn D:Int) * q.2),Sp.mx (sm (mLo false q.1 D x) (ptn D) / (ptn D:Int) * q.2) ((sm (mHi false q.1 D x) (ptn D) + (ptn D:Int) - 1) / (ptn D:Int) * q.2)):=by
  unfold potC at h ⊢
  by_cases z:(meF false q.1 x D).2=0
  · rw [if_pos z] at h ⊢
    unfold meF at z h ⊢
    by_cases y:snc q.1 x D=0
    · rw [if_pos y] at z h ⊢
      unfold mnF at z h ⊢
      by_cases a:anyz (ptd q.1 D x) (ptn D)=true
      · rw [if_pos a] at z;exact absurd z (by decide)
      · rw [if_neg a] at h ⊢
        exact ⟨by cases e:anyz (ptd q.1 D x) (ptn D) with | false=>rfl | true=>exact absurd e a,scale8_val h⟩
    · rw [if_neg y] at z;exact absurd z y
  · rw [if_neg z] at h;exact absurd h z
theorem mul_meet {f c F C a:Int} (h1:f≤C) (h2:F≤c):(0≤a→f * a≤Sp.mx (F * a) (C * a)∧Sp.mn (F * a) (C * a)≤c * a)∧(a≤0→c * a≤Sp.mx (F * a) (C * a)∧Sp.mn (F * a) (C * a)≤f * a):=by
  rw [Sp.mx_eq,Sp.mn_eq]
  constructor <;> intro h
  · have:=Int.mul_le_mul_of_nonneg_right h1 h
    have:=Int.mul_le_mul_of_nonneg_right h2 h
    omega
  · have:=Int.mul_le_mul_of_nonpos_right h1 h
    have:=Int.mul_le_mul_of_nonpos_right h2 h
    omega
theorem pulse_meet {x:P3} {s d:Int} {p:Pu} {T:Nat} (hp:pucode p=0) (hx:BdP 256 x) (s1:1≤s) (d1:0≤d) (d2:d≤3) (pt:(potC x d (chp p)).2=0) (tk:p.2.1 + (tkf (farN p.1 x) s:Nat) < T) (ok:∀ t:Nat,t < T→(hdR x s d p t).2=0) :
    sm (fun t=>(hdR x s d p (t:Nat)).1.1) T≤(potC x d (chp p)).1.2∧(potC x d (chp p)).1.1≤sm (fun t=>(hdR x s d p (t:Nat)).1.2) T:=by
  obtain ⟨an,pv⟩:=pot_val pt
  obtain ⟨c1,c2⟩:=pulse_core hp hx s1 d1 d2 (anyz_no an) tk
  have M:=mul_meet (a:=p.2.2) c1 c2
  have u1:∀ a b:Int,Sp.mn a b≤a∧Sp.mn a b≤b∧a≤Sp.mx a b∧b≤Sp.mx a b:=fun a b=>by rw [Sp.mx_eq,Sp.mn_eq];omega
  have w1:∀ t:Nat,t < T→(hdR x s d p t).1.1≤hF x s d p t * p.2.2∧(hdR x s d p t).1.1≤hC x s d p t * p.2.2∧hF x s d p t * p.2.2≤(hdR x s d p t).1.2∧hC x s d p t * p.2.2≤(hdR x s d p t).1.2:=fun t ht=>by
    rw [hd_val (ok t ht)]
    exact u1 _ _
  rw [pv]
  show sm (fun t=>(hdR x s d p (t:Nat)).1.1) T≤Sp.mx _ _∧Sp.mn _ _≤sm (fun t=>(hdR x s d p (t:Nat)).1.2) T
  rcases Int.le_total 0 p.2.2 with h | h
  · obtain ⟨m1,m2⟩:=M.1 h
    rw [← s8_scl] at m1 m2
    exact ⟨Int.le_trans (s8_le fun t ht=>(w1 t ht).1) m1,Int.le_trans m2 (s8_le fun t ht=>(w1 t ht).2.2.2)⟩
  · obtain ⟨m1,m2⟩:=M.2 h
    rw [← s8_scl] at m1 m2
    exact ⟨Int.le_trans (s8_le fun t ht=>(w1 t ht).2.1) m1,Int.le_trans m2 (s8_le fun t ht=>(w1 t ht).2.2.1)⟩
theorem geN_each {g:Nat→Sp.R} {n:Nat} (h:(sceR g n).2=0):∀ k,k < n→(g k).2=0:=by
  unfold sceR at h
  by_cases z:geN g n=0
  · exact q8geN_all z
  · rw [if_pos z] at h;exact absurd h z
theorem sums_meet {n T:Nat} {Q:Nat→Pu} {x:P3} {s d:Int} (tot:(totR n Q x d).2=0) (tke:tkE n Q x s=0) (tk:tk2 n Q x s < T) (sc:∀ t:Nat,t < T→(scnR n Q x s t d).2=0) :
    sm (fun t=>(scnR n Q x s (t:Nat) d).1.1) T≤(totR n Q x d).1.2∧(totR n Q x d).1.1≤sm (fun t=>(scnR n Q x s (t:Nat) d).1.2) T:=by
  have e9:=tke
  unfold tkE at e9
  have z:mcT n Q x s=0:=by
    by_cases z:mcT n Q x s=0
    · exact z
    · rw [if_neg z] at e9;exact absurd e9 z
  obtain ⟨⟨h16,hp⟩,hx,s1,s2⟩:=mcT_ok z
  unfold tk2 at tk
  rw [if_pos tke] at tk
  unfold totR at tot ⊢
  by_cases v:vpcode n Q=0
  · rw [if_pos v] at tot ⊢
    by_cases a:akc x d=0
    · rw [if_pos a] at tot ⊢
      obtain ⟨_,d1,d2⟩:=akc_ok a
      have T1:=geN_each tot
      rw [(q8sceR_ok tot).1]
      have S1:∀ t:Nat,t < T→(sceR (fun k=>hdR x s d (Q k) t) n).2=0∧scnR n Q x s t d=sceR (fun k=>hdR x s d (Q k) t) n:=fun t ht=>by
        have h:=sc t ht
        unfold scnR at h ⊢
        by_cases y:scode n Q x s t d=0
        · rw [if_pos y] at h ⊢;exact ⟨h,rfl⟩
        · rw [if_neg y] at h;exact absurd h y
      have L1:sm (fun t=>(scnR n Q x s (t:Nat) d).1.1) T=sm (fun t=>sm (fun k=>(hdR x s d (Q k) (t:Nat)).1.1) n) T:=q8sm_cg fun t ht=>by
        show (scnR n Q x s (t:Nat) d).1.1=_
        rw [(S1 t ht).2,(q8sceR_ok (S1 t ht).1).1]
      have L2:sm (fun t=>(scnR n Q x s (t:Nat) d).1.2) T=sm (fun t=>sm (fun k=>(hdR x s d (Q k) (t:Nat)).1.2) n) T:=q8sm_cg fun t ht=>by
        show (scnR n Q x s (t:Nat) d).1.2=_
        rw [(S1 t ht).2,(q8sceR_ok (S1 t ht).1).1]
      rw [L1,L2,s8_swap (fun t k=>(hdR x s d (Q k) (t:Nat)).1.1),s8_swap (fun t k=>(hdR x s d (Q k) (t:Nat)).1.2)]
      have P:∀ k,k < n→sm (fun t=>(hdR x s d (Q k) (t:Nat)).1.1) T≤(potC x d (chp (Q k))).1.2∧(potC x d (chp (Q k))).1.1≤sm (fun t=>(hdR x s d (Q k) (t:Nat)).1.2) T:=fun k hk=>by
        refine pulse_meet (hp k hk) hx s1 d1 d2 (T1 k hk) ?_ (fun t ht=>geN_each (S1 t ht).1 k hk)
        have:=mxf_ge (gT Q x s) (n:=n - 1) (k:=k) (by omega)
        exact Int.lt_of_le_of_lt this tk
      exact ⟨s8_le fun k hk=>(P k hk).1,s8_le fun k hk=>(P k hk).2⟩
    · rw [if_neg a] at tot;exact absurd tot a
  · rw [if_neg v] at tot;exact absurd tot v
end Go.Proofs.YtgchcnpgjfoadaaGreat
