import Derived.Test.YtgchcnpgjfoadaaGreatSo53
import Derived.Test.YtgchcnpgjfoadaaGreatSo50
namespace Go.Proofs.YtgchcnpgjfoadaaGreat
open Go.ChangeShapes Go.WideShapes Go.RowKit
open Sh
theorem q8gsN_at {g:Nat→Sp.R}:∀ {n k:Nat},k < n→(gsN g n).getD k (0,0)=(g k).1
  | 0,k,h=>absurd h (Nat.not_lt_zero k)
  | n + 1,k,h=>by
    show (gsN g n ++ [(g n).1]).getD k (0,0)=_
    rw [List.getD_eq_getElem?_getD]
    by_cases e:k=n
    · subst e
      rw [List.getElem?_append_right (by rw [gsN_len];omega),gsN_len,Nat.sub_self]
      rfl
    · rw [List.getElem?_append_left (by rw [gsN_len];omega),← List.getD_eq_getElem?_getD]
      exact q8gsN_at (by omega)
theorem nst_fine (n a b c u v z:Int) (h1:2 * min (min a b) c≤u∧u≤2 * max (max a b) c) (h2:2 * min (min a b) c≤v∧v≤2 * max (max a b) c) (h3:2 * min (min a b) c≤z∧z≤2 * max (max a b) c) :
    4 * ((n - nst n a b c) * (n - nst n a b c))≤(2 * n - nst (2 * n) u v z) * (2 * n - nst (2 * n) u v z):=by
  have e:4 * ((n - nst n a b c) * (n - nst n a b c))=(2 * (n - nst n a b c)) * (2 * (n - nst n a b c)):=by grind
  rw [e]
  refine sq_le8 ?_
  unfold nst lo3' hi3'
  simp only [Sp.mn_eq,Sp.mx_eq]
  omega
theorem sqn8 (x:Int):0≤x * x:=by
  rcases Int.le_total 0 x with h | h
  · exact Int.mul_nonneg h h
  · exact Int.mul_nonneg_of_nonpos_of_nonpos h h
theorem sq_par (p q x:P3):sq (sub (add p q) (tim 2 x))≤2 * sq (sub p x) + 2 * sq (sub q x):=by
  obtain ⟨p1,p2,p3⟩:=p
  obtain ⟨q1,q2,q3⟩:=q
  obtain ⟨x1,x2,x3⟩:=x
  have k:∀ a b c:Int,(a + b - 2 * c) * (a + b - 2 * c)≤2 * ((a - c) * (a - c)) + 2 * ((b - c) * (b - c)):=fun a b c=>by
    have h:=sqn8 (a - b)
    have e:(a + b - 2 * c) * (a + b - 2 * c) + (a - b) * (a - b)=2 * ((a - c) * (a - c)) + 2 * ((b - c) * (b - c)):=by grind
    omega
  have h1:=k p1 q1 x1
  have h2:=k p2 q2 x2
  have h3:=k p3 q3 x3
  simp only [sq,dot,sub,add,tim]
  omega
theorem tim_add2 (p:P3):tim 2 p=add p p:=Prod.ext (show 2 * p.1=p.1 + p.1 by omega) (Prod.ext (show 2 * p.2.1=p.2.1 + p.2.1 by omega) (show 2 * p.2.2=p.2.2 + p.2.2 by omega))
theorem far_ge (t:P9) (x:P3):sq (sub t.1 x)≤farN t x∧sq (sub t.2.1 x)≤farN t x∧sq (sub t.2.2 x)≤farN t x:=by
  unfold farN hi3'
  simp only [Sp.mx_eq]
  omega
theorem far_fine (t q:P9) (x:P3) (h:q ∈ qrs t):farN q (tim 2 x)≤4 * farN t x:=by
  obtain ⟨f1,f2,f3⟩:=far_ge t x
  have k:∀ a b:P3,sq (sub a x)≤farN t x→sq (sub b x)≤farN t x→sq (sub (add a b) (tim 2 x))≤4 * farN t x:=fun a b ha hb=>by
    have:=sq_par a b x
    omega
  have m:∀ u v z:P3,sq (sub u (tim 2 x))≤4 * farN t x→sq (sub v (tim 2 x))≤4 * farN t x→sq (sub z (tim 2 x))≤4 * farN t x→farN (u,v,z) (tim 2 x)≤4 * farN t x:=fun u v z h1 h2 h3=>by
    unfold farN hi3' at *
    simp only [Sp.mx_eq] at *
    omega
  unfold qrs qr0 qr1 qr2 qr3 at h
  simp only [tim_add2] at h
  simp only [List.mem_cons,List.not_mem_nil,or_false] at h
  rcases h with rfl | rfl | rfl | rfl
  · exact m _ _ _ (k _ _ f1 f1) (k _ _ f1 f2) (k _ _ f3 f1)
  · exact m _ _ _ (k _ _ f1 f2) (k _ _ f2 f2) (k _ _ f2 f3)
  · exact m _ _ _ (k _ _ f3 f1) (k _ _ f2 f3) (k _ _ f3 f3)
  · exact m _ _ _ (k _ _ f1 f2) (k _ _ f2 f3) (k _ _ f3 f1)
theorem near_fine (t q:P9) (x:P3) (h:q ∈ qrs t):4 * nearN t x≤nearN q (tim 2 x):=by
  obtain ⟨⟨a1,a2,a3⟩,⟨b1,b2,b3⟩,⟨c1,c2,c3⟩⟩:=t
  obtain ⟨x1,x2,x3⟩:=x
  have m:∀ u1 u2 u3 v1 v2 v3 z1 z2 z3:Int,(2 * min (min a1 b1) c1≤u1∧u1≤2 * max (max a1 b1) c1)→(2 * min (min a1 b1) c1≤v1∧v1≤2 * max (max a1 b1) c1)→(2 * min (min a1 b1) c1≤z1∧z1≤2 * max (max a1 b1) c1) →
      (2 * min (min a2 b2) c2≤u2∧u2≤2 * max (max a2 b2) c2)→(2 * min (min a2 b2) c2≤v2∧v2≤2 * max (max a2 b2) c2)→(2 * min (min a2 b2) c2≤z2∧z2≤2 * max (max a2 b2) c2) →
      (2 * min (min a3 b3) c3≤u3∧u3≤2 * max (max a3 b3) c3)→(2 * min (min a3 b3) c3≤v3∧v3≤2 * max (max a3 b3) c3)→(2 * min (min a3 b3) c3≤z3∧z3≤2 * max (max a3 b3) c3) →
      4 * nearN ((a1,a2,a3),(b1,b2,b3),(c1,c2,c3)) (x1,x2,x3)≤nearN ((u1,u2,u3),(v1,v2,v3),(z1,z2,z3)) (tim 2 (x1,x2,x3)):=fun u1 u2 u3 v1 v2 v3 z1 z2 z3 h1 h2 h3 h4 h5 h6 h7 h8 h9=>by
    have g1:=nst_fine x1 a1 b1 c1 u1 v1 z1 h1 h2 h3
    have g2:=nst_fine x2 a2 b2 c2 u2 v2 z2 h4 h5 h6
    have g3:=nst_fine x3 a3 b3 c3 u3 v3 z3 h7 h8 h9
    simp only [nearN,inbox,sq,dot,sub,tim]
    omega
  unfold qrs qr0 qr1 qr2 qr3 at h
  simp only [tim_add2] at h
  simp only [List.mem_cons,List.not_mem_nil,or_false,add] at h
  rcases h with rfl | rfl | rfl | rfl <;> refine m _ _ _ _ _ _ _ _ _ ?_ ?_ ?_ ?_ ?_ ?_ ?_ ?_ ?_ <;> omega
theorem cut_near:∀ (d:Nat) (t q:P9) (x:P3),q ∈ cutP d t→4 ^ d * nearN t x≤nearN q (tim (2 ^ d) x)∧farN q (tim (2 ^ d) x)≤4 ^ d * farN t x
  | 0,t,q,x,h=>by
    rw [List.mem_singleton.1 h]
    have e:tim (2 ^ 0) x=x:=by simp [tim]
    rw [e]
    simp
  | d + 1,t,q,x,h=>by
    rw [cutP_flat] at h
    obtain ⟨p,hp,hq⟩:=List.mem_flatMap.1 h
    obtain ⟨i1,i2⟩:=cut_near d p q (tim 2 x) hq
    have e:tim (2 ^ d) (tim 2 x)=tim (2 ^ (d + 1)) x:=by
      simp only [tim,Int.pow_succ,Int.mul_assoc]
    rw [e] at i1 i2
    have n1:=near_fine t p x hp
    have n2:=far_fine t p x hp
    have k0:(0:Int)≤4 ^ d:=Int.pow_nonneg (by decide)
    have m1:=Int.mul_le_mul_of_nonneg_left n1 k0
    have m2:=Int.mul_le_mul_of_nonneg_left n2 k0
    have e4:(4:Int) ^ (d + 1)=4 ^ d * 4:=Int.pow_succ ..
    rw [e4,Int.mul_assoc,Int.mul_assoc]
    omega
theorem ptk_near {t:P9} {d:Int} {k:Nat} (x:P3) (d1:0≤d) (d2:d≤3) (hk:k < ptn d):scl d * scl d * nearN t x≤nearN (ptk t d k) (tim (scl d) x)∧farN (ptk t d k) (tim (scl d) x)≤scl d * scl d * farN t x:=by
  have hm:ptk t d k ∈ cutP d.toNat t:=by
    unfold ptk
    rw [List.getD_eq_getElem?_getD,List.getElem?_eq_getElem (by rw [cutP_len];exact hk)]
    exact List.getElem_mem _
  have h:=cut_near d.toNat t _ x hm
  unfold scl
  have e:d.toNat=0∨d.toNat=1∨d.toNat=2∨d.toNat=3:=by omega
  rcases e with e | e | e | e <;> rw [e] at h ⊢ <;> exact h
theorem gie_zero {g:P9→Sp.R} {L:Nat→P9}:∀ {n:Nat},(∀ k,k < n→(g (L k)).2=0)→gie g L n=0
  | 0,_=>rfl
  | n + 1,h=>by
    show (if gie g L n=0 then (g (L n)).2 else gie g L n)=0
    rw [if_pos (gie_zero fun k hk=>h k (by omega)),h n (by omega)]
theorem sm_zero {l:Nat→Int}:∀ {n:Nat},(∀ k,k < n→l k=0)→sm l n=0
  | 0,_=>rfl
  | n + 1,h=>by
    show sm l n + l n=0
    rw [sm_zero fun k hk=>h k (by omega),h n (by omega)]
    rfl
theorem mn8_zero {l h:Nat→Int} {n:Nat} (hn:0 < n) (hl:∀ k,k < n→l k=0) (hh:∀ k,k < n→h k=0):mnR8 l h n=((0,0),0):=by
  have hd:(0:Int) < (n:Int):=by omega
  unfold mnR8
  rw [if_pos (all_yes fun k hk=>by
    show Sp.vldB (l k) (h k)=true
    rw [hl k hk,hh k hk]
    exact Sp.vld_iff.2 ⟨by decide,by decide,by decide⟩),sm_zero hl,sm_zero hh]
  unfold meanR
  rw [if_pos rfl,if_neg (by omega)]
  have e1:Sp.fl 0 (n:Int)=0:=by rw [Sp.fl_pos hd];simp
  have e2:Sp.ce 0 (n:Int)=0:=by unfold Sp.ce;rw [Int.neg_zero,e1];rfl
  rw [e1,e2]
  rfl
theorem scale8_zero {p:Int} (p1:-100≤p) (p2:p≤100):scaleR 0 0 p=((0,0),0):=by
  unfold scaleR
  rw [if_pos ⟨Sp.vld_iff.2 ⟨by decide,by decide,by decide⟩,by omega,by omega⟩,Int.zero_mul]
  rfl
theorem hd_quiet {x:P3} {s d:Int} {p:Pu} {tick:Int} (hp:pucode p=0) (s1:1≤s) (d1:0≤d) (d2:d≤3) (h:tick < p.2.1 + (tkf (nearN p.1 x) s:Nat)∨p.2.1 + (tkf (farN p.1 x) s:Nat) < tick):hdR x s d p tick=((0,0),0):=by
  obtain ⟨_,_,_,b1,b2⟩:=pucode_ok hp
  unfold hdR
  by_cases h1:tick≤p.2.1
  · rw [if_pos h1]
  rw [if_neg h1]
  obtain ⟨q,hq⟩:∃ q,tick - p.2.1=q:=⟨_,rfl⟩
  rw [hq]
  have q1:1≤q:=by omega
  have G:∀ k,k < ptn d→shG x s d q (ptk p.1 d k)=((0,0),0):=fun k hk=>by
    obtain ⟨n1,n2⟩:=ptk_near (t:=p.1) x d1 d2 hk
    have kk:1≤scl d * scl d:=by
      have e:d.toNat=0∨d.toNat=1∨d.toNat=2∨d.toNat=3:=by omega
      unfold scl
      rcases e with e | e | e | e <;> rw [e] <;> decide
    unfold shG giR
    refine if_pos ?_
    rcases h with h | h
    · refine Or.inr ?_
      have lt:=tkf_low (n:=nearN p.1 x) (s:=s) (u:=q.toNat) (by omega)
      rw [show ((q.toNat:Nat):Int)=q by omega] at lt
      have e:out8 s d q=scl d * scl d * (s * q * (s * q)):=by unfold out8;grind
      have m:scl d * scl d * (s * q * (s * q) + 1)≤scl d * scl d * nearN p.1 x:=Int.mul_le_mul_of_nonneg_left (by omega) (by omega)
      rw [Int.mul_add,Int.mul_one] at m
      omega
    · refine Or.inl ?_
      have en:=tkf_end (n:=farN p.1 x) (s:=s) s1
      obtain ⟨L,hL⟩:∃ L:Nat,tkf (farN p.1 x) s=L:=⟨_,rfl⟩
      rw [hL] at en h
      have le:s * (L:Int)≤s * (q - 1):=Int.mul_le_mul_of_nonneg_left (by omega) (by omega)
      have l0:0≤s * (L:Int):=Int.mul_nonneg (by omega) (by omega)
      have sqm:=sq_le8 (Or.inl ⟨l0,le⟩)
      have e:inn s d q=scl d * scl d * (s * (q - 1) * (s * (q - 1))):=by unfold inn;grind
      have m:scl d * scl d * farN p.1 x≤scl d * scl d * (s * (q - 1) * (s * (q - 1))):=Int.mul_le_mul_of_nonneg_left (by omega) (by omega)
      omega
  have gz:=gie_zero (g:=shG x s d q) (L:=ptk p.1 d) (n:=ptn d) fun k hk=>by rw [G k hk]
  rw [if_neg (fun c=>c gz)]
  have a:∀ k,k < ptn d→(gis (shG x s d q) (ptk p.1 d) (ptn d)).getD k (0,0)=(0,0):=fun k hk=>by rw [gis_at hk,G k hk]
  have mz:=mn8_zero (l:=fun k=>((gis (shG x s d q) (ptk p.1 d) (ptn d)).getD k (0,0)).1) (h:=fun k=>((gis (shG x s d q) (ptk p.1 d) (ptn d)).getD k (0,0)).2) (ptn_pos d) (fun k hk=>by
    show ((gis (shG x s d q) (ptk p.1 d) (ptn d)).getD k (0,0)).1=0
    rw [a k hk]) (fun k hk=>by
    show ((gis (shG x s d q) (ptk p.1 d) (ptn d)).getD k (0,0)).2=0
    rw [a k hk])
  dsimp only
  rw [mz,if_neg (fun c=>c rfl)]
  exact scale8_zero b1 b2
theorem mnf_le (f:Nat→Int):∀ {n k:Nat},k≤n→mnf f n≤f k
  | 0,k,h=>by
    obtain rfl:k=0:=by omega
    exact Int.le_refl _
  | n + 1,k,h=>by
    show Sp.mn (mnf f n) (f (n + 1))≤f k
    rw [Sp.mn_eq]
    by_cases e:k=n + 1
    · subst e;omega
    · have:=mnf_le f (n:=n) (k:=k) (by omega);omega
theorem mxf_ge (f:Nat→Int):∀ {n k:Nat},k≤n→f k≤mxf f n
  | 0,k,h=>by
    obtain rfl:k=0:=by omega
    exact Int.le_refl _
  | n + 1,k,h=>by
    show f k≤Sp.mx (mxf f n) (f (n + 1))
    rw [Sp.mx_eq]
    by_cases e:k=n + 1
    · subst e;omega
    · have:=mxf_ge f (n:=n) (k:=k) (by omega);omega
theorem geN_zero {g:Nat→Sp.R}:∀ {n:Nat},(∀ k,k < n→(g k).2=0)→geN g n=0
  | 0,_=>rfl
  | n + 1,h=>by
    show (if geN g n=0 then (g n).2 else geN g n)=0
    rw [if_pos (geN_zero fun k hk=>h k (by omega)),h n (by omega)]
theorem scn_quiet {n:Nat} {Q:Nat→Pu} {x:P3} {s t d:Int} (e:tkE n Q x s=0) (t1:0≤t) (t2:t≤2000) (d1:0≤d) (d2:d≤3) (h:t < tk1 n Q x s∨tk2 n Q x s < t):scnR n Q x s t d=((0,0),0):=by
  have e9:=e
  unfold tkE at e9
  have z:mcT n Q x s=0:=by
    by_cases z:mcT n Q x s=0
    · exact z
    · rw [if_neg z] at e9;exact absurd e9 z
  rw [if_pos z] at e9
  have n0:n ≠ 0:=fun y=>by rw [if_pos y] at e9;exact absurd e9 (by decide)
  obtain ⟨⟨h16,hp⟩,hx,s1,s2⟩:=mcT_ok z
  have zv:vpcode n Q=0:=by
    unfold mcT at z
    by_cases y:vpcode n Q=0
    · exact y
    · rw [if_neg y] at z;exact absurd z y
  have sc:scode n Q x s t d=0:=by
    unfold scode
    rw [if_pos zv]
    unfold mcT at z
    rw [if_pos zv] at z
    unfold acode8 at z ⊢
    rw [rngB_iff.2 ⟨t1,t2⟩,rngB_iff.2 ⟨d1,d2⟩]
    exact z
  unfold tk1 tk2 at h
  rw [if_pos e,if_pos e] at h
  have G:∀ k,k < n→hdR x s d (Q k) t=((0,0),0):=fun k hk=>by
    refine hd_quiet (hp k hk) s1 d1 d2 ?_
    rcases h with h | h
    · have:=mnf_le (fT Q x s) (n:=n - 1) (k:=k) (by omega)
      exact Or.inl (Int.lt_of_lt_of_le h this)
    · have:=mxf_ge (gT Q x s) (n:=n - 1) (k:=k) (by omega)
      exact Or.inr (Int.lt_of_le_of_lt this h)
  unfold scnR
  rw [if_pos sc]
  unfold sceQ sceR
  have a:∀ k,k < n→(gsN (fun k=>hdR x s d (Q k) t) n).getD k (0,0)=(0,0):=fun k hk=>by rw [q8gsN_at hk,G k hk]
  obtain ⟨W,hW⟩:∃ W,gsN (fun k=>hdR x s d (Q k) t) n=W:=⟨_,rfl⟩
  rw [hW] at a
  rw [if_neg (fun c=>c (geN_zero fun k hk=>by rw [G k hk])),hW]
  show smR8 (fun k=>(W.getD k (0,0)).1) (fun k=>(W.getD k (0,0)).2) n=((0,0),0)
  unfold smR8
  rw [if_pos (all_yes fun k hk=>by
    show Sp.vldB (W.getD k (0,0)).1 (W.getD k (0,0)).2=true
    rw [a k hk]
    exact Sp.vld_iff.2 ⟨by decide,by decide,by decide⟩),sm_zero (fun k hk=>by
    show (W.getD k (0,0)).1=0
    rw [a k hk]),sm_zero (fun k hk=>by
    show (W.getD k (0,0)).2=0
    rw [a k hk])]
  rfl
end Go.Proofs.YtgchcnpgjfoadaaGreat
