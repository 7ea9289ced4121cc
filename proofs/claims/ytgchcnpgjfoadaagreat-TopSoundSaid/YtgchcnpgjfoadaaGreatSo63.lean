import Derived.Test.YtgchcnpgjfoadaaGreatSo63a
namespace Go.Proofs.YtgchcnpgjfoadaaGreat
open Go.ChangeShapes Go.WideShapes Go.RowKit
open Sh
theorem q8sm_cg {f g:Nat→Int}:∀ {n:Nat},(∀ k,k < n→f k=g k)→sm f n=sm g n
  | 0,_=>rfl
  | n + 1,h=>by
    show sm f n + f n=sm g n + g n
    rw [q8sm_cg (n:=n) fun k hk=>h k (by omega),h n (by omega)]
theorem q8sceR_ok {g:Nat→Sp.R} {n:Nat} (h:(sceR g n).2=0):sceR g n=((sm (fun k=>(g k).1.1) n,sm (fun k=>(g k).1.2) n),0)∧Sp.vldB (sm (fun k=>(g k).1.1) n) (sm (fun k=>(g k).1.2) n)=true:=by
  have e1:sm (fun k=>((gsN g n).getD k (0,0)).1) n=sm (fun k=>(g k).1.1) n:=q8sm_cg fun k hk=>by (try dsimp only);rw [q8gsN_at hk]
  have e2:sm (fun k=>((gsN g n).getD k (0,0)).2) n=sm (fun k=>(g k).1.2) n:=q8sm_cg fun k hk=>by (try dsimp only);rw [q8gsN_at hk]
  unfold sceR at h ⊢
  by_cases z:geN g n ≠ 0
  · rw [if_pos z] at h;exact absurd h z
  · rw [if_neg z] at h ⊢
    unfold smR8 at h ⊢
    by_cases y:(List.range n).all (fun k=>Sp.vldB ((gsN g n).getD k (0,0)).1 ((gsN g n).getD k (0,0)).2)=true
    · rw [if_pos y] at h ⊢
      rw [e1,e2] at h ⊢
      unfold sumR at h ⊢
      rw [if_pos rfl] at h ⊢
      unfold Sp.told at h ⊢
      by_cases v:Sp.vldB (sm (fun k=>(g k).1.1) n) (sm (fun k=>(g k).1.2) n)=true
      · rw [if_pos v];exact ⟨rfl,v⟩
      · rw [if_neg v] at h;exact absurd h (by decide)
    · rw [if_neg y] at h;exact absurd h (by decide)
theorem q8geN_all {g:Nat→Sp.R}:∀ {n:Nat},geN g n=0→∀ k,k < n→(g k).2=0
  | 0,_,k,h=>absurd h (Nat.not_lt_zero k)
  | n + 1,h,k,hk=>by
    have h:(if geN g n=0 then (g n).2 else geN g n)=0:=h
    by_cases z:geN g n=0
    · rw [if_pos z] at h
      by_cases e:k=n
      · subst e;exact h
      · exact q8geN_all z k (by omega)
    · rw [if_neg z] at h
      exact absurd h z
theorem s8_le {f g:Nat→Int}:∀ {n:Nat},(∀ k,k < n→f k≤g k)→sm f n≤sm g n
  | 0,_=>Int.le_refl _
  | n + 1,h=>by
    have:=s8_le (n:=n) fun k hk=>h k (by omega)
    have:=h n (by omega)
    show sm f n + f n≤sm g n + g n
    omega
theorem s8_nn {f:Nat→Int}:∀ {n:Nat},(∀ k,k < n→0≤f k)→0≤sm f n
  | 0,_=>Int.le_refl _
  | n + 1,h=>by
    have:=s8_nn (n:=n) fun k hk=>h k (by omega)
    have:=h n (by omega)
    show 0≤sm f n + f n
    omega
theorem s8_ge {f:Nat→Int}:∀ {n j:Nat},(∀ k,k < n→0≤f k)→j < n→f j≤sm f n
  | 0,j,_,hj=>absurd hj (Nat.not_lt_zero j)
  | n + 1,j,h,hj=>by
    have a:=s8_nn (n:=n) fun k hk=>h k (by omega)
    have b:=h n (by omega)
    show f j≤sm f n + f n
    by_cases e:j=n
    · subst e;omega
    · have:=s8_ge (n:=n) (j:=j) (fun k hk=>h k (by omega)) (by omega);omega
theorem s8_add (f g:Nat→Int):∀ n,sm (fun k=>f k + g k) n=sm f n + sm g n
  | 0=>rfl
  | n + 1=>by
    have:=s8_add f g n
    show sm (fun k=>f k + g k) n + (f n + g n)=sm f n + f n + (sm g n + g n)
    omega
theorem s8_swap (f:Nat→Nat→Int) (m:Nat):∀ n,sm (fun t=>sm (f t) m) n=sm (fun k=>sm (fun t=>f t k) n) m
  | 0=>(sm_zero fun k _=>rfl).symm
  | n + 1=>by
    show sm (fun t=>sm (f t) m) n + sm (f n) m=sm (fun k=>sm (fun t=>f t k) n + f n k) m
    rw [s8_add,s8_swap f m n]
theorem s8_scl (f:Nat→Int) (c:Int):∀ n,sm (fun k=>f k * c) n=sm f n * c
  | 0=>(Int.zero_mul c).symm
  | n + 1=>by
    show sm (fun k=>f k * c) n + f n * c=(sm f n + f n) * c
    rw [s8_scl f c n,Int.add_mul]
def pLo (x:P3) (s d:Int) (p:Pu) (t k:Nat):Int:=if (t:Int)≤p.2.1 then 0 else (shG x s d ((t:Int) - p.2.1) (ptk p.1 d k)).1.1
def pHi (x:P3) (s d:Int) (p:Pu) (t k:Nat):Int:=if (t:Int)≤p.2.1 then 0 else (shG x s d ((t:Int) - p.2.1) (ptk p.1 d k)).1.2
theorem mLo8 (t:P9) (d:Int) (x:P3) (k:Nat):mLo false t d x k=(invR (farN (ptk t d k) (tim (scl d) x)) (scl d)).1.1:=by
  unfold mLo ptf kV
  rw [if_neg (by decide)]
theorem mHi8 (t:P9) (d:Int) (x:P3) (k:Nat):mHi false t d x k=(invR (nearN (ptk t d k) (tim (scl d) x)) (scl d)).1.2:=by
  unfold mHi ptd kV
  rw [if_neg (by decide)]
theorem pLo_yes {x:P3} {s d:Int} {p:Pu} {t k:Nat} (h:¬ (t:Int)≤p.2.1):pLo x s d p t k=(giR (tim (scl d) x) (inn s d ((t:Int) - p.2.1)) (out8 s d ((t:Int) - p.2.1)) (scl d) (ptk p.1 d k)).1.1:=by
  unfold pLo shG
  rw [if_neg h]
theorem pHi_yes {x:P3} {s d:Int} {p:Pu} {t k:Nat} (h:¬ (t:Int)≤p.2.1):pHi x s d p t k=(giR (tim (scl d) x) (inn s d ((t:Int) - p.2.1)) (out8 s d ((t:Int) - p.2.1)) (scl d) (ptk p.1 d k)).1.2:=by
  unfold pHi shG
  rw [if_neg h]
theorem out_up {s d q:Int} (s1:1≤s) (q1:0≤q):out8 s d q≤out8 s d (q + 1):=by
  have k:1≤scl d:=by
    unfold scl
    exact Int.pow_pos (by decide)
  have ks:0≤scl d * s:=Int.mul_nonneg (by omega) (by omega)
  have a:0≤scl d * s * q:=Int.mul_nonneg ks q1
  have b:scl d * s * q≤scl d * s * (q + 1):=Int.mul_le_mul_of_nonneg_left (by omega) ks
  exact sq_le8 (Or.inl ⟨a,b⟩)
theorem inn_out (s d q:Int):inn s d (q + 1)=out8 s d q:=by
  unfold inn out8
  rw [show q + 1 - 1=q by omega]
theorem part_lo {x:P3} {s d:Int} {p:Pu} {k:Nat} (s1:1≤s):∀ T:Nat,sm (fun t=>pLo x s d p t k) T=0∨(sm (fun t=>pLo x s d p t k) T=mLo false p.1 d x k∧∃ q:Int,q=(T:Int) - 1 - p.2.1∧1≤q∧farN (ptk p.1 d k) (tim (scl d) x)≤out8 s d q)
  | 0=>Or.inl rfl
  | T + 1=>by
    have ih:=part_lo (x:=x) (s:=s) (d:=d) (p:=p) (k:=k) s1 T
    have es:sm (fun t=>pLo x s d p t k) (T + 1)=sm (fun t=>pLo x s d p t k) T + pLo x s d p T k:=rfl
    rw [es]
    have nf:=near_far (ptk p.1 d k) (tim (scl d) x)
    by_cases h:(T:Int)≤p.2.1
    · have e0:pLo x s d p T k=0:=if_pos h
      rw [e0,Int.add_zero]
      rcases ih with ih | ⟨_,q,e,q1,_⟩
      · exact Or.inl ih
      · exfalso;omega
    · have e1:pLo x s d p T k=(giR (tim (scl d) x) (inn s d ((T:Int) - p.2.1)) (out8 s d ((T:Int) - p.2.1)) (scl d) (ptk p.1 d k)).1.1:=pLo_yes h
      have g:=gi_lo (tim (scl d) x) (inn s d ((T:Int) - p.2.1)) (out8 s d ((T:Int) - p.2.1)) (scl d) (ptk p.1 d k)
      rw [← e1] at g
      rcases ih with ih | ⟨ih,q,e,q1,f⟩
      · rcases g with g | ⟨g,g1,g2⟩
        · exact Or.inl (by omega)
        · refine Or.inr ⟨by rw [mLo8];omega,(T:Int) - p.2.1,by omega,by omega,g2⟩
      · have eq:(T:Int) - p.2.1=q + 1:=by omega
        rw [eq,inn_out] at g
        have up:=out_up (d:=d) s1 (show 0≤q by omega)
        rcases g with g | ⟨_,g1,_⟩
        · exact Or.inr ⟨by omega,q + 1,by omega,by omega,by omega⟩
        · exfalso;omega
theorem first_q {s d N:Int} (n1:1≤N):∀ m:Nat,N≤out8 s d m→∃ q:Nat,1≤q∧q≤m∧N≤out8 s d q∧inn s d q < N
  | 0,h=>by
    have e:out8 s d ((0:Nat):Int)=0:=by unfold out8;simp
    omega
  | m + 1,h=>by
    by_cases c:N≤out8 s d m
    · obtain ⟨q,q1,q2,q3⟩:=first_q n1 m c
      exact ⟨q,q1,by omega,q3⟩
    · refine ⟨m + 1,by omega,Nat.le_refl _,h,?_⟩
      have e:=inn_out s d m
      rw [show ((m + 1:Nat):Int)=(m:Int) + 1 by omega,e]
      omega
theorem scl_b {d:Int} (d1:0≤d) (d2:d≤3):1≤scl d∧scl d≤8:=by
  have e:d.toNat=0∨d.toNat=1∨d.toNat=2∨d.toNat=3:=by omega
  unfold scl
  rcases e with e | e | e | e <;> rw [e] <;> decide
theorem part_hi {x:P3} {s d:Int} {p:Pu} {k T:Nat} (hp:pucode p=0) (hx:BdP 256 x) (s1:1≤s) (d1:0≤d) (d2:d≤3) (hk:k < ptn d) (an:ptd p.1 d x k ≠ 0) (tk:p.2.1 + (tkf (farN p.1 x) s:Nat) < T):mLo false p.1 d x k≤sm (fun t=>pHi x s d p t k) T:=by
  obtain ⟨hB,_,⟨a1,_⟩,_,_⟩:=pucode_ok hp
  have nf:=near_far (ptk p.1 d k) (tim (scl d) x)
  have an:nearN (ptk p.1 d k) (tim (scl d) x) ≠ 0:=an
  have n0:0≤nearN (ptk p.1 d k) (tim (scl d) x):=sq_nn _
  have kb:=scl_b d1 d2
  have fb:=far_bd9 (ptk_bd9 hB d1 d2 hk) (tim_bd hx kb.1 kb.2)
  have fin:=(ptk_near (t:=p.1) x d1 d2 hk).2
  have en:=tkf_end (n:=farN p.1 x) (s:=s) s1
  obtain ⟨L,hL⟩:∃ L:Nat,tkf (farN p.1 x) s=L:=⟨_,rfl⟩
  rw [hL] at en tk
  have eo:out8 s d L=scl d * scl d * (s * L * (s * L)):=by unfold out8;grind
  have kk:0≤scl d * scl d:=Int.mul_nonneg (by omega) (by omega)
  have m:=Int.mul_le_mul_of_nonneg_left (show farN p.1 x≤s * L * (s * L) by omega) kk
  obtain ⟨q,q1,q2,q3,q4⟩:=first_q (s:=s) (d:=d) (N:=nearN (ptk p.1 d k) (tim (scl d) x)) (by omega) L (by omega)
  have g:=gi_hi (c:=tim (scl d) x) (i:=inn s d q) (o:=out8 s d q) (k:=scl d) (t:=ptk p.1 d k) (by omega) (by omega) q3 (by omega) kb.1 kb.2
  have et:(((p.2.1 + q).toNat:Nat):Int)=p.2.1 + q:=by omega
  have e1:pHi x s d p (p.2.1 + q).toNat k=(giR (tim (scl d) x) (inn s d q) (out8 s d q) (scl d) (ptk p.1 d k)).1.2:=by
    rw [pHi_yes (by omega),et,show p.2.1 + (q:Int) - p.2.1=q by omega]
  rw [← e1,← mLo8] at g
  refine Int.le_trans g (s8_ge (f:=fun t=>pHi x s d p t k) (fun t _=>?_) (by omega))
  show 0≤pHi x s d p t k
  unfold pHi
  by_cases h:(t:Int)≤p.2.1
  · rw [if_pos h];exact Int.le_refl _
  · rw [if_neg h];unfold shG;exact gi_nn _ _ _ _ _
def hF (x:P3) (s d:Int) (p:Pu) (t:Nat):Int:=Sp.fl (sm (pLo x s d p t) (ptn d)) (ptn d)
def hC (x:P3) (s d:Int) (p:Pu) (t:Nat):Int:=Sp.ce (sm (pHi x s d p t) (ptn d)) (ptn d)
theorem fl_mul {a n:Int} (h:0 < n):Sp.fl a n * n≤a:=by
  rw [Sp.fl_pos h]
  exact Int.ediv_mul_le a (by omega)
theorem ce_mul {a n:Int} (h:0 < n):a≤Sp.ce a n * n:=by
  unfold Sp.ce
  have:=fl_mul (a:=-a) h
  rw [Int.neg_mul]
  omega
theorem up_mul {a n:Int} (h:0 < n):a≤(a + n - 1) / n * n:=by
  have:=Int.mul_ediv_add_emod (a + n - 1) n
  have:=Int.emod_lt_of_pos (a + n - 1) h
  have e:n * ((a + n - 1) / n)=(a + n - 1) / n * n:=Int.mul_comm _ _
  omega
theorem pulse_core {x:P3} {s d:Int} {p:Pu} {T:Nat} (hp:pucode p=0) (hx:BdP 256 x) (s1:1≤s) (d1:0≤d) (d2:d≤3) (an:∀ k,k < ptn d→ptd p.1 d x k ≠ 0) (tk:p.2.1 + (tkf (farN p.1 x) s:Nat) < T) :
    sm (hF x s d p) T≤(sm (mHi false p.1 d x) (ptn d) + (ptn d:Int) - 1) / (ptn d:Int)∧sm (mLo false p.1 d x) (ptn d) / (ptn d:Int)≤sm (hC x s d p) T:=by
  obtain ⟨hB,_,_,_,_⟩:=pucode_ok hp
  have n0:(0:Int) < (ptn d:Int):=by have:=ptn_pos d;omega
  constructor
  · refine Int.le_of_mul_le_mul_right (a:=(ptn d:Int)) ?_ n0
    rw [← s8_scl]
    refine Int.le_trans (s8_le (g:=fun t=>sm (pLo x s d p t) (ptn d)) fun t _=>fl_mul n0) ?_
    refine Int.le_trans ?_ (up_mul n0)
    rw [s8_swap]
    refine s8_le fun k hk=>?_
    have an:=an k hk
    have nf:=near_far (ptk p.1 d k) (tim (scl d) x)
    have an:nearN (ptk p.1 d k) (tim (scl d) x) ≠ 0:=an
    have nn:0≤nearN (ptk p.1 d k) (tim (scl d) x):=sq_nn _
    have kb:=scl_b d1 d2
    have fb:=far_bd9 (ptk_bd9 hB d1 d2 hk) (tim_bd hx kb.1 kb.2)
    have m:=invR_mono (m:=nearN (ptk p.1 d k) (tim (scl d) x)) (f:=farN (ptk p.1 d k) (tim (scl d) x)) (k:=scl d) (by omega) nf (by omega) kb.1 kb.2
    have l0:=(inv_nn (farN (ptk p.1 d k) (tim (scl d) x)) (scl d)).1
    rw [mHi8]
    generalize invR (nearN (ptk p.1 d k) (tim (scl d) x)) (scl d)=B at *
    rcases part_lo (x:=x) (s:=s) (d:=d) (p:=p) (k:=k) s1 T with e | ⟨e,_⟩
    · omega
    · rw [e,mLo8];exact m
  · refine Int.le_of_mul_le_mul_right (a:=(ptn d:Int)) ?_ n0
    refine Int.le_trans (Int.ediv_mul_le _ (by omega)) ?_
    rw [← s8_scl]
    refine Int.le_trans ?_ (s8_le (f:=fun t=>sm (pHi x s d p t) (ptn d)) fun t _=>ce_mul n0)
    rw [s8_swap]
    exact s8_le fun k hk=>part_hi hp hx s1 d1 d2 hk (an k hk) tk
end Go.Proofs.YtgchcnpgjfoadaaGreat
