import Derived.Test.YtbcjiigmbcfkeaaGreatFg52
import Derived.Test.YtbcjiigmbcfkeaaGreatFgMi
import Derived.Test.YtbcjiigmbcfkeaaGreatMeet
namespace Go.Proofs.YtbcjiigmbcfkeaaGreat
open Go.Lib (hid)
open Go.ChangeShapes Go.WideShapes Go.RowKit
open Sh
theorem cr_le (A B:P3):sq (vec A B)<=sq A*sq B:=by
  have e:sq (vec A B)+dot A B*dot A B=sq A*sq B:=by
    simp only [sq,vec,dot]
    grind
  have h:0<=dot A B*dot A B:=by
    have:=sq_pos' (dot A B)
    exact this
  omega
theorem ad3_sq (x y z:Int):(x+y+z)*(x+y+z)<=3*(x*x+y*y+z*z):=by
  have h1:=sq_pos' (x - y)
  have h2:=sq_pos' (y - z)
  have h3:=sq_pos' (z - x)
  grind
theorem nrm_sum (a b c p:P3):nrm a b c=add (add (vec (sub a p) (sub b p)) (vec (sub b p) (sub c p))) (vec (sub c p) (sub a p)):=by
  simp only [nrm,vec,add,sub]
  refine Prod.ext ?_ (Prod.ext ?_ ?_)<;>grind
theorem add3_sq (X Y Z:P3):sq (add (add X Y) Z)<=3*(sq X+sq Y+sq Z):=by
  have h1:=ad3_sq X.1 Y.1 Z.1
  have h2:=ad3_sq X.2.1 Y.2.1 Z.2.1
  have h3:=ad3_sq X.2.2 Y.2.2 Z.2.2
  simp only [sq,dot,add]
  omega
theorem mul_leF {x y F:Int} (x0:0<=x) (y0:0<=y) (xF:x<=F) (yF:y<=F):x*y<=F*F:=Int.mul_le_mul xF yF y0 (by omega)
theorem nrm_far {t:P9} {p:P3} {F:Int} (h1:sq (sub t.1 p)<=F) (h2:sq (sub t.2.1 p)<=F) (h3:sq (sub t.2.2 p)<=F):sq (nrm t.1 t.2.1 t.2.2)<=9*(F*F):=by
  rw [nrm_sum t.1 t.2.1 t.2.2 p]
  have n1:=sq_nn (sub t.1 p)
  have n2:=sq_nn (sub t.2.1 p)
  have n3:=sq_nn (sub t.2.2 p)
  have a:=add3_sq (vec (sub t.1 p) (sub t.2.1 p)) (vec (sub t.2.1 p) (sub t.2.2 p)) (vec (sub t.2.2 p) (sub t.1 p))
  have b1:=cr_le (sub t.1 p) (sub t.2.1 p)
  have b2:=cr_le (sub t.2.1 p) (sub t.2.2 p)
  have b3:=cr_le (sub t.2.2 p) (sub t.1 p)
  have c1:=mul_leF n1 n2 h1 h2
  have c2:=mul_leF n2 n3 h2 h3
  have c3:=mul_leF n3 n1 h3 h1
  omega
theorem rS_far {t:P9} {p:P3} {F:Int} (h1:sq (sub t.1 p)<=F) (h2:sq (sub t.2.1 p)<=F) (h3:sq (sub t.2.2 p)<=F):((rS t:Nat):Int)<=3*F:=by
  have h:=nrm_far h1 h2 h3
  have F0:0<=F:=by have:=sq_nn (sub t.1 p);omega
  have e:dot (nrm t.1 t.2.1 t.2.2) (nrm t.1 t.2.1 t.2.2)=sq (nrm t.1 t.2.1 t.2.2):=rfl
  have q:=(Rt.isq_spec (dot (nrm t.1 t.2.1 t.2.2) (nrm t.1 t.2.1 t.2.2)).toNat).1
  have n0:=sq_nn (nrm t.1 t.2.1 t.2.2)
  have q':((rS t:Nat):Int)*((rS t:Nat):Int)<=sq (nrm t.1 t.2.1 t.2.2):=by
    rw [← e]
    have:((rS t*rS t:Nat):Int)<=((dot (nrm t.1 t.2.1 t.2.2) (nrm t.1 t.2.1 t.2.2)).toNat:Int):=Int.ofNat_le.2 q
    rw [Int.natCast_mul] at this
    omega
  apply Int.le_of_not_gt
  intro c
  have m:=Int.mul_le_mul (show 3*F+1<=((rS t:Nat):Int) by omega) (show 3*F+1<=((rS t:Nat):Int) by omega) (by omega) (by omega)
  have e2:(3*F+1)*(3*F+1)=9*(F*F)+6*F+1:=by grind
  omega
theorem nrm_qr (t:P9) {q:P9} (h:q ∈ qrs t):nrm q.1 q.2.1 q.2.2=nrm t.1 t.2.1 t.2.2:=by
  simp only [qrs,List.mem_cons,List.not_mem_nil,or_false] at h
  rcases h with h|h|h|h<;>(subst h;simp only [qr0,qr1,qr2,qr3,nrm,vec,add,sub,tim];refine Prod.ext ?_ (Prod.ext ?_ ?_)<;>grind)
theorem nrm_cut:∀ (d:Nat) (t:P9) {q:P9},q ∈ cutP d t->nrm q.1 q.2.1 q.2.2=nrm t.1 t.2.1 t.2.2
 |0,t,q,h=>by
    simp only [cutP,List.mem_singleton] at h
    rw [h]
 |d+1,t,q,h=>by
    rw [cutP_last,List.mem_flatMap] at h
    obtain ⟨r,h1,h2⟩:=h
    rw [nrm_qr r h2,nrm_cut d t h1]
theorem rS_cut {d:Nat} {t q:P9} (h:q ∈ cutP d t):rS q=rS t:=by
  unfold rS
  rw [nrm_cut d t h]
theorem half_sq (x y:Int):(x+y)*(x+y)<=2*(x*x)+2*(y*y):=by
  have:=sq_pos' (x - y)
  grind
def FF (p q:P9):Int:=fG (P3F p) (P3F q) 3 3
def NN (p q:P9):Int:=nG (loN (P3F p) 3) (hiN (P3F p) 3) (loN (P3F q) 3) (hiN (P3F q) 3)
theorem ff_ge (p q:P9) {i j:Nat} (hi:i<3) (hj:j<3):sq (sub (P3F p i) (P3F q j))<=FF p q:=by
  unfold FF
  simp only [fG,fI,Sp.mx_eq]
  match i,j,hi,hj with
 |0,0,_,_=>omega
 |0,1,_,_=>omega
 |0,2,_,_=>omega
 |1,0,_,_=>omega
 |1,1,_,_=>omega
 |1,2,_,_=>omega
 |2,0,_,_=>omega
 |2,1,_,_=>omega
 |2,2,_,_=>omega
theorem ff_le {p q:P9} {F:Int} (h:∀ i,i<3->∀ j,j<3->sq (sub (P3F p i) (P3F q j))<=F):FF p q<=F:=by
  have n0:=sq_nn (sub (P3F p 0) (P3F q 0))
  have a0:=h 0 (by decide) 0 (by decide)
  have a1:=h 0 (by decide) 1 (by decide)
  have a2:=h 0 (by decide) 2 (by decide)
  have b0:=h 1 (by decide) 0 (by decide)
  have b1:=h 1 (by decide) 1 (by decide)
  have b2:=h 1 (by decide) 2 (by decide)
  have c0:=h 2 (by decide) 0 (by decide)
  have c1:=h 2 (by decide) 1 (by decide)
  have c2:=h 2 (by decide) 2 (by decide)
  clear h
  unfold FF
  simp only [fG,fI,Sp.mx_eq]
  omega
theorem gp_nn (al ah bl bh:Int):0<=gp al ah bl bh:=by
  unfold gp
  simp only [Sp.mx_eq]
  omega
theorem sq_mono1 {g d:Int} (g0:0<=g) (h:g<=d∨g<=-d):g*g<=d*d:=by
  rcases h with h|h
  · exact Int.mul_le_mul h h g0 (by omega)
  · have:=Int.mul_le_mul h h g0 (by omega:0<=-d)
    rwa [Int.neg_mul_neg] at this
theorem gp_le {al ah bl bh a b:Int} (h1:al<=a) (h2:a<=ah) (h3:bl<=b) (h4:b<=bh):gp al ah bl bh<=a - b∨gp al ah bl bh<=-(a - b):=by
  unfold gp
  simp only [Sp.mx_eq]
  omega
theorem lo_le (p:P9):(loN (P3F p) 3).1<=p.1.1/\(loN (P3F p) 3).2.1<=p.1.2.1/\(loN (P3F p) 3).2.2<=p.1.2.2:=by
  show (mn3 (mn3 (mn3 p.1 p.1) p.2.1) p.2.2).1<=_/\(mn3 (mn3 (mn3 p.1 p.1) p.2.1) p.2.2).2.1<=_/\(mn3 (mn3 (mn3 p.1 p.1) p.2.1) p.2.2).2.2<=_
  simp only [mn3,Sp.mn_eq]
  omega
theorem hi_ge (p:P9):p.1.1<=(hiN (P3F p) 3).1/\p.1.2.1<=(hiN (P3F p) 3).2.1/\p.1.2.2<=(hiN (P3F p) 3).2.2:=by
  show _<=(mx3 (mx3 (mx3 p.1 p.1) p.2.1) p.2.2).1/\_<=(mx3 (mx3 (mx3 p.1 p.1) p.2.1) p.2.2).2.1/\_<=(mx3 (mx3 (mx3 p.1 p.1) p.2.1) p.2.2).2.2
  simp only [mx3,Sp.mx_eq]
  omega
theorem nn_ff (p q:P9):NN p q<=FF p q:=by
  refine Int.le_trans ?_ (ff_ge p q (i:=0) (j:=0) (by decide) (by decide))
  obtain ⟨l1,l2,l3⟩:=lo_le p
  obtain ⟨h1,h2,h3⟩:=hi_ge p
  obtain ⟨m1,m2,m3⟩:=lo_le q
  obtain ⟨g1,g2,g3⟩:=hi_ge q
  have a:=sq_mono1 (gp_nn _ _ _ _) (gp_le l1 h1 m1 g1)
  have b:=sq_mono1 (gp_nn _ _ _ _) (gp_le l2 h2 m2 g2)
  have c:=sq_mono1 (gp_nn _ _ _ _) (gp_le l3 h3 m3 g3)
  show sq (gp3 _ _ _ _)<=sq (sub p.1 q.1)
  simp only [sq,dot,gp3,sub]
  omega
theorem nn_nn (p q:P9):0<=NN p q:=sq_nn _
theorem rs_ff (p q:P9):((rS p:Nat):Int)<=3*FF p q:=rS_far (t:=p) (p:=q.1) (ff_ge p q (i:=0) (j:=0) (by decide) (by decide)) (ff_ge p q (i:=1) (j:=0) (by decide) (by decide)) (ff_ge p q (i:=2) (j:=0) (by decide) (by decide))
theorem lw_rim {S:Nat} {f s:Int} (S1:1<=S) (S2:S<=60000) (s1:1<=s) (s2:s<=8) (h:(S:Int)<=3*f) (f2:f<=1099511627776):(kV false f s).1.1<=((rimN S s:Nat):Int):=by
  have f1:1<=f:=by omega
  obtain ⟨r,u,e,er,_,_⟩:=invR_val f1 f2 s1 s2
  show (invR f s).1.1<=_
  rw [e]
  show (r:Int)<=_
  obtain ⟨l1,l2,l3⟩:=rL_bd S1 S2 s1 s2
  have q:=(Rt.isq_spec (s.toNat*1048576*(s.toNat*1048576) / f.toNat)).1
  rw [← er] at q
  have q2:r*r*f.toNat<=s.toNat*1048576*(s.toNat*1048576):=Nat.le_trans (Nat.mul_le_mul_right _ q) (Nat.div_mul_le_self _ _)
  have q3:(r:Int)*r*f<=1099511627776*s*s:=by
    have c:((r*r*f.toNat:Nat):Int)<=((s.toNat*1048576*(s.toNat*1048576):Nat):Int):=Int.ofNat_le.2 q2
    rw [Int.natCast_mul,Int.natCast_mul,Int.natCast_mul,Int.natCast_mul,show ((s.toNat:Nat):Int)=s by omega,show ((f.toNat:Nat):Int)=f by omega] at c
    have e:s*((1048576:Nat):Int)*(s*((1048576:Nat):Int))=1099511627776*s*s:=by
      show s*1048576*(s*1048576)=_
      grind
    omega
  have q4:(r:Int)*r*S<=(r:Int)*r*(3*f):=Int.mul_le_mul_of_nonneg_left h (by rw [← Int.natCast_mul];omega)
  have e4:(r:Int)*r*(3*f)=3*((r:Int)*r*f):=by grind
  have hW:rW s=1099511627776*s*s*3217:=rfl
  have wb:=rW_bd s1 s2
  have key:(r:Int)*r<=((rL S s:Nat):Int):=by
    rw [l1]
    apply Int.le_ediv_of_mul_le (by omega)
    have e5:(r:Int)*r*(128*(S:Int))=128*((r:Int)*r*S):=by grind
    omega
  have key2:r*r<=rL S s:=by
    have:((r*r:Nat):Int)<=((rL S s:Nat):Int):=by rw [Int.natCast_mul];exact key
    omega
  have c:=csq_le.1 (Nat.le_refl (Rt.csq (rL S s)))
  have:r<=Rt.csq (rL S s):=by
    apply Nat.le_of_not_gt
    intro g
    have:=Nat.mul_le_mul g g
    have e:(Rt.csq (rL S s)).succ*(Rt.csq (rL S s)).succ=Rt.csq (rL S s)*Rt.csq (rL S s)+2*Rt.csq (rL S s)+1:=by grind
    omega
  exact Int.ofNat_le.2 this
theorem sml {f g:Nat->Int}:∀ {n:Nat},(∀ k,k<n->f k<=g k)->sm f n<=sm g n
 |0,_=>Int.le_refl _
 |n+1,e=>by
    have:=sml (n:=n) fun k hk=>e k (by omega)
    have:=e n (by omega)
    show sm f n+f n<=sm g n+g n
    omega
theorem smc (c:Int):∀ n:Nat,sm (fun _=>c) n=(n:Int)*c
 |0=>by show (0:Int)=((0:Nat):Int)*c;simp
 |n+1=>by
    show sm (fun _=>c) n+c=((n+1:Nat):Int)*c
    rw [smc c n,Int.natCast_succ,Int.add_mul]
    omega
theorem sma (f g:Nat->Int):∀ n,sm (fun j=>f j+g j) n=sm f n+sm g n
 |0=>rfl
 |n+1=>by
    show sm (fun j=>f j+g j) n+(f n+g n)=(sm f n+f n)+(sm g n+g n)
    rw [sma f g n];omega
theorem sms (a:Nat->Nat->Int) (m:Nat):∀ n,sm (fun j=>sm (fun k=>a k j) n) m=sm (fun k=>sm (fun j=>a k j) m) n
 |0=>by
    show sm (fun _=>(0:Int)) m=0
    rw [smc];simp
 |n+1=>by
    show sm (fun j=>sm (fun k=>a k j) n+a n j) m=sm (fun k=>sm (fun j=>a k j) m) n+sm (fun j=>a n j) m
    rw [sma,sms a m n]
theorem smfl {n:Int} (h:0<n) (f:Nat->Int):∀ m,sm (fun j=>f j / n) m*n<=sm f m
 |0=>by show (0:Int)*n<=0;simp
 |m+1=>by
    have:=smfl h f m
    have q:=Int.ediv_mul_le (f m) (show n ≠ 0 by omega)
    show (sm (fun j=>f j / n) m+f m / n)*n<=sm f m+f m
    rw [Int.add_mul];omega
theorem ce_ge {n:Int} (h:0<n) (x:Int):x<=(x+n - 1) / n*n:=by
  have:=Int.lt_ediv_add_one_mul_self (x+n - 1) h
  rw [Int.add_mul] at this
  omega
theorem smce {n:Int} (h:0<n) (f:Nat->Int):∀ m,sm f m<=sm (fun j=>(f j+n - 1) / n) m*n
 |0=>by show (0:Int)<=0*n;simp
 |m+1=>by
    have:=smce h f m
    have q:=ce_ge h (f m)
    show sm f m+f m<=(sm (fun j=>(f j+n - 1) / n) m+(f m+n - 1) / n)*n
    rw [Int.add_mul];omega
def slo (c:Nat->Int) (n:Nat):Int:=sm c n / (n:Int)
def shi (c:Nat->Int) (n:Nat):Int:=(sm c n+(n:Int) - 1) / (n:Int)
def dlo (a:Nat->Nat->Int) (n:Nat):Int:=slo (fun j=>slo (fun k=>a k j) n) n
def dhi (a:Nat->Nat->Int) (n:Nat):Int:=shi (fun j=>shi (fun k=>a k j) n) n
def dsm (a:Nat->Nat->Int) (n:Nat):Int:=sm (fun j=>sm (fun k=>a k j) n) n
theorem slo_le {c:Nat->Int} {n:Nat} (h:0<n):slo c n*(n:Int)<=sm c n:=Int.ediv_mul_le _ (by omega)
theorem shi_ge {c:Nat->Int} {n:Nat} (h:0<n):sm c n<=shi c n*(n:Int):=ce_ge (by omega) _
theorem dlo_le {a:Nat->Nat->Int} {n:Nat} (h:0<n):dlo a n*(n:Int)*(n:Int)<=dsm a n:=by
  have p:(0:Int)<(n:Int):=by omega
  have h1:=slo_le (c:=fun j=>slo (fun k=>a k j) n) h
  have h2:=Int.mul_le_mul_of_nonneg_right h1 (Int.le_of_lt p)
  exact Int.le_trans h2 (smfl p (fun j=>sm (fun k=>a k j) n) n)
theorem dhi_ge {a:Nat->Nat->Int} {n:Nat} (h:0<n):dsm a n<=dhi a n*(n:Int)*(n:Int):=by
  have p:(0:Int)<(n:Int):=by omega
  have h1:=shi_ge (c:=fun j=>shi (fun k=>a k j) n) h
  have h2:=Int.mul_le_mul_of_nonneg_right h1 (Int.le_of_lt p)
  exact Int.le_trans (smce p (fun j=>sm (fun k=>a k j) n) n) h2
theorem cut2 {x y:Int} {n:Nat} (h:0<n) (k:x*(n:Int)*(n:Int)<=y*(n:Int)*(n:Int)):x<=y :=
  Int.le_of_mul_le_mul_right (Int.le_of_mul_le_mul_right k (by omega)) (by omega)
theorem dsm_le {a b:Nat->Nat->Int} {n:Nat} (h:∀ k,k<n->∀ j,j<n->a k j<=b k j):dsm a n<=dsm b n:=sml fun j hj=>sml fun k hk=>h k hk j hj
theorem dl_dd {a b:Nat->Nat->Int} {n:Nat} (p:0<n) (h:∀ k,k<n->∀ j,j<n->a k j<=b k j):dlo a n<=dhi b n:=cut2 p (Int.le_trans (dlo_le p) (Int.le_trans (dsm_le h) (dhi_ge p)))
theorem sl_1 {c d:Nat->Int} {n:Nat} (p:0<n) (h:∀ k,k<n->c k<=d k):slo c n<=shi d n:=by
  refine Int.le_of_mul_le_mul_right (Int.le_trans (slo_le p) (Int.le_trans (sml h) (shi_ge p))) (by omega)
def lwP (s:Int) (p q:P9):Int:=(kV false (FF p q) s).1.1
def upP (s rm:Int) (p q:P9):Int:=if NN p q=0 then rm else Sp.mn rm (kV false (NN p q) s).1.2
theorem ff_bd {p q:P9} (h:BdT 512 p) (k:BdT 512 q):FF p q<=1099511627776:=ff_le fun i hi j hj=>by
  have a:=p3f_bd h hi
  have b:=p3f_bd k hj
  have z:BdP 1024 (sub (P3F p i) (P3F q j)):=by
    obtain ⟨a1,a2,a3,a4,a5,a6⟩:=a
    obtain ⟨b1,b2,b3,b4,b5,b6⟩:=b
    simp only [BdP,sub]
    omega
  obtain ⟨c1,c2,c3,c4,c5,c6⟩:=z
  have x1:=mul_bd c1 c2 c1 c2
  have x2:=mul_bd c3 c4 c3 c4
  have x3:=mul_bd c5 c6 c5 c6
  simp only [sq,dot]
  omega
theorem lw_up {S:Nat} {f s:Int} {p q:P9} (S1:1<=S) (S2:S<=60000) (s1:1<=s) (s2:s<=8) (h:(S:Int)<=3*f) (f2:f<=1099511627776) (m:NN p q<=f):(kV false f s).1.1<=upP s ((rimN S s:Nat):Int) p q:=by
  have a:=lw_rim S1 S2 s1 s2 h f2
  have n0:=nn_nn p q
  unfold upP
  by_cases z:NN p q=0
  · rw [if_pos z];exact a
  · rw [if_neg z,Sp.mn_eq]
    have:=kV_mono false (by omega:1<=NN p q) m f2 s1 s2
    omega
theorem smcg {f g:Nat->Int}:∀ {n:Nat},(∀ k,k<n->f k=g k)->sm f n=sm g n
 |0,_=>rfl
 |n+1,h=>by
    show sm f n+f n=sm g n+g n
    rw [smcg (n:=n) fun k hk=>h k (by omega),h n (by omega)]
theorem slo_nn {c:Nat->Int} {n:Nat} (h:∀ k,k<n->0<=c k):0<=slo c n:=by
  have:sm (fun _=>(0:Int)) n<=sm c n:=sml h
  rw [smc,Int.mul_zero] at this
  exact Int.ediv_nonneg this (by omega)
theorem shi_bd {c:Nat->Int} {n:Nat} {B:Int} (p:0<n) (h:∀ k,k<n->c k<=B):shi c n<=B+1:=by
  have:sm c n<=sm (fun _=>B) n:=sml h
  rw [smc] at this
  have q:(sm c n+(n:Int) - 1) / (n:Int)<B+2:=Int.ediv_lt_of_lt_mul (by omega) (by
    rw [Int.add_mul,Int.mul_comm B];omega)
  unfold shi
  omega
theorem pair_lw {t:P9} {D f:Int} {p q:P9} (ht:pcode t.1 t.2.1 t.2.2=0) (d0:0<=D) (d3:D<=3) (h:((rS t:Nat):Int)<=3*f) (f2:f<=1099511627776) (m:NN p q<=f):(kV false f (scl D)).1.1<=upP (scl D) (rmF t D) p q:=by
  obtain ⟨_,s1,s2⟩:=scl_vals d0 d3
  obtain ⟨S1,S2,_⟩:=rS_bd ht
  exact lw_up S1 S2 s1 s2 h f2 m
def aP (t u:P9) (D:Int) (k j:Nat):Int:=lwP (scl D) (ptk t D k) (ptk u D j)
def bP (t u:P9) (D:Int) (k j:Nat):Int:=upP (scl D) (rmF t D) (ptk t D k) (ptk u D j)
theorem aP_bd (t u:P9) {D:Int} (k j:Nat) (d0:0<=D) (d3:D<=3):0<=aP t u D k j/\aP t u D k j<=1000000000:=by
  obtain ⟨_,s1,s2⟩:=scl_vals d0 d3
  have:=kVf_bd (FF (ptk t D k) (ptk u D j)) s1 s2
  exact ⟨this.1,this.2.1⟩
theorem bP_bd {t:P9} (u:P9) {D:Int} (k j:Nat) (ht:pcode t.1 t.2.1 t.2.2=0) (d0:0<=D) (d3:D<=3):0<=bP t u D k j/\bP t u D k j<=1000000000:=by
  obtain ⟨r0,r1⟩:=rmF_bd ht d0 d3
  exact vHi_bd t D (ptk u D j) k d0 d3 r0 r1
theorem mem9 {t:P9} {D:Int} {k:Nat} (hk:k<ptn D):ptk t D k ∈ cutP D.toNat t:=by
  unfold ptk
  have hl:k<(cutP D.toNat t).length:=by rw [cutP_len];exact hk
  rw [List.getD_eq_getElem?_getD,List.getElem?_eq_getElem hl]
  exact List.getElem_mem hl
theorem rs_part {t:P9} {D:Int} {k:Nat} (hk:k<ptn D) (q:P9):((rS t:Nat):Int)<=3*FF (ptk t D k) q:=by
  have:=rs_ff (ptk t D k) q
  rwa [rS_cut (mem9 hk)] at this
section
variable {t u:P9} {D:Int} (ht:pcode t.1 t.2.1 t.2.2=0) (hu:pcode u.1 u.2.1 u.2.2=0) (d0:0<=D) (d3:D<=3)
include ht hu d0 d3
theorem pp_bd {k j:Nat} (hk:k<ptn D) (hj:j<ptn D):FF (ptk t D k) (ptk u D j)<=1099511627776:=ff_bd (ptk_bd9 (pcode_64 ht) d0 d3 hk) (ptk_bd9 (pcode_64 hu) d0 d3 hj)
theorem pw_bd {k:Nat} (hk:k<ptn D):FF (ptk t D k) (tm9 (scl D) u)<=1099511627776:=by
  obtain ⟨_,s1,s2⟩:=scl_vals d0 d3
  exact ff_bd (ptk_bd9 (pcode_64 ht) d0 d3 hk) (tm9_bd (pcode_64 hu) s1 s2)
theorem ab {k j:Nat} (hk:k<ptn D) (hj:j<ptn D):aP t u D k j<=bP t u D k j:=pair_lw ht d0 d3 (rs_part hk _) (pp_bd ht hu d0 d3 hk hj) (nn_ff _ _)
theorem cd {k:Nat} (hk:k<ptn D):vLo t D (tm9 (scl D) u) k<=vHi t D (tm9 (scl D) u) (rmF t D) k:=pair_lw ht d0 d3 (rs_part hk _) (pw_bd ht hu d0 d3 hk) (nn_ff _ _)
end
theorem mutL_at (t u:P9) {D:Int} {j:Nat} (hj:j<ptn D):(mutL t u D).getD j (0,0)=(slo (fun k=>aP t u D k j) (ptn D),shi (fun k=>bP t u D k j) (ptn D)):=by
  have hl:j<(cutP D.toNat u).length:=by rw [cutP_len];exact hj
  have e:(cutP D.toNat u)[j]?=some (ptk u D j):=by
    unfold ptk
    rw [List.getD_eq_getElem?_getD,List.getElem?_eq_getElem hl]
    rfl
  rw [mutL_all,List.getD_eq_getElem?_getD,List.getElem?_map,e]
  rfl
theorem betF_val {t u:P9} {D:Int} (h:prc t u D=0):betF t u D=((slo (vLo t D (tm9 (scl D) u)) (ptn D),shi (vHi t D (tm9 (scl D) u) (rmF t D)) (ptn D)),0)/\Sp.vldB (slo (vLo t D (tm9 (scl D) u)) (ptn D)) (shi (vHi t D (tm9 (scl D) u) (rmF t D)) (ptn D))=true:=by
  obtain ⟨ht,hu,d0,d2⟩:=prc_ok h
  have d3:D<=3:=by omega
  obtain ⟨n0,n1⟩:=ptn_vals d0 d3
  obtain ⟨_,s1,s2⟩:=scl_vals d0 d3
  obtain ⟨r0,r1⟩:=rmF_bd ht d0 d3
  refine ⟨by unfold betF;rw [if_pos h];rfl,Sp.vld_iff.2 ⟨?_,sl_1 n0 fun k hk=>cd ht hu d0 d3 hk,?_⟩⟩
  · have:=slo_nn (c:=vLo t D (tm9 (scl D) u)) (n:=ptn D) fun k _=>(kVf_bd (vFar t D (tm9 (scl D) u) k) s1 s2).1
    omega
  · have:=shi_bd (c:=vHi t D (tm9 (scl D) u) (rmF t D)) (B:=1000000000) n0 fun k _=>(vHi_bd t D (tm9 (scl D) u) k d0 d3 r0 r1).2
    omega
theorem mutF_val {t u:P9} {D:Int} (h:prc t u D=0):mutF t u D=((dlo (aP t u D) (ptn D),dhi (bP t u D) (ptn D)),0)/\Sp.vldB (dlo (aP t u D) (ptn D)) (dhi (bP t u D) (ptn D))=true:=by
  obtain ⟨ht,hu,d0,d2⟩:=prc_ok h
  have d3:D<=3:=by omega
  obtain ⟨n0,n1⟩:=ptn_vals d0 d3
  have lo0:∀ j,0<=slo (fun k=>aP t u D k j) (ptn D):=fun j=>slo_nn fun k _=>(aP_bd t u k j d0 d3).1
  have hi0:∀ j,shi (fun k=>bP t u D k j) (ptn D)<=1000000001:=fun j=>shi_bd n0 fun k _=>(bP_bd u k j ht d0 d3).2
  have v:Sp.vldB (dlo (aP t u D) (ptn D)) (dhi (bP t u D) (ptn D))=true:=by
    refine Sp.vld_iff.2 ⟨?_,dl_dd n0 fun k hk j hj=>ab ht hu d0 d3 hk hj,?_⟩
    · have:0<=dlo (aP t u D) (ptn D):=slo_nn fun j _=>lo0 j
      omega
    · have:dhi (bP t u D) (ptn D)<=1000000001+1:=shi_bd n0 fun j _=>hi0 j
      omega
  refine ⟨?_,v⟩
  unfold mutF
  rw [if_pos h]
  unfold mnR8
  rw [if_pos (all_yes fun k hk=>by
    dsimp only
    rw [mutL_at t u hk]
    have a:=lo0 k
    have b:=hi0 k
    exact Sp.vld_iff.2 ⟨by dsimp only;omega,sl_1 n0 fun i hi=>ab ht hu d0 d3 hi hk,by dsimp only;omega⟩)]
  have e1:sm (fun k=>((mutL t u D).getD k (0,0)).1) (ptn D)=sm (fun j=>slo (fun k=>aP t u D k j) (ptn D)) (ptn D):=smcg fun k hk=>by (try dsimp only);rw [mutL_at t u hk]
  have e2:sm (fun k=>((mutL t u D).getD k (0,0)).2) (ptn D)=sm (fun j=>shi (fun k=>bP t u D k j) (ptn D)) (ptn D):=smcg fun k hk=>by (try dsimp only);rw [mutL_at t u hk]
  rw [e1,e2]
  unfold meanR
  rw [if_pos rfl,if_neg (by omega),(fl_ptn d0 d3).1,(fl_ptn d0 d3).2]
  exact Sp.told_yes v
end Go.Proofs.YtbcjiigmbcfkeaaGreat
