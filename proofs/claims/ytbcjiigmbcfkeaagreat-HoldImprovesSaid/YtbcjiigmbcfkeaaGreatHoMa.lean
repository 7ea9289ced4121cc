import Derived.Test.YtbcjiigmbcfkeaaGreatFgMj
import Derived.Test.YtbcjiigmbcfkeaaGreatShN
import Derived.Test.YtbcjiigmbcfkeaaGreatLen
import Derived.LoopTactic
import Derived.Laws.EntriesVeiled
namespace Go.Proofs.YtbcjiigmbcfkeaaGreat
open Go.Lib (hid)
set_option maxRecDepth 100000
set_option maxHeartbeats 2000000
open Go.ChangeShapes Go.WideShapes Go.RowKit
open Sh
theorem isq_pos {n:Nat} (h:1<=n):1<=Rt.isq n:=by
  have s:=Rt.isq_spec n
  rcases Nat.eq_zero_or_pos (Rt.isq n) with z|z
  · rw [z] at s;omega
  · exact z
theorem lw1 {m k:Int} (m1:1<=m) (m2:m<=1099511627776) (k1:1<=k) (k2:k<=8):1<=(kV false m k).1.1:=by
  obtain ⟨r,u,e,er,_,_⟩:=invR_val m1 m2 k1 k2
  show 1<=(invR m k).1.1
  rw [e]
  have h:1<=k.toNat*1048576*(k.toNat*1048576) / m.toNat:=by
    rw [Nat.le_div_iff_mul_le (by omega)]
    have:=Nat.mul_le_mul (show 1048576<=k.toNat*1048576 by omega) (show 1048576<=k.toNat*1048576 by omega)
    omega
  have:=isq_pos h
  rw [← er] at this
  show (1:Int)<=(r:Int)
  omega
theorem slo_1 {c:Nat->Int} {n:Nat} (p:0<n) (h:∀ k,k<n->1<=c k):1<=slo c n:=by
  have:sm (fun _=>(1:Int)) n<=sm c n:=sml h
  rw [smc] at this
  exact (Int.le_ediv_iff_mul_le (by omega)).2 (by omega)
theorem vHi_rm (t:P9) (D:Int) (u:P9) (rm:Int) (k:Nat):vHi t D u rm k<=rm:=by
  unfold vHi
  split
  · exact Int.le_refl _
  · rw [Sp.mn_eq];omega
theorem betF_rng {t u:P9} {D:Int} (h:prc t u D=0):(betF t u D).2=0/\1<=(betF t u D).1.1/\(betF t u D).1.1<=(betF t u D).1.2/\(betF t u D).1.2<=67108866:=by
  obtain ⟨ht,hu,d0,d2⟩:=prc_ok h
  have d3:D<=3:=by omega
  obtain ⟨n0,n1⟩:=ptn_vals d0 d3
  obtain ⟨_,s1,s2⟩:=scl_vals d0 d3
  obtain ⟨r0,r1⟩:=rmF_bd ht d0 d3
  obtain ⟨S1,_⟩:=rS_bd ht
  obtain ⟨e,v⟩:=betF_val h
  have v:=(Sp.vld_iff.1 v).2.1
  have a:=slo_1 (c:=vLo t D (tm9 (scl D) u)) n0 fun k hk=>lw1 (by have:=rs_part (t:=t) hk (tm9 (scl D) u);show (1:Int)<=FF (ptk t D k) (tm9 (scl D) u);omega) (pw_bd ht hu d0 d3 hk) s1 s2
  have b:=shi_bd (c:=vHi t D (tm9 (scl D) u) (rmF t D)) (B:=67108864) n0 fun k _=>Int.le_trans (vHi_rm _ _ _ _ _) r1
  rw [e]
  exact ⟨rfl,a,v,by dsimp only;omega⟩
theorem mutF_rng {t u:P9} {D:Int} (h:prc t u D=0):(mutF t u D).2=0/\1<=(mutF t u D).1.1/\(mutF t u D).1.1<=(mutF t u D).1.2/\(mutF t u D).1.2<=67108866:=by
  obtain ⟨ht,hu,d0,d2⟩:=prc_ok h
  have d3:D<=3:=by omega
  obtain ⟨n0,n1⟩:=ptn_vals d0 d3
  obtain ⟨_,s1,s2⟩:=scl_vals d0 d3
  obtain ⟨r0,r1⟩:=rmF_bd ht d0 d3
  obtain ⟨S1,_⟩:=rS_bd ht
  obtain ⟨e,v⟩:=mutF_val h
  have v:=(Sp.vld_iff.1 v).2.1
  have a:=slo_1 (c:=fun j=>slo (fun k=>aP t u D k j) (ptn D)) n0 fun j hj=>slo_1 n0 fun k hk=>lw1 (by have:=rs_part (t:=t) hk (ptk u D j);omega) (pp_bd ht hu d0 d3 hk hj) s1 s2
  have b:=shi_bd (c:=fun j=>shi (fun k=>bP t u D k j) (ptn D)) (B:=67108865) n0 fun j _=>shi_bd (B:=67108864) n0 fun k _=>Int.le_trans (vHi_rm _ _ _ _ _) r1
  rw [e]
  exact ⟨rfl,a,v,b⟩
theorem tr_pcode {np nf:Nat} {P F:Nat->P3} (z:vcode ⟨np,nf,P,F⟩=0) {k:Nat} (hk:k<nf):pcode (Tr P F k).1 (Tr P F k).2.1 (Tr P F k).2.2=0:=by
  obtain ⟨h1,h2,h3,h4,h5⟩:=vcode_ok z
  have f:=h5 k hk
  unfold Sh.fcode at f
  split at f
  · rename_i g
    have i1:=pts_in h4 (F k).1.toNat (by omega)
    have i2:=pts_in h4 (F k).2.1.toNat (by omega)
    have i3:=pts_in h4 (F k).2.2.toNat (by omega)
    unfold pcode Tr
    dsimp only
    rw [i1,i2,i3]
    exact f
  · exact absurd f (by decide)
theorem tr_prc {np nf:Nat} {P F:Nat->P3} {D:Int} (z:vcode ⟨np,nf,P,F⟩=0) (d0:0<=D) (d2:D<=2) {i j:Nat} (hi:i<nf) (hj:j<nf):prc (Tr P F i) (Tr P F j) D=0:=by
  unfold prc
  rw [if_pos (tr_pcode z hi),if_pos (tr_pcode z hj),if_pos (by simp [rngB];omega)]
def TB (n:Nat) (f:Nat->Nat->Int × Int):Prop:=∀ j i,j<n->i<n->1<=(f j i).1/\(f j i).1<=(f j i).2/\(f j i).2<=67108866
def btT (T:Nat->P9) (D:Int) (j i:Nat):Int × Int:=(betF (T i) (T j) D).1
def mtT (T:Nat->P9) (D:Int) (j i:Nat):Int × Int:=(mutF (T i) (T j) D).1
section
variable {np nf:Nat} {P F:Nat->P3} {D:Int} (z:vcode ⟨np,nf,P,F⟩=0) (d0:0<=D) (d2:D<=2)
include z d0 d2
theorem bt_e {i j:Nat} (hi:i<nf) (hj:j<nf):betF (Tr P F i) (Tr P F j) D=(btT (Tr P F) D j i,0):=by
  have h:=betF_rng (tr_prc z d0 d2 hi hj)
  unfold btT
  exact Prod.ext rfl h.1
theorem mt_e {i j:Nat} (hi:i<nf) (hj:j<nf):mutF (Tr P F i) (Tr P F j) D=(mtT (Tr P F) D j i,0):=by
  have h:=mutF_rng (tr_prc z d0 d2 hi hj)
  unfold mtT
  exact Prod.ext rfl h.1
theorem bt_tb:TB nf (btT (Tr P F) D):=fun _ _ hj hi=>(betF_rng (tr_prc z d0 d2 hi hj)).2
theorem mt_tb:TB nf (mtT (Tr P F) D):=fun _ _ hj hi=>(mutF_rng (tr_prc z d0 d2 hi hj)).2
end
def wsm (f c:Nat->Int) (n:Nat):Int:=sm (fun i=>f i*c i) n
theorem sm_nn {f:Nat->Int} {n:Nat} (h:∀ i,i<n->0<=f i):0<=sm f n:=by
  have:sm (fun _=>(0:Int)) n<=sm f n:=sml h
  rwa [smc,Int.mul_zero] at this
theorem sm_one {f:Nat->Int} {n k:Nat} (h:∀ i,i<n->0<=f i) (hk:k<n):f k<=sm f n:=by
  induction n with
 |zero=>omega
 |succ n ih =>
    show f k<=sm f n+f n
    have a:=h n (by omega)
    by_cases e:k=n
    · subst e
      have:=sm_nn (f:=f) (n:=k) fun i hi=>h i (by omega)
      omega
    · have:=ih (fun i hi=>h i (by omega)) (by omega)
      omega
theorem sm_scl (f:Nat->Int) (k:Int):∀ n:Nat,sm (fun i=>f i*k) n=sm f n*k
 |0=>by show (0:Int)=0*k;omega
 |n+1=>by
    show sm (fun i=>f i*k) n+f n*k=(sm f n+f n)*k
    rw [sm_scl f k n,Int.add_mul]
def chB (c:Nat->Int) (n:Nat):Bool:=(List.range n).all fun i=>decide (0<=c i/\c i<=100)
theorem chB_iff {c:Nat->Int} {n:Nat}:chB c n=true ↔ ∀ i,i<n->0<=c i/\c i<=100:=by
  unfold chB
  rw [List.all_eq_true]
  constructor
  · intro h i hi
    exact of_decide_eq_true (h i (List.mem_range.2 hi))
  · intro h i hi
    exact decide_eq_true (h i (List.mem_range.1 hi))
def chc (vc:Int) (nf:Nat) (n:Nat) (c:Nat->Int):Int:=if vc=0 then (if n=nf/\chB c n=true then (if sm c n=0 then 11 else 0) else 1) else vc
def gvc (vc:Int) (nf:Nat) (n:Nat) (c:Nat->Int) (D:Int):Int:=if chc vc nf n c=0 then (if 0<=D/\D<=2 then 0 else 1) else chc vc nf n c
def dpc (vc D:Int):Int:=if vc=0 then (if 0<=D/\D<=2 then 0 else 1) else vc
theorem chc_ok {vc:Int} {nf n:Nat} {c:Nat->Int} (h:chc vc nf n c=0):vc=0/\n=nf/\(∀ i,i<n->0<=c i/\c i<=100)/\1<=sm c n:=by
  unfold chc at h
  by_cases a:vc=0
  · rw [if_pos a] at h
    by_cases b:n=nf/\chB c n=true
    · rw [if_pos b] at h
      have q:=chB_iff.1 b.2
      by_cases e:sm c n=0
      · rw [if_pos e] at h;exact absurd h (by decide)
      · have:=sm_nn (f:=c) (n:=n) fun i hi=>(q i hi).1
        exact ⟨a,b.1,q,by omega⟩
    · rw [if_neg b] at h;exact absurd h (by decide)
  · rw [if_neg a] at h;exact absurd h a
theorem gvc_ok {vc D:Int} {nf n:Nat} {c:Nat->Int} (h:gvc vc nf n c D=0):chc vc nf n c=0/\0<=D/\D<=2:=by
  unfold gvc at h
  by_cases a:chc vc nf n c=0
  · rw [if_pos a] at h
    by_cases b:0<=D/\D<=2
    · exact ⟨a,b⟩
    · rw [if_neg b] at h;exact absurd h (by decide)
  · rw [if_neg a] at h;exact absurd h a
theorem dpc_ok {vc D:Int} (h:dpc vc D=0):vc=0/\0<=D/\D<=2:=by
  unfold dpc at h
  by_cases a:vc=0
  · rw [if_pos a] at h
    by_cases b:0<=D/\D<=2
    · exact ⟨a,b⟩
    · rw [if_neg b] at h;exact absurd h (by decide)
  · rw [if_neg a] at h;exact absurd h a
def ptL (f:Nat->Nat->Int × Int) (c:Nat->Int) (n j:Nat):Int:=wsm (fun i=>(f j i).1) c n
def ptH (f:Nat->Nat->Int × Int) (c:Nat->Int) (n j:Nat):Int:=wsm (fun i=>(f j i).2) c n
section
variable {n:Nat} {f:Nat->Nat->Int × Int} {c:Nat->Int} (t:TB n f) (hc:∀ i,i<n->0<=c i/\c i<=100)
include t hc
theorem pt_lo {j:Nat} (hj:j<n):sm c n<=ptL f c n j:=sml fun i hi=>by
  have a:=(t j i hj hi).1
  have:=Int.mul_le_mul_of_nonneg_right a (hc i hi).1
  rw [Int.one_mul] at this
  exact this
theorem pt_le {j:Nat} (hj:j<n):ptL f c n j<=ptH f c n j:=sml fun i hi=>Int.mul_le_mul_of_nonneg_right (t j i hj hi).2.1 (hc i hi).1
theorem pt_hi {j:Nat} (hj:j<n):ptH f c n j<=sm c n*67108866:=by
  rw [← sm_scl]
  exact sml fun i hi=>by
    have:=Int.mul_le_mul_of_nonneg_right (t j i hj hi).2.2 (hc i hi).1
    rw [Int.mul_comm (c i)]
    exact this
end
theorem ch_sm {n:Nat} {c:Nat->Int} (hn:n<=96) (hc:∀ i,i<n->0<=c i/\c i<=100):0<=sm c n/\sm c n<=9600:=by
  have a:=sm_nn (f:=c) (n:=n) fun i hi=>(hc i hi).1
  have b:sm c n<=sm (fun _=>(100:Int)) n:=sml fun i hi=>(hc i hi).2
  rw [smc] at b
  omega
def wtR (l h c:Nat->Int) (n:Nat):Sp.R:=Sp.told (wsm l c n) (wsm h c n)
theorem wsm_dbl (g:Nat->Nat->Int) (c:Nat->Int) (n:Nat):sm (fun i=>sm (fun j=>g j i*(c i*c j)) n) n=wsm (fun j=>wsm (g j) c n) c n:=by
  show _=sm (fun j=>sm (fun i=>g j i*c i) n*c j) n
  have e:sm (fun j=>sm (fun i=>g j i*c i) n*c j) n=sm (fun j=>sm (fun i=>g j i*c i*c j) n) n:=smcg fun j _=>(sm_scl _ _ _).symm
  rw [e,sms (fun i j=>g j i*c i*c j) n n]
  exact smcg fun i _=>smcg fun j _=>(Int.mul_assoc _ _ _).symm
theorem sm_ap7 (f:Nat->Int) (m:Nat):∀ k,sm f (m+k)=sm f m+sm (fun i=>f (m+i)) k
 |0=>by show sm f m=sm f m+0;omega
 |k+1=>by
    show sm f (m+k)+f (m+k)=sm f m+(sm (fun i=>f (m+i)) k+f (m+k))
    rw [sm_ap7 f m k];omega
theorem sm_flat (a:Nat->Nat->Int) {n:Nat} (p:0<n):∀ m,sm (fun k=>a (k / n) (k % n)) (m*n)=sm (fun i=>sm (a i) n) m
 |0=>by rw [Nat.zero_mul];rfl
 |m+1=>by
    rw [Nat.succ_mul,sm_ap7,sm_flat a p m]
    show _=sm (fun i=>sm (a i) n) m+sm (a m) n
    congr 1
    refine smcg fun i hi=>?_
    rw [Nat.mul_comm m n,Nat.mul_add_div p,Nat.div_eq_of_lt hi,Nat.mul_add_mod,Nat.mod_eq_of_lt hi,Nat.add_zero]
def enL (m:Nat->Nat->Int × Int) (c:Nat->Int) (n:Nat):Int:=wsm (ptL m c n) c n
def enH (m:Nat->Nat->Int × Int) (c:Nat->Int) (n:Nat):Int:=wsm (ptH m c n) c n
def enR (m:Nat->Nat->Int × Int) (c:Nat->Int) (n:Nat):Sp.R:=Sp.told (enL m c n) (enH m c n)
section
variable {n:Nat} {f:Nat->Nat->Int × Int} {c:Nat->Int} (t:TB n f) (hc:∀ i,i<n->0<=c i/\c i<=100)
include t hc
theorem en_le:enL f c n<=enH f c n:=sml fun j hj=>Int.mul_le_mul_of_nonneg_right (pt_le t hc hj) (hc j hj).1
theorem en_lo:sm c n*sm c n<=enL f c n:=by
  have a:sm (fun j=>c j*sm c n) n<=sm (fun j=>ptL f c n j*c j) n:=sml fun j hj=>by
    rw [Int.mul_comm (c j)]
    exact Int.mul_le_mul_of_nonneg_right (pt_lo t hc hj) (hc j hj).1
  rw [sm_scl] at a
  exact a
theorem en_nn:0<=enL f c n:=by
  have a:=en_lo t hc
  have b:=sm_nn (f:=c) (n:=n) fun i hi=>(hc i hi).1
  have:=Int.mul_le_mul_of_nonneg_right b b
  omega
end
def mxl (f:Nat->Int):Nat->Int
 |0=>0
 |k+1=>Sp.mx (mxl f k) (f k)
def mnl (f:Nat->Int):Nat->Int
 |0=>1099511627776
 |k+1=>Sp.mn (mnl f k) (f k)
theorem mxl_ge (f:Nat->Int) {k:Nat}:∀ {n:Nat},k<n->f k<=mxl f n
 |n+1,h=>by
    show f k<=Sp.mx (mxl f n) (f n)
    rw [Sp.mx_eq]
    by_cases e:k=n
    · subst e;omega
    · have:=mxl_ge f (k:=k) (n:=n) (by omega)
      omega
theorem mxl_le {f:Nat->Int} {B:Int} (b:0<=B):∀ {n:Nat},(∀ k,k<n->f k<=B)->mxl f n<=B
 |0,_=>b
 |n+1,h=>by
    show Sp.mx (mxl f n) (f n)<=B
    have:=mxl_le b (n:=n) fun k hk=>h k (by omega)
    have:=h n (by omega)
    rw [Sp.mx_eq];omega
theorem mxl_nn (f:Nat->Int):∀ n,0<=mxl f n
 |0=>Int.le_refl _
 |n+1=>by
    have:=mxl_nn f n
    show 0<=Sp.mx (mxl f n) (f n)
    rw [Sp.mx_eq];omega
theorem mnl_le (f:Nat->Int) {k:Nat}:∀ {n:Nat},k<n->mnl f n<=f k
 |n+1,h=>by
    show Sp.mn (mnl f n) (f n)<=f k
    rw [Sp.mn_eq]
    by_cases e:k=n
    · subst e;omega
    · have:=mnl_le f (k:=k) (n:=n) (by omega)
      omega
theorem mnl_ge {f:Nat->Int} {B:Int} (b:B<=1099511627776):∀ {n:Nat},(∀ k,k<n->B<=f k)->B<=mnl f n
 |0,_=>b
 |n+1,h=>by
    show B<=Sp.mn (mnl f n) (f n)
    have:=mnl_ge b (n:=n) fun k hk=>h k (by omega)
    have:=h n (by omega)
    rw [Sp.mn_eq];omega
theorem mnl_top (f:Nat->Int):∀ n,mnl f n<=1099511627776
 |0=>Int.le_refl _
 |n+1=>by
    have:=mnl_top f n
    show Sp.mn (mnl f n) (f n)<=_
    rw [Sp.mn_eq];omega
def lowN (S d:Int):Int:=S*1099511627776 / d
def abvN (S d:Int):Int:=(S*1099511627776+d - 1) / d
def thoN (S E:Int):Int:=lowN S ((E+S - 1) / S)
theorem quoS {S d:Int} (s1:1<=S) (s2:S<=9600) (h1:S<=d) :
    Sp.told (Sp.fl (S*1048576*1048576) d) (Sp.ce (S*1048576*1048576) d)=((lowN S d,abvN S d),0)/\0<=lowN S d/\lowN S d<=abvN S d/\abvN S d<=1099511627776:=by
  have e:S*1048576*1048576=S*1099511627776:=by omega
  have a1:0<=lowN S d:=Int.ediv_nonneg (by omega) (by omega)
  have a2:lowN S d<=abvN S d:=Int.ediv_le_ediv (by omega) (by omega)
  have a3:abvN S d<=1099511627776:=by
    have:(S*1099511627776+d - 1) / d<1099511627776+1:=Int.ediv_lt_of_lt_mul (by omega) (by omega)
    unfold abvN
    omega
  refine ⟨?_,a1,a2,a3⟩
  rw [e,ce_up (by omega)]
  have f:Sp.fl (S*1099511627776) d=lowN S d:=by unfold Sp.fl;rw [if_pos (by omega)];rfl
  rw [f]
  show Sp.told (lowN S d) (abvN S d)=_
  exact Sp.told_yes (Sp.vld_iff.2 ⟨by omega,a2,a3⟩)
theorem parS {S l h:Int} (s1:1<=S) (s2:S<=9600) (h0:S*S<=l) (h1:l<=h) (h2:h<=1099511627776) :
    ∃ k,partR l h S=((k,(h+S - 1) / S),0)/\S<=(h+S - 1) / S/\(h+S - 1) / S<=1099511627776:=by
  have s0:0<=S*S:=Int.mul_nonneg (by omega) (by omega)
  have b1:S<=(h+S - 1) / S:=(Int.le_ediv_iff_mul_le (by omega)).2 (by omega)
  have b2:(h+S - 1) / S<=1099511627776:=by
    have:(h+S - 1) / S<1099511627776+1:=Int.ediv_lt_of_lt_mul (by omega) (by
      have:=Int.mul_le_mul_of_nonneg_left s1 (show (0:Int)<=1099511627776 by decide)
      omega)
    omega
  have b3:l / S<=(h+S - 1) / S:=Int.ediv_le_ediv (by omega) (by omega)
  have b4:0<=l / S:=Int.ediv_nonneg (by omega) (by omega)
  refine ⟨l / S,?_,b1,b2⟩
  unfold partR
  rw [if_pos ⟨Sp.vld_iff.2 ⟨by omega,h1,h2⟩,s1,by omega⟩,ce_up (by omega)]
  have f:Sp.fl l S=l / S:=by unfold Sp.fl;rw [if_pos (by omega)]
  rw [f]
  exact Sp.told_yes (Sp.vld_iff.2 ⟨by omega,b3,b2⟩)
def dsq (P:Nat->P3) (x:P3) (k:Nat):Int:=sq (sub (P k) x)
def ballR (vc:Int) (np:Nat) (P:Nat->P3) (x:P3):Int × Int :=
  if vc=0 then (if inP 256 x=true then ((lenR (mxl (dsq P x) np)).1.2,(lenR (mxl (dsq P x) np)).2) else (0,1)) else (0,vc)
theorem csq_1048576:Rt.csq 1099511627776=1048576:=by
  have a:Rt.csq 1099511627776<=1048576:=csq_le.2 (by decide)
  have b:¬ Rt.csq 1099511627776<=1048575:=fun h=>absurd (csq_le.1 h) (by decide)
  omega
theorem sqn7 (x:Int):0<=x*x:=by
  rcases Int.le_total 0 x with h|h
  · exact Int.mul_nonneg h h
  · exact Int.mul_nonneg_of_nonpos_of_nonpos h h
theorem dsq_bd {P:Nat->P3} {x:P3} {n:Nat} (h:∀ k,k<n->BdP 64 (P k)) (hx:BdP 256 x) {k:Nat} (hk:k<n):0<=dsq P x k/\dsq P x k<=307200:=by
  have a:=h k hk
  obtain ⟨a1,a2,a3,a4,a5,a6⟩:=a
  obtain ⟨b1,b2,b3,b4,b5,b6⟩:=hx
  have x1:=mul_bd (A:=320) (B:=320) (x:=(P k).1 - x.1) (y:=(P k).1 - x.1) (by omega) (by omega) (by omega) (by omega)
  have x2:=mul_bd (A:=320) (B:=320) (x:=(P k).2.1 - x.2.1) (y:=(P k).2.1 - x.2.1) (by omega) (by omega) (by omega) (by omega)
  have x3:=mul_bd (A:=320) (B:=320) (x:=(P k).2.2 - x.2.2) (y:=(P k).2.2 - x.2.2) (by omega) (by omega) (by omega) (by omega)
  have y1:=sqn7 ((P k).1 - x.1)
  have y2:=sqn7 ((P k).2.1 - x.2.1)
  have y3:=sqn7 ((P k).2.2 - x.2.2)
  simp only [dsq,sq,dot,sub]
  omega
theorem len_ok {m:Int} (h0:0<=m) (h1:m<=307200):(lenR m).2=0/\0<=(lenR m).1.2/\(lenR m).1.2<=1099511627776:=by
  have s:=Rt.isq_spec (m.toNat*1099511627776)
  have c:Rt.csq (m.toNat*1099511627776)<=1073741824:=csq_le.2 (by omega)
  have d:Rt.isq (m.toNat*1099511627776)<=Rt.csq (m.toNat*1099511627776):=by
    unfold Rt.csq;split<;>omega
  unfold lenR
  rw [if_pos ⟨h0,by omega⟩,Sp.told_yes (Sp.vld_iff.2 ⟨by omega,by omega,by omega⟩)]
  exact ⟨rfl,by dsimp only;omega,by dsimp only;omega⟩
def mid (a b:P3):P3:=((a.1+b.1) / 2,(a.2.1+b.2.1) / 2,(a.2.2+b.2.2) / 2)
theorem mid_bd {a b:P3} (h:BdP 64 a) (k:BdP 64 b):BdP 256 (mid a b):=by
  obtain ⟨a1,a2,a3,a4,a5,a6⟩:=h
  obtain ⟨b1,b2,b3,b4,b5,b6⟩:=k
  simp only [BdP,mid]
  omega
def RowI (w:World) (b off n:Nat) (c:Nat->Int):Prop:=b<w.heap.size/\∀ k,k<n->w.cell? ⟨b,off+k,none⟩=some (.int .i64 (c k))
def LstI (w:World) (a:Option Addr) (n:Nat) (c:Nat->Int):Prop:=0<n->∃ b off,a=some ⟨b,off,none⟩/\RowI w b off n c
theorem rowI_below {w w1:World} {b off n:Nat} {c:Nat->Int} (h:RowI w b off n c) (hb:Below w.heap.size w w1):RowI w1 b off n c :=
  ⟨Nat.lt_of_lt_of_le h.1 hb.size,fun k hk=>(hb.cell (p:=⟨b,off+k,none⟩) h.1).trans (h.2 k hk)⟩
theorem lstI_below {w w1:World} {a:Option Addr} {n:Nat} {c:Nat->Int} (h:LstI w a n c) (hb:Below w.heap.size w w1):LstI w1 a n c:=fun h0=>by
  obtain ⟨b,off,e,r⟩:=h h0
  exact ⟨b,off,e,rowI_below r hb⟩
theorem ch_sm2 {n:Nat} {c:Nat->Int} (hc:∀ i,i<n->0<=c i/\c i<=100):0<=sm c n/\sm c n<=100*(n:Int):=by
  have a:=sm_nn (f:=c) (n:=n) fun i hi=>(hc i hi).1
  have b:sm c n<=sm (fun _=>(100:Int)) n:=sml fun i hi=>(hc i hi).2
  rw [smc] at b
  omega
theorem chB_next {c:Nat->Int} {k:Nat} (h:chB c k=true) (x:rngB (c k) 0 100=true):chB c (k+1)=true :=
  chB_iff.2 fun i hi=>by
    by_cases e:i=k
    · subst e;exact rngB_iff.1 x
    · exact chB_iff.1 h i (by omega)
theorem chB_hit {c:Nat->Int} {k n:Nat} (hk:k<n) (x:rngB (c k) 0 100=false):chB c n=false:=by
  cases e:chB c n with
 |false=>rfl
 |true=>exact absurd (chB_iff.1 e k hk) (rngB_not.1 x)
theorem hinr_any (n lo hi:Int) (w:World) :
    Calls Tryz.prog 102 #[.int .i64 n,.int .i64 lo,.int .i64 hi] w fun e w'=>e=.returned (.bool (rngB n lo hi))/\w=w':=by
  by_cases h:lo<=n
  · by_cases k:n<=hi
    · rw [rngB_iff.2 ⟨h,k⟩]
      go_enter Tryz.func102,Tryz.ntmps102
      go_wp2
      go_ret
      exact ⟨rfl,rfl⟩
    · rw [rngB_not.2 (fun x=>k x.2)]
      have k':decide (n<=hi)=false:=decide_eq_false k
      clear k
      go_enter Tryz.func102,Tryz.ntmps102
      go_wp2
      go_ret
      exact ⟨rfl,rfl⟩
  · rw [rngB_not.2 (fun x=>h x.1)]
    go_enter Tryz.func102,Tryz.ntmps102
    go_wp2
    go_ret
    exact ⟨rfl,rfl⟩
theorem hwi_any (n lo hi:Int) (w:World) :
    Calls Tryz.prog 47 #[.int .i64 n,.int .i64 lo,.int .i64 hi] w fun e w'=>e=.returned (.bool (rngB n lo hi))/\w=w':=by
  by_cases h:lo<=n
  · by_cases k:n<=hi
    · rw [rngB_iff.2 ⟨h,k⟩]
      go_enter Tryz.func47,Tryz.ntmps47
      go_wp2
      go_ret
      exact ⟨rfl,rfl⟩
    · rw [rngB_not.2 (fun x=>k x.2)]
      have k':decide (n<=hi)=false:=decide_eq_false k
      clear k
      go_enter Tryz.func47,Tryz.ntmps47
      go_wp2
      go_ret
      exact ⟨rfl,rfl⟩
  · rw [rngB_not.2 (fun x=>h x.1)]
    go_enter Tryz.func47,Tryz.ntmps47
    go_wp2
    go_ret
    exact ⟨rfl,rfl⟩
theorem nch_any (n:Int) (w:World):Calls Tryz.prog 50 #[.int .i64 n] w fun e w'=>e=.returned (.bool (!rngB n 0 100))/\w=w':=by
  have R:=hid (fun W=>hinr_any n 0 100 W)
  generalize rngB n 0 100=b at *
  go_enter Tryz.func50,Tryz.ntmps50
  go_wp2_with fail
  with_reducible refine (R.out _).mono ?_
  rintro e w1 ⟨rfl,rfl⟩
  cases b<;>(go_wp2;go_ret;exact ⟨rfl,rfl⟩)
theorem hdp_any (n:Int) (w:World):Calls Tryz.prog 89 #[.int .i64 n] w fun e w'=>e=.returned (.bool (rngB n 0 2))/\w=w':=by
  have R:=hid (fun W=>hinr_any n 0 2 W)
  generalize rngB n 0 2=b at *
  go_enter Tryz.func89,Tryz.ntmps89
  go_wp2_with fail
  with_reducible refine (R.out _).mono ?_
  rintro e w1 ⟨rfl,rfl⟩
  cases b<;>(go_wp2;go_ret;exact ⟨rfl,rfl⟩)
theorem hix_any (a:Option Addr) (n cap:Nat) (c:Nat->Int) (w:World) (rr:LstI w a n c) (hn:n<=1000000) :
    Calls Tryz.prog 101 #[.slice a n cap,.func (.func 50) #[] #[]] w fun e w'=>∃ r:Int,e=.returned (.int .i64 r)/\-1<=r/\r<=1000000/\chB c n=decide (r<0)/\Below w.heap.size w w':=by
  have RR:=hid rr
  have hn':(n:Int)<=1000000:=by omega
  clear rr
  go_enter Tryz.func101,Tryz.ntmps101
  go_wp2
  go_loopw [8] (fun kv wr=>∃ k:Nat,k<=n/\kv=.int .i64 k/\chB c k=true/\Below w.heap.size w wr) (fun kv _=>n - (intOf kv).toNat)
  case atStart=>exact ⟨0,Nat.zero_le _,rfl,rfl,Below.refl _ _⟩
  case round =>
    obtain ⟨k,hk,rfl,good,BB⟩:=hrel
    have GOOD:=hid good
    clear good
    by_cases hlt:k<n
    · have hk1:(k:Int)<(n:Int):=by omega
      obtain ⟨b,off,rfl,rw0⟩:=RR.out (show 0<n by omega)
      have r2:=rowI_below rw0 BB
      have c1:=r2.2 k hlt
      have l1:=r2.1
      have HIT:=hid (fun h:rngB (c k) 0 100=false=>chB_hit hlt h)
      have NEXT:=hid (fun h:rngB (c k) 0 100=true=>chB_next GOOD.out h)
      clear r2 rw0
      generalize c k=x at *
      have CK:=hid (fun W=>nch_any x W)
      go_wp2_with fail
      go_at_call 50
      with_reducible refine (CK.out _).mono ?_
      rintro e w1 ⟨rfl,rfl⟩
      cases hb:rngB x 0 100 with
     |true =>
        have A1:=hid (NEXT.out hb)
        clear HIT NEXT hb
        go_wp2
        go_roundw
        case rel=>exact ⟨k+1,by omega,by go_num,A1.out,BB⟩
        case measure=>simp [intOf];omega
     |false =>
        have A1:=hid (HIT.out hb)
        clear HIT NEXT hb
        go_wp2
        go_ret
        exact ⟨_,rfl,by omega,by omega,by rw [A1.out];exact (decide_eq_false (by omega)).symm,BB⟩
    · obtain rfl:k=n:=by omega
      go_wp2
      go_ret
      exact ⟨-1,rfl,by omega,by omega,by rw [GOOD.out];rfl,BB⟩
theorem hcf_any (a:Option Addr) (n cap:Nat) (c:Nat->Int) (w:World) (rr:LstI w a n c) (hn:n<=1000000) :
    Calls Tryz.prog 49 #[.slice a n cap,.func (.func 50) #[] #[]] w fun e w'=>e=.returned (.bool (!chB c n))/\Below w.heap.size w w':=by
  have CI:=hid (fun W (B:Below w.heap.size w W)=>hix_any a n cap c W (lstI_below rr B) hn)
  clear rr
  generalize chB c n=v at *
  go_enter Tryz.func49,Tryz.ntmps49
  go_wp2_with fail
  with_reducible refine (CI.out _ (Below.refl _ w)).mono ?_
  rintro e w1 ⟨r,rfl,r1,r2,hv,hb⟩
  by_cases z:0<=r
  · obtain rfl:v=false:=by rw [hv];exact decide_eq_false (by omega)
    clear hv
    go_wp2
    go_ret
    exact ⟨by first|rfl|simp [z],hb⟩
  · obtain rfl:v=true:=by rw [hv];exact decide_eq_true (by omega)
    clear hv
    go_wp2
    go_ret
    exact ⟨by first|rfl|simp [z],hb⟩
theorem hsum_any (a:Option Addr) (n cap:Nat) (c:Nat->Int) (w:World) (rr:LstI w a n c) (hn:n<=1000) (hc:∀ i,i<n->0<=c i/\c i<=100) :
    Calls Tryz.prog 51 #[.slice a n cap] w fun e w'=>e=.returned (.int .i64 (sm c n))/\Below w.heap.size w w':=by
  have RR:=hid rr
  have HC:=hid hc
  have hn':(n:Int)<=1000:=by omega
  clear rr hc
  go_enter Tryz.func51,Tryz.ntmps51
  go_wp2
  go_loopw [3,8] (fun sv kv wr=>∃ k:Nat,k<=n/\kv=.int .i64 k/\sv=.int .i64 (sm c k)/\Below w.heap.size w wr) (fun _ kv _=>n - (intOf kv).toNat)
  case atStart=>exact ⟨0,Nat.zero_le _,rfl,rfl,Below.refl _ _⟩
  case round =>
    obtain ⟨k,hk,rfl,rfl,BB⟩:=hrel
    by_cases hlt:k<n
    · have hk1:(k:Int)<(n:Int):=by omega
      obtain ⟨b,off,rfl,rw0⟩:=RR.out (show 0<n by omega)
      have r2:=rowI_below rw0 BB
      have c1:=r2.2 k hlt
      have l1:=r2.1
      have bs:=ch_sm2 (n:=k) (fun i hi=>HC.out i (by omega))
      have bc:=HC.out k hlt
      have e1:=hid (show sm c (k+1)=sm c k+c k from rfl)
      clear r2 rw0
      generalize sm c k=p at *
      generalize c k=x at *
      obtain ⟨bs1,bs2⟩:=bs
      obtain ⟨bc1,bc2⟩:=bc
      go_wp2
      go_roundw
      case rel=>exact ⟨k+1,by omega,by go_num,by rw [e1.out],BB⟩
      case measure=>simp [intOf];omega
    · obtain rfl:k=n:=by omega
      go_wp2
      go_ret
      exact ⟨rfl,BB⟩
theorem rhsum_any (a:Option Addr) (n cap:Nat) (c:Nat->Int) (w:World) (rr:LstI w a n c) (hn:n<=1000) (hc:∀ i,i<n->0<=c i/\c i<=100) :
    Calls Tryz.prog 52 #[.slice a n cap] w fun e w'=>e=.returned (.int .i64 (sm c n))/\Below w.heap.size w w':=by
  have RR:=hid rr
  have HC:=hid hc
  have hn':(n:Int)<=1000:=by omega
  clear rr hc
  go_enter Tryz.func52,Tryz.ntmps52
  go_wp2
  go_loopw [3,4] (fun sv kv wr=>∃ k:Nat,k<=n/\kv=.int .i64 k/\sv=.int .i64 (sm c k)/\Below w.heap.size w wr) (fun _ kv _=>n - (intOf kv).toNat)
  case atStart=>exact ⟨0,Nat.zero_le _,rfl,rfl,Below.refl _ _⟩
  case round =>
    obtain ⟨k,hk,rfl,rfl,BB⟩:=hrel
    by_cases hlt:k<n
    · have hk1:(k:Int)<(n:Int):=by omega
      obtain ⟨b,off,rfl,rw0⟩:=RR.out (show 0<n by omega)
      have r2:=rowI_below rw0 BB
      have c1:=r2.2 k hlt
      have l1:=r2.1
      have bs:=ch_sm2 (n:=k) (fun i hi=>HC.out i (by omega))
      have bc:=HC.out k hlt
      have e1:=hid (show sm c (k+1)=sm c k+c k from rfl)
      clear r2 rw0
      generalize sm c k=p at *
      generalize c k=x at *
      obtain ⟨bs1,bs2⟩:=bs
      obtain ⟨bc1,bc2⟩:=bc
      go_wp2
      go_roundw
      case rel=>exact ⟨k+1,by omega,by go_num,by rw [e1.out],BB⟩
      case measure=>simp [intOf];omega
    · obtain rfl:k=n:=by omega
      go_wp2
      go_ret
      exact ⟨rfl,BB⟩
end Go.Proofs.YtbcjiigmbcfkeaaGreat
