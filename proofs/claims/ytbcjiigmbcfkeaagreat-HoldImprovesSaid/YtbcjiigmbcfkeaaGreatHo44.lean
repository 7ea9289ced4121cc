import Derived.Test.YtbcjiigmbcfkeaaGreatHo32
namespace Go.Proofs.YtbcjiigmbcfkeaaGreat
open Go.Lib (hid)
open Go.ChangeShapes Go.WideShapes Go.RowKit
open Sh
section
variable {n:Nat} {f1 f2:Nat->Nat->Int × Int} {c:Nat->Int} {r:Int} (h0:0<n) (hn:n<=96) (tb1:TB n f1) (tb2:TB n f2) (hr:0<=r/\r<=1099511627776) (hc:∀ i,i<n->0<=c i/\c i<=100)
include h0 hn tb1 tb2 hr hc
theorem bdR_rng (s1:1<=sm c n):0<=(bdR f1 f2 c n r).1.1/\(bdR f1 f2 c n r).1.1<=1099511627776/\0<=(bdR f1 f2 c n r).1.2/\(bdR f1 f2 c n r).1.2<=1099511627776:=by
  have s2:=(ch_sm hn hc).2
  unfold bdR
  by_cases z:(enR f2 c n).2=0
  · rw [if_pos z]
    obtain ⟨_,e2⟩:=en_ok z
    have a1:=bd_hi tb1 h0 hn hc
    have a2:=bd_lo tb1 hn hc
    have l1:=en_lo tb2 hc
    have l2:=en_le tb2 hc
    obtain ⟨_,_,p1,p2⟩:=parS (by omega) (by omega) l1 l2 e2
    obtain ⟨_,q1,q2,q3⟩:=quoS (d:=mxl (ptH f1 c n) n) s1 (by omega) a1.1
    obtain ⟨_,u1,u2,u3⟩:=quoS (d:=mnl (ptL f1 c n) n) s1 (by omega) a2.1
    obtain ⟨_,v1,v2,v3⟩:=quoS (d:=(enH f2 c n+sm c n - 1) / sm c n) s1 (by omega) p1
    dsimp only
    rw [Sp.mx_eq,Sp.mn_eq]
    unfold thoN
    omega
  · rw [if_neg z]
    dsimp only
    omega
theorem bdW_rng:0<=(bdW f1 f2 c n r).1.1/\(bdW f1 f2 c n r).1.1<=1099511627776/\0<=(bdW f1 f2 c n r).1.2/\(bdW f1 f2 c n r).1.2<=1099511627776:=by
  unfold bdW
  by_cases z:sm c n=0
  · rw [if_pos z]
    dsimp only
    omega
  · rw [if_neg z]
    have:=(ch_sm hn hc).1
    exact bdR_rng h0 hn tb1 tb2 hr hc (by omega)
end
def wF (f1 f2:Nat->Nat->Int × Int) (n:Nat) (r:Int) (c:Nat->Int):Int:=if chB c n=true then wdW (bdW f1 f2 c n r) else 9223372036854775807
theorem wF_in {n:Nat} {f1 f2:Nat->Nat->Int × Int} {c:Nat->Int} {r:Int} (hc:∀ i,i<n->0<=c i/\c i<=100):wF f1 f2 n r c=wdW (bdW f1 f2 c n r):=if_pos (chB_iff.2 hc)
theorem wF_rng {n:Nat} {f1 f2:Nat->Nat->Int × Int} {r:Int} (h0:0<n) (hn:n<=96) (tb1:TB n f1) (tb2:TB n f2) (hr:0<=r/\r<=1099511627776) (c:Nat->Int):-4611686018427387904<=wF f1 f2 n r c/\wF f1 f2 n r c<=9223372036854775807:=by
  unfold wF
  by_cases z:chB c n=true
  · rw [if_pos z]
    have:=bdW_rng h0 hn tb1 tb2 hr (chB_iff.1 z)
    unfold wdW
    split<;>omega
  · rw [if_neg z]
    omega
theorem one_ch (n:Nat):∀ i,i<n->0<=(fun _=>(1:Int)) i/\(fun _=>(1:Int)) i<=100:=fun _ _=>show (0:Int)<=1/\(1:Int)<=100 by decide
theorem sm_ones (n:Nat):sm (fun _=>(1:Int)) n=n:=by rw [smc];omega
theorem en_ones {n:Nat} {f2:Nat->Nat->Int × Int} (hn:n<=14) (tb2:TB n f2):(enR f2 (fun _=>1) n).2=0:=by
  have h1:=one_ch n
  have l0:=en_nn tb2 h1
  have l2:=en_le tb2 h1
  have l3:enH f2 (fun _=>1) n<=1099511627776:=by
    have a:sm (fun j=>ptH f2 (fun _=>1) n j*1) n<=sm (fun _=>(n:Int)*67108866) n:=sml fun j hj=>by
      have:=pt_hi tb2 h1 hj
      rw [sm_ones] at this
      omega
    rw [smc] at a
    have b:(n:Int)*((n:Int)*67108866)<=14*(14*67108866):=Int.mul_le_mul (by omega) (by omega) (by omega) (by omega)
    have e:enH f2 (fun _=>1) n=sm (fun j=>ptH f2 (fun _=>1) n j*1) n:=rfl
    first|omega|(rw [Int.mul_comm] at a;omega)
  unfold enR
  rw [Sp.told_yes (Sp.vld_iff.2 ⟨by omega,l2,l3⟩)]
theorem wF_ones {n:Nat} {f1 f2:Nat->Nat->Int × Int} {r:Int} (h0:0<n) (hn:n<=14) (tb1:TB n f1) (tb2:TB n f2) (hr:0<=r/\r<=1099511627776) :
    wF f1 f2 n r (fun _=>1)=(bdR f1 f2 (fun _=>1) n r).1.2 - (bdR f1 f2 (fun _=>1) n r).1.1/\(bdR f1 f2 (fun _=>1) n r).2=0/\wF f1 f2 n r (fun _=>1)<=1099511627776:=by
  have s1:1<=sm (fun _=>(1:Int)) n:=by rw [sm_ones];omega
  have g:=bdR_rng h0 (by omega) tb1 tb2 hr (one_ch n) s1
  have z:(bdR f1 f2 (fun _=>1) n r).2=0:=by
    unfold bdR
    rw [if_pos (en_ones hn tb2)]
  have e:wF f1 f2 n r (fun _=>1)=(bdR f1 f2 (fun _=>1) n r).1.2 - (bdR f1 f2 (fun _=>1) n r).1.1:=by
    rw [wF_in (one_ch n)]
    unfold bdW
    rw [if_neg (by omega)]
    unfold wdW
    rw [if_pos z]
  exact ⟨e,z,by omega⟩
theorem wF_le {n:Nat} {f1 f2:Nat->Nat->Int × Int} {c:Nat->Int} {r:Int} (hc:∀ i,i<n->0<=c i/\c i<=100) (h:wF f1 f2 n r c<=1099511627776) :
    sm c n ≠ 0/\(bdR f1 f2 c n r).2=0/\wF f1 f2 n r c=(bdR f1 f2 c n r).1.2 - (bdR f1 f2 c n r).1.1:=by
  rw [wF_in hc] at h ⊢
  unfold wdW at h ⊢
  by_cases z:(bdW f1 f2 c n r).2=0
  · rw [if_pos z]
    unfold bdW at z ⊢
    by_cases y:sm c n=0
    · rw [if_pos y] at z
      exact absurd z (by decide)
    · rw [if_neg y] at z ⊢
      exact ⟨y,z,rfl⟩
  · rw [if_neg z] at h
    exact absurd h (by decide)
theorem ball_rng {np nf:Nat} {P F:Nat->P3} (z:vcode ⟨np,nf,P,F⟩=0):0<=(ballR 0 np P (mid (lo3 P np) (hi3 P np))).1/\(ballR 0 np P (mid (lo3 P np) (hi3 P np))).1<=1099511627776:=by
  obtain ⟨h1,h2,h3,h4,h5⟩:=vcode_ok z
  have hP:∀ k,k<np->BdP 64 (P k):=fun k hk=>inP_iff.1 (pts_in h4 k hk)
  obtain ⟨a,b⟩:=lo3_64 (vcode_rows z).1 hP
  have m:=mid_bd a b
  have l:=len_ok (m:=mxl (dsq P (mid (lo3 P np) (hi3 P np))) np) (mxl_nn _ _) (mxl_le (by decide) fun k hk=>(dsq_bd hP m hk).2)
  unfold ballR
  rw [if_pos rfl,if_pos (inP_iff.2 m)]
  exact ⟨l.2.1,l.2.2⟩
end Go.Proofs.YtbcjiigmbcfkeaaGreat
