import Derived.Test.YtbcjiigmbcfkeaaGreatHoMf
namespace Go.Proofs.YtbcjiigmbcfkeaaGreat
open Go.ChangeShapes Go.WideShapes Go.RowKit
open Sh
attribute [local go_sem 1000000] run_min_mn run_max_mx
set_option maxRecDepth 100000 in
set_option maxHeartbeats 4000000 in
theorem rmd_any (b off np c:Nat) (a':Option Addr) (nf c':Nat) (P:Nat→P3) (w:World) (rp:Row3 w b off np P) (h0:0<np) (hn:np≤64) (hP:∀ k,k<np→BdP 64 (P k)) :
    Calls Tryz.prog 78 #[msv (some ⟨b,off,none⟩) np c a' nf c'] w fun e w'=>e=.returned (ptv (mid (lo3 P np) (hi3 P np)))∧Below w.heap.size w w':=by
  have hb:b<w.heap.size:=rp.1
  have RP:=Lib.hid rp
  have hn':(np:Int)≤64:=by omega
  have p0:(0:Int)<(np:Int):=by omega
  have LB:=Lib.hid (lo3_64 h0 hP)
  have ME:=Lib.hid (mes_alloc (mes_new w (some ⟨b,off,none⟩) np c a' nf c' 25) (ptc (0,0,0) 44))
  have G:=Lib.hid (own_new (w.alloc (msc (some ⟨b,off,none⟩) np c a' nf c' 25)) (0,0,0) 44)
  simp only [World.size_alloc] at G
  have B0:=Lib.hid (show Below w.heap.size w ((w.alloc (msc (some ⟨b,off,none⟩) np c a' nf c' 25)).alloc (ptc (0,0,0) 44)) from balloc (balloc (Below.refl _ w) _) _)
  obtain ⟨q,hq⟩:∃ q,P 0=q:=⟨_,rfl⟩
  have HQ:=Lib.hid hq
  obtain ⟨c1,c2,c3⟩:=(row3_in RP.out B0.out hb).2 0 h0
  have r5:=(row3_in RP.out B0.out hb).1
  simp only [Nat.zero_mul,Nat.add_zero] at c1 c2 c3
  rw [hq] at c1 c2 c3
  obtain ⟨m0,m1,ml⟩:=ME.out
  clear rp hq hP
  go_enter Tryz.func78,Tryz.ntmps78
  go_upto_region 1 with fail
  generalize (w.alloc (msc (some ⟨b,off,none⟩) np c a' nf c' 25)).alloc (ptc (0,0,0) 44)=w4 at *
  have gl:=G.out.2.2.2.2.2.2
  have r6:b<w4.heap.size:=r5
  go_cut [3,4] (fun t3 t4 wx=>∃ bl bh:Nat,t3=.pointer (some ⟨bl,0,none⟩)∧t4=.pointer (some ⟨bh,0,none⟩)∧bl ≠ bh∧w4.heap.size≤bl∧w4.heap.size≤bh∧Own wx bl q∧Own wx bh q∧Below w4.heap.size w4 wx)
  case first =>
    go_region
    all_goals
      go_wp2
      go_meet
      refine ⟨_,_,rfl,rfl,by simp <;> omega,by simp <;> omega,by simp <;> omega,⟨by go_simp,by go_simp,by go_simp,by go_simp,by go_simp,by go_simp,by simp <;> omega⟩,⟨by go_simp,by go_simp,by go_simp,by go_simp,by go_simp,by go_simp,by simp <;> omega⟩,?_⟩
      (repeat' (first|exact Below.refl _ _|refine Below.setCell ?_ (by simp <;> omega) _|refine balloc ?_ _|refine Below.drew ?_|refine bdrewN ?_ _))
  case rest =>
    obtain ⟨bl,bh,rfl,rfl,n1,n2,n3,ol,oh,hB⟩:=hcut
    have B1:=Lib.hid (bstep B0.out hB)
    have M1:=Lib.hid (mes_below ME.out hB)
    have G1:=Lib.hid (own_below G.out hB)
    have e0:∀ x:Int,Sp.mn x x=x:=fun x=>by unfold Sp.mn;split <;> rfl
    have e1:∀ x:Int,Sp.mx x x=x:=fun x=>by unfold Sp.mx;split <;> rfl
    have L1:=Lib.hid (show lo3 P 1=q by
      have h:=HQ.out
      show (Sp.mn (P 0).1 (P 0).1,Sp.mn (P 0).2.1 (P 0).2.1,Sp.mn (P 0).2.2 (P 0).2.2)=q
      rw [h,e0,e0,e0])
    have H1:=Lib.hid (show hi3 P 1=q by
      have h:=HQ.out
      show (Sp.mx (P 0).1 (P 0).1,Sp.mx (P 0).2.1 (P 0).2.1,Sp.mx (P 0).2.2 (P 0).2.2)=q
      rw [h,e1,e1,e1])
    have OL:=Lib.hid ol
    have OH:=Lib.hid oh
    have BB:=Lib.hid hB
    clear e0 e1 hB ol oh m0 m1 ml c1 c2 c3
    go_wp2
    go_loopw [5] (fun kv wr=>∃ k:Nat,1≤k∧k≤np∧kv=.int .i64 k∧Own wr bl (lo3 P k)∧Own wr bh (hi3 P k)∧Below w4.heap.size w4 wr) (fun kv _=>np - (intOf kv).toNat)
    case atStart=>exact ⟨1,Nat.le_refl _,h0,rfl,by rw [L1.out];exact OL.out,by rw [H1.out];exact OH.out,BB.out⟩
    case round =>
      obtain ⟨k,hk1,hk,rfl,hg,hh,hB⟩:=hrel
      have G0:=Lib.hid hg
      have K0:=Lib.hid hh
      have C0:=Lib.hid hB
      have B2:=Lib.hid (bstep B0.out hB)
      obtain ⟨m0,m1,ml⟩:=mes_below ME.out hB
      have GR:=Lib.hid (own_below G.out hB)
      clear hg hh hB L1 H1 OL OH BB B1 M1 G1
      by_cases hlt:k<np
      · have k1':(k:Int)<(np:Int):=by omega
        have r2:=row3_in RP.out B2.out hb
        obtain ⟨c1,c2,c3⟩:=r2.2 k hlt
        have r5:=r2.1
        clear r2
        have E1:=Lib.hid (show lo3 P (k+1)=sh_mn3 (lo3 P k) (P k) from rfl)
        have E2:=Lib.hid (show hi3 P (k+1)=sh_mx3 (hi3 P k) (P k) from rfl)
        generalize lo3 P k=l at *
        generalize hi3 P k=h at *
        obtain ⟨p,hp⟩:∃ p,P k=p:=⟨_,rfl⟩
        rw [hp] at c1 c2 c3 E1 E2
        clear hp
        obtain ⟨g1,g2,g3,g4,g5,g6,g7⟩:=G0.out
        obtain ⟨k1,k2,k3,k4,k5,k6,k7⟩:=K0.out
        go_wp2
        go_roundw
        case rel =>
          refine ⟨k+1,by omega,by omega,by go_num,?_,?_,?_⟩
          · rw [E1.out];exact own_alloc (own_put3 (sh_own_put G0.out (sh_mn3 l p)) (by omega)) _
          · rw [E2.out];exact own_alloc (sh_own_put (own_put3 K0.out (by omega)) (sh_mx3 h p)) _
          · exact balloc (below_put3 (below_put3 C0.out (by omega)) (by omega)) _
        case measure=>simp [intOf];omega
      · obtain rfl:k=np:=by omega
        have S:=LB.out
        obtain ⟨g1,g2,g3,g4,g5,g6,g7⟩:=G0.out
        obtain ⟨k1,k2,k3,k4,k5,k6,k7⟩:=K0.out
        obtain ⟨z1,z2,z3,z4,z5,z6,z7⟩:=GR.out
        obtain ⟨⟨s1,s2,s3,s4,s5,s6⟩,⟨t1,t2,t3,t4,t5,t6⟩⟩:=S
        have hB:=B2.out
        go_wp2
        refine bodyPost_ret (v:=ptv (mid (lo3 P k) (hi3 P k))) (by rw [results_cell rfl];go_simp;exact ⟨rfl,rfl,rfl⟩) rfl ⟨rfl,?_⟩
        (repeat' (first|with_reducible exact hB|with_reducible refine Below.drew ?_|(with_reducible refine balloc ?_ _)|(with_reducible refine Below.setCell ?_ (by simp <;> omega) _)))
end Go.Proofs.YtbcjiigmbcfkeaaGreat
