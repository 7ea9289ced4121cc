import Derived.Test.YtbcjiigmbcfkeaaGreatFgMf
import Derived.Test.YtbcjiigmbcfkeaaGreatLen
import Derived.Test.YtbcjiigmbcfkeaaGreatFgMe
namespace Go.Proofs.YtbcjiigmbcfkeaaGreat
open Go.Lib (hid)
set_option maxRecDepth 100000
set_option maxHeartbeats 4000000
open Go.ChangeShapes Go.WideShapes Go.RowKit
open Sh
def rS (t:P9):Nat:=Rt.isq (dot (nrm t.1 t.2.1 t.2.2) (nrm t.1 t.2.1 t.2.2)).toNat
def rW (s:Int):Int:=1099511627776*s*s*3217
def rL (S:Nat) (s:Int):Nat:=((rW s+128*(S:Int) - 1) / (128*(S:Int))).toNat
def rimN (S:Nat) (s:Int):Nat:=Rt.csq (rL S s)
theorem csq_le {n k:Nat}:Rt.csq n<=k ↔ n<=k*k:=by
  have h:=Rt.isq_spec n
  unfold Rt.csq
  constructor
  · intro c
    by_cases e:Rt.isq n*Rt.isq n=n
    · rw [if_pos e] at c
      have:=Nat.mul_le_mul c c
      omega
    · rw [if_neg e] at c
      have:=Nat.mul_le_mul c c
      omega
  · intro c
    have il:Rt.isq n<=k:=Classical.byContradiction fun x=>by
      have:=Nat.mul_le_mul (show k+1<=Rt.isq n by omega) (show k+1<=Rt.isq n by omega)
      have e:(k+1)*(k+1)=k*k+2*k+1:=by rw [Nat.add_mul,Nat.mul_add];omega
      omega
    by_cases e:Rt.isq n*Rt.isq n=n
    · rw [if_pos e];exact il
    · rw [if_neg e]
      rcases Nat.lt_or_ge (Rt.isq n) k with y|y
      · exact y
      · have:Rt.isq n=k:=by omega
        rw [this] at h e
        omega
theorem isq_scaled (n:Nat):Rt.isq (n*1099511627776) / 1048576=Rt.isq n:=by
  have h:=Rt.isq_spec (n*1099511627776)
  have g:=Rt.isq_spec n
  generalize hr:Rt.isq (n*1099511627776)=r at *
  generalize Rt.isq n=k at *
  have dm:=Nat.div_add_mod r 1048576
  have ml:=Nat.mod_lt r (show 0<1048576 by decide)
  have a1:(k*1048576)*(k*1048576)<=n*1099511627776:=by
    have e:(k*1048576)*(k*1048576)=k*k*1099511627776:=by simp only [Nat.mul_assoc,Nat.mul_left_comm]
    rw [e]
    exact Nat.mul_le_mul_right _ g.1
  have a2:n*1099511627776<((k+1)*1048576)*((k+1)*1048576):=by
    have e:((k+1)*1048576)*((k+1)*1048576)=(k+1)*(k+1)*1099511627776:=by simp only [Nat.mul_assoc,Nat.mul_left_comm]
    rw [e]
    exact Nat.mul_lt_mul_of_pos_right g.2 (by omega)
  have b1:k*1048576<=r:=Classical.byContradiction fun c=>by
    have q:=Nat.succ_le_of_lt (Nat.lt_of_not_le c)
    exact absurd (Nat.lt_of_lt_of_le h.2 (Nat.mul_le_mul q q)) (Nat.not_lt.2 a1)
  have b2:r<(k+1)*1048576:=Classical.byContradiction fun c=>by
    have q:=Nat.le_of_not_lt c
    exact absurd (Nat.lt_of_le_of_lt (Nat.le_trans (Nat.mul_le_mul q q) h.1) a2) (Nat.lt_irrefl _)
  clear a1 a2 h g
  omega
theorem ce_up {n d:Int} (h:0<d):Sp.ce n d=(n+d - 1) / d:=by
  unfold Sp.ce Sp.fl
  rw [if_pos h]
  have u:=(Int.ediv_emod_unique (a:=n) (b:=d) (q:=n / d) (r:=n % d) h).1 ⟨rfl,rfl⟩
  obtain ⟨e,r0,r1⟩:=u
  generalize n / d=k at *
  generalize n % d=r at *
  by_cases z:r=0
  · have a:=((Int.ediv_emod_unique (a:=-n) (b:=d) (q:=-k) (r:=0) h).2 ⟨by rw [← e,z,Int.mul_neg];omega,by omega,h⟩).1
    have b:=((Int.ediv_emod_unique (a:=n+d - 1) (b:=d) (q:=k) (r:=d - 1) h).2 ⟨by rw [← e,z];omega,by omega,by omega⟩).1
    rw [a,b];omega
  · have a:=((Int.ediv_emod_unique (a:=-n) (b:=d) (q:=-k - 1) (r:=d - r) h).2 ⟨by rw [← e,Int.mul_sub,Int.mul_neg,Int.mul_one];omega,by omega,by omega⟩).1
    have b:=((Int.ediv_emod_unique (a:=n+d - 1) (b:=d) (q:=k+1) (r:=r - 1) h).2 ⟨by rw [← e,Int.mul_add,Int.mul_one];omega,by omega,by omega⟩).1
    rw [a,b];omega
theorem rW_bd {s:Int} (s1:1<=s) (s2:s<=8):3537128906555392<=rW s/\rW s<=226376250019545088/\1<=1099511627776*s/\1099511627776*s<=8796093022208/\1<=1099511627776*s*s/\1099511627776*s*s<=70368744177664:=by
  have h:s=1∨s=2∨s=3∨s=4∨s=5∨s=6∨s=7∨s=8:=by omega
  rcases h with rfl|rfl|rfl|rfl|rfl|rfl|rfl|rfl<;>decide
theorem rL_bd {S:Nat} {s:Int} (S1:1<=S) (S2:S<=60000) (s1:1<=s) (s2:s<=8):((rL S s:Nat):Int)=(rW s+128*(S:Int) - 1) / (128*(S:Int))/\1<=rL S s/\rL S s<=4503599627370496:=by
  have w:=rW_bd s1 s2
  have d0:(0:Int)<128*(S:Int):=by omega
  have u:=(Int.ediv_emod_unique (a:=rW s+128*(S:Int) - 1) (b:=128*(S:Int)) (q:=(rW s+128*(S:Int) - 1) / (128*(S:Int))) (r:=(rW s+128*(S:Int) - 1) % (128*(S:Int))) d0).1 ⟨rfl,rfl⟩
  unfold rL
  generalize (rW s+128*(S:Int) - 1) / (128*(S:Int))=k at *
  generalize (rW s+128*(S:Int) - 1) % (128*(S:Int))=r at *
  have k1:1<=k:=Classical.byContradiction fun c=>by
    have:=Int.mul_le_mul_of_nonneg_left (show k<=0 by omega) (show 0<=128*(S:Int) by omega)
    omega
  have k2:k<=4503599627370496:=Classical.byContradiction fun c=>by
    have:=Int.mul_le_mul_of_nonneg_left (show 4503599627370497<=k by omega) (show 0<=128*(S:Int) by omega)
    have e:128*(S:Int)*4503599627370497=576460752303423616*(S:Int):=by omega
    omega
  omega
theorem rimN_le {S:Nat} {s:Int} (S1:1<=S) (S2:S<=60000) (s1:1<=s) (s2:s<=8):rimN S s<=67108864:=csq_le.2 (by have:=(rL_bd S1 S2 s1 s2).2.2;omega)
theorem rS_bd {t:P9} (h:pcode t.1 t.2.1 t.2.2=0):1<=rS t/\rS t<=60000/\1<=dot (nrm t.1 t.2.1 t.2.2) (nrm t.1 t.2.1 t.2.2)/\dot (nrm t.1 t.2.1 t.2.2) (nrm t.1 t.2.1 t.2.2)<=3221225472:=by
  have hB:=pcode_64 h
  have nb:=Sh.nrm_bd hB.1 hB.2.1 hB.2.2
  have nz:nrm t.1 t.2.1 t.2.2 ≠ (0,0,0):=fun e=>by
    unfold pcode at h
    split at h
    · first
     |(rw [if_pos e] at h;exact absurd h (by decide))
     |exact absurd h (by decide)
    · exact absurd h (by decide)
  unfold rS
  generalize nrm t.1 t.2.1 t.2.2=v at *
  obtain ⟨v1,v2,v3⟩:=v
  obtain ⟨a1,a2,a3,a4,a5,a6⟩:=nb
  have x:=mul_bd a1 a2 a1 a2
  have y:=mul_bd a3 a4 a3 a4
  have z:=mul_bd a5 a6 a5 a6
  have x0:=sq_pos' v1
  have y0:=sq_pos' v2
  have z0:=sq_pos' v3
  have d:dot (v1,v2,v3) (v1,v2,v3)=v1*v1+v2*v2+v3*v3:=rfl
  rw [d]
  dsimp only at x y z
  have pos:1<=v1*v1+v2*v2+v3*v3:=Classical.byContradiction fun c=>by
    have e1:v1*v1=0:=by omega
    have e2:v2*v2=0:=by omega
    have e3:v3*v3=0:=by omega
    apply nz
    rw [(or_self_iff.1 (Int.mul_eq_zero.1 e1):v1=0),(or_self_iff.1 (Int.mul_eq_zero.1 e2):v2=0),(or_self_iff.1 (Int.mul_eq_zero.1 e3):v3=0)]
  have hs:=Rt.isq_spec (v1*v1+v2*v2+v3*v3).toNat
  refine ⟨Classical.byContradiction fun c=>?_,Classical.byContradiction fun c=>?_,pos,by omega⟩
  · have e:Rt.isq (v1*v1+v2*v2+v3*v3).toNat=0:=by omega
    rw [e] at hs
    omega
  · have:=Nat.mul_le_mul (show 60001<=Rt.isq (v1*v1+v2*v2+v3*v3).toNat by omega) (show 60001<=Rt.isq (v1*v1+v2*v2+v3*v3).toNat by omega)
    omega
theorem rim1_any (b k:Nat) (L:Nat) (w:World) (hk:k<=67108864) (hc:w.cell? ⟨b,0,none⟩=some (.int .i64 L)) (_hl:b<w.heap.size):Calls Tryz.prog 189 #[.int .i64 k,.pointer (some ⟨b,0,none⟩)] w fun e w'=>e=.returned (.bool (decide ((L:Int)<=(k:Int)*(k:Int))))/\Below w.heap.size w w':=by
  have q:=mul_bd (x:=(k:Int)) (y:=(k:Int)) (A:=67108864) (B:=67108864) (by omega) (by omega) (by omega) (by omega)
  obtain ⟨q1,q2⟩:=q
  go_enter Tryz.func189,Tryz.ntmps189
  go_wp2
  go_ret
  exact ⟨rfl,Below.refl _ _⟩
theorem srch_any (b L:Nat) (w:World) (hc:w.cell? ⟨b,0,none⟩=some (.int .i64 L)) (hl:b<w.heap.size) (hL:Rt.csq L<=67108864):Calls Tryz.prog 188 #[.int .i64 67108864,.func (.func 189) #[] #[.pointer (some ⟨b,0,none⟩)]] w fun e w'=>e=.returned (.int .i64 ((Rt.csq L:Nat):Int))/\Below w.heap.size w w':=by
  have Y:=hid (fun k=>(csq_le (n:=L) (k:=k)))
  have HC:=hid hc
  obtain ⟨r,hr⟩:∃ r,Rt.csq L=r:=⟨_,rfl⟩
  rw [hr] at hL Y ⊢
  clear hr hc
  go_enter Tryz.func188,Tryz.ntmps188
  go_wp2
  go_loopw [5,6] (fun lv gv wr=>∃ l g:Nat,l<=r/\r<=g/\g<=67108864/\lv=.int .i64 l/\gv=.int .i64 g/\Below w.heap.size w wr) (fun lv gv _=>(intOf gv - intOf lv).toNat)
  case atStart=>exact ⟨0,67108864,by omega,by omega,by omega,rfl,rfl,Below.refl _ _⟩
  case round =>
    obtain ⟨l,g,h1,h2,h3,rfl,rfl,BB⟩:=hrel
    have B0:=hid BB
    clear BB
    by_cases hlt:l<g
    · have hlt':(l:Int)<(g:Int):=by omega
      have gb:(g:Int)<=67108864:=by omega
      obtain ⟨k,hk⟩:∃ k,(l+g) / 2=k:=⟨_,rfl⟩
      have e1:((l:Int)+(g:Int)) / 2=(k:Int):=by omega
      have hk2:k<=67108864:=by omega
      have K:=hid (show l<=k/\k<g by omega)
      have C:=rim1_any b k L wr hk2 ((B0.out.cell (p:=⟨b,0,none⟩) hl).trans HC.out) (Nat.lt_of_lt_of_le hl B0.out.size)
      clear hk
      by_cases c:L<=k*k
      · have hy:=(Y.out k).2 c
        rw [decide_eq_true (show (L:Int)<=(k:Int)*(k:Int) by rw [← Int.natCast_mul];omega)] at C
        have C':=hid C
        clear c C
        go_wp2_with fail
        refine C'.out.mono ?_
        rintro e w1 ⟨rfl,hb1⟩
        go_wp2_with fail
        go_roundw
        case rel=>exact ⟨l,k,h1,hy,hk2,rfl,rfl,bstep B0.out hb1⟩
        case measure=>have:=K.out;simp [intOf];omega
      · have hy:k<r:=Nat.lt_of_not_le fun x=>c ((Y.out k).1 x)
        rw [decide_eq_false (show ¬ (L:Int)<=(k:Int)*(k:Int) by rw [← Int.natCast_mul];omega)] at C
        have C':=hid C
        clear c C
        go_wp2_with fail
        refine C'.out.mono ?_
        rintro e w1 ⟨rfl,hb1⟩
        go_wp2_with fail
        go_roundw
        case rel=>exact ⟨k+1,g,by omega,h2,h3,by go_num,rfl,bstep B0.out hb1⟩
        case measure=>have:=K.out;simp [intOf];omega
    · obtain rfl:l=g:=by omega
      obtain rfl:r=l:=by omega
      go_wp2
      go_ret
      exact ⟨rfl,B0.out⟩
theorem rroot_any (n:Nat) (w:World) (h:n<=1152921504606846976):Calls Tryz.prog 195 #[.int .i64 n] w fun e w'=>e=.returned (.int .i64 ((Rt.isq n:Nat):Int))/\w=w':=by
  have R:=hid (fun W=>floor_any n W h)
  go_enter Tryz.func195,Tryz.ntmps195
  go_wp2_with fail
  refine (R.out _).mono ?_
  rintro e w1 ⟨rfl,rfl⟩
  go_wp2
  go_ret
  exact ⟨rfl,rfl⟩
theorem pw_nn {a:P3} (h:BdP 32768 a):BdP 1152921504606846976 (pw a a):=by
  obtain ⟨a1,a2,a3,a4,a5,a6⟩:=h
  have x1:=mul_bd a1 a2 a1 a2
  have x2:=mul_bd a3 a4 a3 a4
  have x3:=mul_bd a5 a6 a5 a6
  simp only [BdP,pw]
  omega
theorem wrap64_in9 {x:Int} (h:-9223372036854775808<=x) (k:x<=9223372036854775807):wrap64 x=x:=by
  rw [← IntWalk.i64_left]
  exact IntWalk.i64_in _ ⟨h,by omega⟩
theorem frim_walk (t:P9) (D sc:Int) (n:P3) (d lo hi:Int) (S L r:Nat) (w:World) (SH:Hid (wrap64 (2 ^ D.toNat)=sc)) (d0:0<=D) (d3:D<=3) (N1:Hid (∀ W,Calls Tryz.prog 186 #[pnv t.1 t.2.1 t.2.2] W fun e w'=>e=.returned (.tuple #[ptv n,.int .i64 0])/\Below W.heap.size W w')) (S1:Hid (∀ W,Calls Tryz.prog 187 #[ptv n,ptv n] W fun e w'=>e=.returned (.int .i64 d)/\Below W.heap.size W w')) (L1:Hid (∀ W,Calls Tryz.prog 71 #[.int .i64 d] W fun e w'=>e=.returned (spr ((lo,hi),0))/\Below W.heap.size W w'))
    (l0:0<=lo) (l1:lo<=1099511627776) (EQ:Hid (lo / 1048576=(S:Int))) (S1':1<=S) (S2':S<=60000) (s1:1<=sc) (s2:sc<=8) (EL:Hid ((rW sc+128*(S:Int) - 1) / (128*(S:Int))=(L:Int))) (LB:(L:Int)<=4503599627370496)
    (SR:Hid (∀ W b,W.cell? ⟨b,0,none⟩=some (.int .i64 L)->b<W.heap.size->Calls Tryz.prog 188 #[.int .i64 67108864,.func (.func 189) #[] #[.pointer (some ⟨b,0,none⟩)]] W fun e w'=>e=.returned (.int .i64 r)/\Below W.heap.size W w')) :
    Calls Tryz.prog 150 #[pnv t.1 t.2.1 t.2.2,.int .i64 D] w fun e w'=>e=.returned (.tuple #[.int .i64 r,.int .i64 0])/\Below w.heap.size w w':=by
  have P0:=hid (pan_new w t.1 t.2.1 t.2.2 77)
  have wb:=rW_bd s1 s2
  have el:=EL.out
  unfold rW at wb el
  obtain ⟨b1,b2,b3,b4,b5,b6⟩:=wb
  have S3:(1:Int)<=(S:Int):=by omega
  have S4:(S:Int)<=60000:=by omega
  have L0:(0:Int)<=(L:Int):=by omega
  have tp:0<=1099511627776*sc*sc*3217+128*(S:Int) - 1:=by omega
  have td:=tdiv_pos9 (x:=1099511627776*sc*sc*3217+128*(S:Int) - 1) (d:=128*(S:Int)) tp
  rw [el] at td
  have tq:=tdiv_pos9 (x:=lo) (d:=1048576) l0
  rw [EQ.out] at tq
  have nz:¬ (128*(S:Int)=0):=by omega
  have eq:=EQ.out
  generalize hW:1099511627776*sc*sc*3217=W3 at *
  generalize hV:1099511627776*sc*sc=W2 at *
  generalize hU:1099511627776*sc=W1 at *
  have w1:IntKind.i64.wrap (W3+128*(S:Int))=W3+128*(S:Int):=IntWalk.i64_in _ (by omega)
  have w2:IntKind.i64.wrap (W3+128*(S:Int) - 1)=W3+128*(S:Int) - 1:=IntWalk.i64_in _ (by omega)
  have w3:IntKind.i64.wrap (L:Int)=(L:Int):=IntWalk.i64_in _ (by omega)
  have k1:=hid (wrap64_in9 (x:=W1) (by omega) (by omega))
  have k2:=hid (wrap64_in9 (x:=W2) (by omega) (by omega))
  have k3:=hid (wrap64_in9 (x:=W3) (by omega) (by omega))
  have k4:=hid (wrap64_in9 (x:=W3+128*(S:Int)) (by omega) (by omega))
  have k5:=hid (wrap64_in9 (x:=W3+128*(S:Int) - 1) (by omega) (by omega))
  have k6:=hid (wrap64_in9 (x:=(L:Int)) (by omega) (by omega))
  have hW':=hid hW
  have hV':=hid hV
  have hU':=hid hU
  have td':=hid td
  clear w1 w2 w3 hW hV hU td b1 b2 b3 b4 b5 b6 L0 LB tp el tq s1 s2
  have sh:=SH.out
  obtain ⟨c0,c1,c2,c3,c4,c5,c6,c7,c8,c9⟩:=P0.out
  go_enter Tryz.func150,Tryz.ntmps150
  go_wp2_with fail
  with_reducible refine (N1.out _).mono ?_
  rintro e u1 ⟨rfl,hb1⟩
  have N2:=hid (own_new u1 n 44)
  have B1:=hid (show Below w.heap.size w (u1.alloc (ptc n 44)) by (repeat' (first|exact Below.refl _ _|refine bstep ?_ hb1|refine Below.setCell ?_ (by simp<;>omega) _|refine balloc ?_ _|refine Below.drew ?_|refine bdrewN ?_ _)))
  clear c0 c1 c2 c3 c4 c5 c6 c7 c8 c9 P0 hb1
  obtain ⟨o0,o1,o2,o3,o4,o5,o6⟩:=N2.out
  go_wp2_with fail
  with_reducible refine (S1.out _).mono ?_
  rintro e u2 ⟨rfl,hb2⟩
  have B2:=hid (bstep B1.out hb2)
  clear o0 o1 o2 o3 o4 o5 o6 hb2 B1
  go_wp2_with fail
  with_reducible refine (L1.out _).mono ?_
  rintro e u3 ⟨rfl,hb3⟩
  have B3:=hid (balloc (bstep B2.out hb3) (.cells #[.int .i64 lo,.int .i64 hi] 39))
  obtain ⟨v0,v1,v2,v3,v4⟩:=owp_new u3 (lo,hi) 39
  clear hb3 B2
  go_wp2_with fail
  have key:wrap64 ((wrap64 (wrap64 (wrap64 (wrap64 (wrap64 (1099511627776*sc)*sc)*3217)+128*(S:Int)) - 1)).tdiv (128*(S:Int)))=(L:Int):=by
    rw [hU'.out,k1.out,hV'.out,k2.out,hW'.out,k3.out,k4.out,k5.out,td'.out,k6.out]
  rw [key]
  have BX:=balloc B3.out (.cells #[.int .i64 (L:Int)] 3)
  clear key v0 v1 v2 v3 v4 B3
  refine (SR.out _ _ (by go_simp) (by simp)).mono ?_
  rintro e u4 ⟨rfl,hb4⟩
  go_wp2
  go_ret2
  exact ⟨rfl,bstep BX hb4⟩
theorem frim_any (t:P9) (D:Int) (w:World) (h:pcode t.1 t.2.1 t.2.2=0) (d0:0<=D) (d3:D<=3):Calls Tryz.prog 150 #[pnv t.1 t.2.1 t.2.2,.int .i64 D] w fun e w'=>e=.returned (.tuple #[.int .i64 ((rimN (rS t) (scl D):Nat):Int),.int .i64 0])/\Below w.heap.size w w':=by
  obtain ⟨sw,s1,s2⟩:=scl_vals d0 d3
  obtain ⟨S1,S2,e1,e2⟩:=rS_bd h
  have hB:=pcode_64 h
  have nb:=nrm_bd hB.1 hB.2.1 hB.2.2
  obtain ⟨l1,l2,l3⟩:=rL_bd S1 S2 s1 s2
  have NN:=fun W=>norm_any t.1 t.2.1 t.2.2 W
  rw [h] at NN
  have SC:=fun W=>fscalar_any (nrm t.1 t.2.1 t.2.2) (nrm t.1 t.2.1 t.2.2) W (pw_nn (Sh.nrm_bd hB.1 hB.2.1 hB.2.2))
  have LL:=fun W=>len_any (dot (nrm t.1 t.2.1 t.2.2) (nrm t.1 t.2.1 t.2.2)) W
  have el:lenR (dot (nrm t.1 t.2.1 t.2.2) (nrm t.1 t.2.1 t.2.2))=((((Rt.isq ((dot (nrm t.1 t.2.1 t.2.2) (nrm t.1 t.2.1 t.2.2)).toNat*1099511627776):Nat):Int),((Rt.csq ((dot (nrm t.1 t.2.1 t.2.2) (nrm t.1 t.2.1 t.2.2)).toNat*1099511627776):Nat):Int)),0)/\Rt.isq ((dot (nrm t.1 t.2.1 t.2.2) (nrm t.1 t.2.1 t.2.2)).toNat*1099511627776)<=1099511627776:=by
    generalize dot (nrm t.1 t.2.1 t.2.2) (nrm t.1 t.2.1 t.2.2)=d at *
    unfold lenR
    rw [if_pos ⟨by omega,by omega⟩]
    have a:=isq_scaled d.toNat
    have sb:Rt.isq d.toNat<=60000:=Classical.byContradiction fun c=>by
      have q:=Nat.mul_le_mul (show 60001<=Rt.isq d.toNat by omega) (show 60001<=Rt.isq d.toNat by omega)
      have:=(Rt.isq_spec d.toNat).1
      omega
    have i1:Rt.isq (d.toNat*1099511627776)<=62915639295:=by omega
    have c1:Rt.csq (d.toNat*1099511627776)<=Rt.isq (d.toNat*1099511627776)+1:=by unfold Rt.csq;split<;>omega
    have c2:Rt.isq (d.toNat*1099511627776)<=Rt.csq (d.toNat*1099511627776):=by unfold Rt.csq;split<;>omega
    exact ⟨Sp.told_yes (Sp.vld_iff.2 ⟨by omega,by omega,by omega⟩),by omega⟩
  rw [el.1] at LL
  exact frim_walk t D (scl D) (nrm t.1 t.2.1 t.2.2) _ _ _ (rS t) (rL (rS t) (scl D)) (rimN (rS t) (scl D)) w (hid sw) d0 d3 (hid NN) (hid SC) (hid LL) (by omega) (by omega) (hid (by
    have a:=isq_scaled (dot (nrm t.1 t.2.1 t.2.2) (nrm t.1 t.2.1 t.2.2)).toNat
    have b:rS t=Rt.isq (dot (nrm t.1 t.2.1 t.2.2) (nrm t.1 t.2.1 t.2.2)).toNat:=rfl
    rw [← b] at a
    omega)) S1 S2 s1 s2 (hid l1.symm) (by omega) (hid fun W b hc hl=>srch_any b _ W hc hl (rimN_le S1 S2 s1 s2))
theorem rrim_walk (t:P9) (D sc:Int) (n:P3) (d:Int) (S L:Nat) (w:World) (SH:Hid (wrap64 (2 ^ D.toNat)=sc)) (d0:0<=D) (d3:D<=3) (N1:Hid (∀ W,Calls Tryz.prog 92 #[pnv t.1 t.2.1 t.2.2] W fun e w'=>e=.returned (ptv n)/\Below W.heap.size W w')) (S1:Hid (∀ W,Calls Tryz.prog 140 #[ptv n,ptv n] W fun e w'=>e=.returned (.int .i64 d)/\Below W.heap.size W w')) (L1:Hid (∀ W,Calls Tryz.prog 195 #[.int .i64 d] W fun e w'=>e=.returned (.int .i64 S)/\W=w'))
    (S1':1<=S) (S2':S<=60000) (s1:1<=sc) (s2:sc<=8) (U1:Hid (∀ W,Calls Tryz.prog 169 #[.int .i64 (rW sc),.int .i64 (128*(S:Int))] W fun e w'=>e=.returned (.int .i64 L)/\W=w')) (LB:Rt.csq L<=67108864) :
    Calls Tryz.prog 164 #[pnv t.1 t.2.1 t.2.2,.int .i64 D] w fun e w'=>e=.returned (.int .i64 ((Rt.csq L:Nat):Int))/\Below w.heap.size w w':=by
  have P0:=hid (pan_new w t.1 t.2.1 t.2.2 77)
  have Y:=hid (fun k=>(csq_le (n:=L) (k:=k)))
  obtain ⟨r,hr⟩:∃ r,Rt.csq L=r:=⟨_,rfl⟩
  rw [hr] at LB Y ⊢
  have wb:=rW_bd s1 s2
  have ew:rW sc=1099511627776*sc*sc*3217:=rfl
  rw [ew] at wb U1
  obtain ⟨b1,b2,b3,b4,b5,b6⟩:=wb
  have S3:(1:Int)<=(S:Int):=by omega
  have S4:(S:Int)<=60000:=by omega
  clear hr ew
  generalize hW:1099511627776*sc*sc*3217=W3 at *
  generalize hV:1099511627776*sc*sc=W2 at *
  generalize hU:1099511627776*sc=W1 at *
  have k1:=hid (wrap64_in9 (x:=W1) (by omega) (by omega))
  have k2:=hid (wrap64_in9 (x:=W2) (by omega) (by omega))
  have k3:=hid (wrap64_in9 (x:=W3) (by omega) (by omega))
  have hW':=hid hW
  have hV':=hid hV
  have hU':=hid hU
  clear hW hV hU b1 b2 b3 b4 b5 b6 s1 s2
  have sh:=SH.out
  obtain ⟨c0,c1,c2,c3,c4,c5,c6,c7,c8,c9⟩:=P0.out
  go_enter Tryz.func164,Tryz.ntmps164
  go_wp2_with fail
  with_reducible refine (N1.out _).mono ?_
  rintro e u1 ⟨rfl,hb1⟩
  have N2:=hid (own_new u1 n 44)
  have B1:=hid (show Below w.heap.size w (u1.alloc (ptc n 44)) by (repeat' (first|exact Below.refl _ _|refine bstep ?_ hb1|refine Below.setCell ?_ (by simp<;>omega) _|refine balloc ?_ _|refine Below.drew ?_|refine bdrewN ?_ _)))
  clear c0 c1 c2 c3 c4 c5 c6 c7 c8 c9 P0 hb1
  obtain ⟨o0,o1,o2,o3,o4,o5,o6⟩:=N2.out
  go_wp2_with fail
  with_reducible refine (S1.out _).mono ?_
  rintro e u2 ⟨rfl,hb2⟩
  have B2:=hid (bstep B1.out hb2)
  clear o0 o1 o2 o3 o4 o5 o6 hb2 B1
  go_wp2_with fail
  with_reducible refine (L1.out _).mono ?_
  rintro e u3 ⟨rfl,rfl⟩
  go_wp2_with fail
  have key:wrap64 (wrap64 (wrap64 (1099511627776*sc)*sc)*3217)=W3:=by rw [hU'.out,k1.out,hV'.out,k2.out,hW'.out,k3.out]
  (try rw [key])
  clear k1 k2 k3 hW' hV' hU' sh key
  go_loopw [9,10] (fun lv gv wr=>∃ l g:Nat,l<=r/\r<=g/\g<=268435456/\lv=.int .i64 l/\gv=.int .i64 g/\Below u2.heap.size u2 wr) (fun lv gv _=>(intOf gv - intOf lv).toNat)
  case atStart=>exact ⟨0,268435456,by omega,by omega,by omega,rfl,rfl,Below.refl _ _⟩
  case round =>
    obtain ⟨l,g,h1,h2,h3,rfl,rfl,BB⟩:=hrel
    have B0:=hid BB
    clear BB
    by_cases hlt:l<g
    · have hlt':(l:Int)<(g:Int):=by omega
      have gb:(g:Int)<=268435456:=by omega
      obtain ⟨k,hk⟩:∃ k,(l+g) / 2=k:=⟨_,rfl⟩
      have e1:((l:Int)+(g:Int)) / 2=(k:Int):=by omega
      have hk2:(k:Int)<=268435456:=by omega
      have kk:=mul_bd (x:=(k:Int)) (y:=(k:Int)) (A:=268435456) (B:=268435456) (by omega) (by omega) (by omega) (by omega)
      obtain ⟨kk1,kk2⟩:=kk
      have K:=hid (show l<=k/\k<g by omega)
      clear hk
      go_wp2_with fail
      refine (U1.out _).mono ?_
      rintro e u4 ⟨rfl,rfl⟩
      by_cases c:L<=k*k
      · have hy:=(Y.out k).2 c
        have cI:(L:Int)<=(k:Int)*(k:Int):=by rw [← Int.natCast_mul];omega
        clear c
        go_wp2_with fail
        go_roundw
        case rel=>exact ⟨l,k,h1,hy,by omega,rfl,rfl,B0.out⟩
        case measure=>have:=K.out;simp [intOf];omega
      · have hy:k<r:=Nat.lt_of_not_le fun x=>c ((Y.out k).1 x)
        have cI:decide ((L:Int)<=(k:Int)*(k:Int))=false:=decide_eq_false (by rw [← Int.natCast_mul];omega)
        clear c
        go_wp2_with fail
        go_roundw
        case rel=>exact ⟨k+1,g,by omega,h2,h3,by go_num,rfl,B0.out⟩
        case measure=>have:=K.out;simp [intOf];omega
    · obtain rfl:l=g:=by omega
      obtain rfl:r=l:=by omega
      go_wp2
      go_ret
      exact ⟨rfl,bjoin B2.out B0.out⟩
theorem rrim_any (t:P9) (D:Int) (w:World) (h:pcode t.1 t.2.1 t.2.2=0) (d0:0<=D) (d3:D<=3):Calls Tryz.prog 164 #[pnv t.1 t.2.1 t.2.2,.int .i64 D] w fun e w'=>e=.returned (.int .i64 ((rimN (rS t) (scl D):Nat):Int))/\Below w.heap.size w w':=by
  obtain ⟨sw,s1,s2⟩:=scl_vals d0 d3
  obtain ⟨S1,S2,e1,e2⟩:=rS_bd h
  have hB:=pcode_64 h
  obtain ⟨l1,l2,l3⟩:=rL_bd S1 S2 s1 s2
  have wb:=rW_bd s1 s2
  have AA:=fun W=>across_any t.1 t.2.1 t.2.2 W (hB.1.mono (by decide)) (hB.2.1.mono (by decide)) (hB.2.2.mono (by decide))
  have SC:=fun W=>rdot_any (nrm t.1 t.2.1 t.2.2) (nrm t.1 t.2.1 t.2.2) W (pw_nn (Sh.nrm_bd hB.1 hB.2.1 hB.2.2))
  have RR:=fun W=>rroot_any (dot (nrm t.1 t.2.1 t.2.2) (nrm t.1 t.2.1 t.2.2)).toNat W (by omega)
  rw [show (((dot (nrm t.1 t.2.1 t.2.2) (nrm t.1 t.2.1 t.2.2)).toNat:Nat):Int)=dot (nrm t.1 t.2.1 t.2.2) (nrm t.1 t.2.1 t.2.2) by omega] at RR
  have UU:=fun W=>rup_any (rW (scl D)) (128*(rS t:Int)) W ⟨by omega,by omega,by omega,by omega⟩ (by omega)
  rw [ce_up (by omega),← l1] at UU
  exact rrim_walk t D (scl D) (nrm t.1 t.2.1 t.2.2) _ (rS t) (rL (rS t) (scl D)) w (hid sw) d0 d3 (hid AA) (hid SC) (hid RR) S1 S2 s1 s2 (hid UU) (rimN_le S1 S2 s1 s2)
attribute [local go_sem 1000000] run_min_mn run_max_mx
attribute [local go_sem high] run_max3' run_min3'
def SrB (w:World) (q:Nat) (v:Value) (sc rm:Int):Prop:=(w.cell? ⟨q,0,none⟩=some v/\w.cell? ⟨q,1,none⟩=some (.int .i64 sc)/\w.cell? ⟨q,2,none⟩=some (.int .i64 rm))/\q<w.heap.size
theorem srB_new (w:World) (v:Value) (sc rm:Int) (t:TypeId):SrB (w.alloc (.cells #[v,.int .i64 sc,.int .i64 rm] t)) w.heap.size v sc rm:=⟨⟨by go_simp,by go_simp,by go_simp⟩,by simp⟩
theorem srB_in {w w1:World} {N q:Nat} {v:Value} {sc rm:Int} (h:SrB w q v sc rm) (hb:Below N w w1) (hq:q<N):SrB w1 q v sc rm :=
  ⟨⟨(hb.cell (p:=⟨q,0,none⟩) hq).trans h.1.1,(hb.cell (p:=⟨q,1,none⟩) hq).trans h.1.2.1,(hb.cell (p:=⟨q,2,none⟩) hq).trans h.1.2.2⟩,Nat.lt_of_lt_of_le h.2 hb.size⟩
theorem srB_below {w w1:World} {q:Nat} {v:Value} {sc rm:Int} (h:SrB w q v sc rm) (hb:Below w.heap.size w w1):SrB w1 q v sc rm:=srB_in h hb h.2
theorem srB_alloc {w:World} {q:Nat} {v:Value} {sc rm:Int} (h:SrB w q v sc rm) (o:Obj):SrB (w.alloc o) q v sc rm:=srB_below h ((Below.refl _ _).alloc (Nat.le_refl _) _)
theorem sfc_hit (b n c d m e:Nat) (al ah bl bh:P3) (sc rm:Int) (bv bs:Nat) (pv:Value) (w:World) (hv:VwP w bv d m e bl bh sc (.func (.func 152) #[] #[])) (hs:SrB w bs pv sc rm) (TC:Hid (∀ W,Calls Tryz.prog 156 #[vwv d m e bl bh sc (.func (.func 152) #[] #[]),grv b n c al ah] W fun e w'=>e=.returned (.bool true)/\Below W.heap.size W w')):Calls Tryz.prog 155 #[grv b n c al ah,.pointer (some ⟨bv,0,none⟩),.pointer (some ⟨bs,0,none⟩)] w fun e w'=>e=.returned (.int .i64 rm)/\Below w.heap.size w w':=by
  have Y0:=hid (grp_new w b n c al ah 138)
  have V0:=hid (vwp_alloc hv (grb b n c al ah 138))
  have R0:=hid (srB_alloc hs (grb b n c al ah 138))
  have B0:=hid (show Below w.heap.size w (w.alloc (grb b n c al ah 138)) from (Below.refl _ w).alloc (Nat.le_refl _) _)
  clear hv hs
  obtain ⟨⟨k0,k1,k2,k3,k4,k5,k6,k7,k8⟩,k9⟩:=V0.out
  obtain ⟨⟨g0,g1,g2,g3,g4,g5,g6⟩,g9⟩:=Y0.out
  go_enter Tryz.func155,Tryz.ntmps155
  go_wp2_with fail
  with_reducible refine (TC.out _).mono ?_
  rintro e w1 ⟨rfl,hb1⟩
  have Y1:=hid (grp_below Y0.out hb1)
  have V1:=hid (vwp_in V0.out hb1 V0.out.2)
  have R1:=hid (srB_below R0.out hb1)
  have B1:=hid (bstep B0.out hb1)
  clear k0 k1 k2 k3 k4 k5 k6 k7 k8 k9 g0 g1 g2 g3 g4 g5 g6 g9 Y0 V0 R0 B0 hb1
  obtain ⟨⟨r0,r1,r2⟩,r9⟩:=R1.out
  go_wp2
  go_ret
  exact ⟨rfl,B1.out⟩
theorem sf_cells {W:World} {bv bs q b n c d m e:Nat} {al ah bl bh:P3} {sc rm:Int} {pv:Value} (h:VwP W bv d m e bl bh sc (.func (.func 152) #[] #[])/\Grp W q b n c al ah/\SrB W bs pv sc rm):(W.cell? ⟨bv,0,none⟩=some (.slice (some ⟨d,0,none⟩) m e)/\W.cell? ⟨bv,1,none⟩=some (.int .i64 bl.1)/\W.cell? ⟨bv,2,none⟩=some (.int .i64 bl.2.1)/\W.cell? ⟨bv,3,none⟩=some (.int .i64 bl.2.2)/\W.cell? ⟨bv,4,none⟩=some (.int .i64 bh.1)/\W.cell? ⟨bv,5,none⟩=some (.int .i64 bh.2.1)/\W.cell? ⟨bv,6,none⟩=some (.int .i64 bh.2.2)/\W.cell? ⟨bv,7,none⟩=some (.int .i64 sc)/\W.cell? ⟨bv,8,none⟩=some (.func (.func 152) #[] #[]))/\(W.cell? ⟨q,0,none⟩=some (.slice (some ⟨b,0,none⟩) n c)/\W.cell? ⟨q,1,none⟩=some (.int .i64 al.1)/\W.cell? ⟨q,2,none⟩=some (.int .i64 al.2.1)/\W.cell? ⟨q,3,none⟩=some (.int .i64 al.2.2)/\W.cell? ⟨q,4,none⟩=some (.int .i64 ah.1)/\W.cell? ⟨q,5,none⟩=some (.int .i64 ah.2.1)/\W.cell? ⟨q,6,none⟩=some (.int .i64 ah.2.2))/\W.cell? ⟨bs,2,none⟩=some (.int .i64 rm):=⟨h.1.1,h.2.1.1,h.2.2.1.2.2⟩
theorem sf_below {W W':World} {bv bs q b n c d m e:Nat} {al ah bl bh:P3} {sc rm:Int} {pv:Value} (h:VwP W bv d m e bl bh sc (.func (.func 152) #[] #[])/\Grp W q b n c al ah/\SrB W bs pv sc rm) (hb:Below W.heap.size W W'):VwP W' bv d m e bl bh sc (.func (.func 152) #[] #[])/\Grp W' q b n c al ah/\SrB W' bs pv sc rm:=⟨vwp_in h.1 hb h.1.2,grp_below h.2.1 hb,srB_below h.2.2 hb⟩
theorem sfc_miss (b n c d m e:Nat) (al ah bl bh:P3) (sc rm:Int) (bv bs:Nat) (pv:Value) (y:Int) (w:World) (hv:VwP w bv d m e bl bh sc (.func (.func 152) #[] #[])) (hs:SrB w bs pv sc rm) (TC:Hid (∀ W,Calls Tryz.prog 156 #[vwv d m e bl bh sc (.func (.func 152) #[] #[]),grv b n c al ah] W fun e w'=>e=.returned (.bool false)/\Below W.heap.size W w')) (HC:Hid (∀ W,Calls Tryz.prog 157 #[vwv d m e bl bh sc (.func (.func 152) #[] #[]),grv b n c al ah] W fun e w'=>e=.returned (.int .i64 y)/\Below W.heap.size W w')):Calls Tryz.prog 155 #[grv b n c al ah,.pointer (some ⟨bv,0,none⟩),.pointer (some ⟨bs,0,none⟩)] w fun e w'=>e=.returned (.int .i64 (Sp.mn rm y))/\Below w.heap.size w w':=by
  have Y0:=hid (grp_new w b n c al ah 138)
  have V0:=hid (vwp_alloc hv (grb b n c al ah 138))
  have R0:=hid (srB_alloc hs (grb b n c al ah 138))
  have B0:=hid (show Below w.heap.size w (w.alloc (grb b n c al ah 138)) from (Below.refl _ w).alloc (Nat.le_refl _) _)
  clear hv hs
  obtain ⟨⟨k0,k1,k2,k3,k4,k5,k6,k7,k8⟩,k9⟩:=V0.out
  obtain ⟨⟨g0,g1,g2,g3,g4,g5,g6⟩,g9⟩:=Y0.out
  go_enter Tryz.func155,Tryz.ntmps155
  go_wp2_with fail
  with_reducible refine (TC.out _).mono ?_
  rintro e w1 ⟨rfl,hb1⟩
  have Y1:=hid (grp_below Y0.out hb1)
  have V1:=hid (vwp_in V0.out hb1 V0.out.2)
  have R1:=hid (srB_below R0.out hb1)
  have B1:=hid (bstep B0.out hb1)
  clear k0 k1 k2 k3 k4 k5 k6 k7 k8 k9 g0 g1 g2 g3 g4 g5 g6 g9 Y0 V0 R0 B0 hb1
  obtain ⟨⟨r0,r1,r2⟩,r9⟩:=R1.out
  have i0:VwP w1.drew bv d m e bl bh sc (.func (.func 152) #[] #[])/\Grp w1.drew w.heap.size b n c al ah/\SrB w1.drew bs pv sc rm:=⟨V1.out,Y1.out,R1.out⟩
  have b0:=hid (show Below w.heap.size w w1.drew from Below.drew B1.out)
  clear r0 r1 r2 r9 V1 Y1 R1 B1
  go_wp2_with fail
  go_region_held3 (fun w'=>(w'.cell? ⟨bv,0,none⟩=some (.slice (some ⟨d,0,none⟩) m e)/\w'.cell? ⟨bv,1,none⟩=some (.int .i64 bl.1)/\w'.cell? ⟨bv,2,none⟩=some (.int .i64 bl.2.1)/\w'.cell? ⟨bv,3,none⟩=some (.int .i64 bl.2.2)/\w'.cell? ⟨bv,4,none⟩=some (.int .i64 bh.1)/\w'.cell? ⟨bv,5,none⟩=some (.int .i64 bh.2.1)/\w'.cell? ⟨bv,6,none⟩=some (.int .i64 bh.2.2)/\w'.cell? ⟨bv,7,none⟩=some (.int .i64 sc)/\w'.cell? ⟨bv,8,none⟩=some (.func (.func 152) #[] #[]))/\(w'.cell? ⟨w.heap.size,0,none⟩=some (.slice (some ⟨b,0,none⟩) n c)/\w'.cell? ⟨w.heap.size,1,none⟩=some (.int .i64 al.1)/\w'.cell? ⟨w.heap.size,2,none⟩=some (.int .i64 al.2.1)/\w'.cell? ⟨w.heap.size,3,none⟩=some (.int .i64 al.2.2)/\w'.cell? ⟨w.heap.size,4,none⟩=some (.int .i64 ah.1)/\w'.cell? ⟨w.heap.size,5,none⟩=some (.int .i64 ah.2.1)/\w'.cell? ⟨w.heap.size,6,none⟩=some (.int .i64 ah.2.2))/\w'.cell? ⟨bs,2,none⟩=some (.int .i64 rm))
    (first|(refine sf_cells i0)|(refine sf_cells i1)|fail)
    (first|(go_at_call 157;(with_reducible refine (HC.out _).mono ?_);rintro e v1 ⟨rfl,hv1⟩;have i1:=sf_below i0 hv1;have b1:=hid (bstep b0.out hv1))|fail)
  all_goals
    go_wp2
    go_ret
    exact ⟨rfl,b1.out⟩
theorem gsc_any (bv bs q n c:Nat) (gs:List (Nat × P9)) (f:Nat->Int) (w:World) (r:RowGs w q n gs) (hn:n<=1000) (CC:Hid (∀ k,k<n->∀ W,Below w.heap.size w W->Calls Tryz.prog 155 #[grv (gA gs k).1 3 3 (loN (P3F (gA gs k).2) 3) (hiN (P3F (gA gs k).2) 3),.pointer (some ⟨bv,0,none⟩),.pointer (some ⟨bs,0,none⟩)] W fun e w'=>e=.returned (.int .i64 (f k))/\Below W.heap.size W w')) (BD:Hid (∀ k,k<=n->-4611686018427387904<=sm f k/\sm f k<=4611686018427387904)) :
    Calls Tryz.prog 191 #[.slice (some ⟨q,0,none⟩) n c,.func (.func 155) #[] #[.pointer (some ⟨bv,0,none⟩),.pointer (some ⟨bs,0,none⟩)]] w fun e w'=>e=.returned (.int .i64 (sm f n))/\Below w.heap.size w w':=by
  have hn':(n:Int)<=1000:=by omega
  have R:=hid r
  clear r
  go_enter Tryz.func191,Tryz.ntmps191
  go_wp2
  go_loopw [5,10] (fun tv jv wr=>∃ k:Nat,k<=n/\jv=.int .i64 k/\tv=.int .i64 (sm f k)/\Below w.heap.size w wr) (fun _ jv _=>n - (intOf jv).toNat)
  case atStart=>exact ⟨0,Nat.zero_le _,rfl,rfl,Below.refl _ _⟩
  case round =>
    obtain ⟨k,hk,rfl,rfl,BB⟩:=hrel
    have B0:=hid BB
    clear BB
    by_cases hlt:k<n
    · have hk1:(k:Int)<(n:Int):=by omega
      have q1:=rowgs_in R.out B0.out
      obtain ⟨⟨c0,c1,c2,c3,c4,c5,c6⟩,_⟩:=q1.2 k hlt
      have s1:=q1.1
      have NX:=hid (show sm f (k+1)=sm f k+f k from rfl)
      have bb:=BD.out (k+1) hlt
      rw [NX.out] at bb
      obtain ⟨b1,b2⟩:=bb
      have CK:=hid (CC.out k hlt)
      clear q1 CC BD
      generalize loN (P3F (gA gs k).2) 3=lo at *
      generalize hiN (P3F (gA gs k).2) 3=hi at *
      generalize (gA gs k).1=g at *
      generalize f k=y at *
      generalize sm f k=x at *
      go_wp2_with fail
      go_at_call 155
      refine (CK.out _ (by have hB:=B0.out;(repeat' (first|exact Below.refl _ _|refine bstep ?_ hB|refine Below.setCell ?_ (by simp<;>omega) _|refine balloc ?_ _|refine Below.drew ?_|refine bdrewN ?_ _)))).mono ?_
      rintro e w1 ⟨rfl,hb⟩
      go_wp2
      go_roundw
      case rel=>exact ⟨k+1,by omega,by go_num,by rw [NX.out],by have hB:=B0.out;(repeat' (first|exact Below.refl _ _|refine bstep ?_ hb|refine bstep ?_ hB|refine Below.setCell ?_ (by simp<;>omega) _|refine balloc ?_ _|refine Below.drew ?_|refine bdrewN ?_ _))⟩
      case measure=>simp [intOf];omega
    · obtain rfl:k=n:=by omega
      go_wp2
      go_ret
      exact ⟨rfl,B0.out⟩
theorem gavs_any (d m e:Nat) (bl bh:P3) (sc:Int) (bv bs:Nat) (q n c:Nat) (gs:List (Nat × P9)) (f h:Nat->Int) (w:World) (r:RowGs w q n gs) (hn0:0<n) (hn:n<=1000) (hf:∀ k,k<n->0<=f k/\f k<=1000000000) (hh:∀ k,k<n->0<=h k/\h k<=1000000000)
    (CL1:Hid (∀ k,k<n->∀ W,Below w.heap.size w W->Calls Tryz.prog 154 #[vwv d m e bl bh sc (.func (.func 152) #[] #[]),grv (gA gs k).1 3 3 (loN (P3F (gA gs k).2) 3) (hiN (P3F (gA gs k).2) 3)] W fun e w'=>e=.returned (.int .i64 (f k))/\Below W.heap.size W w')) (CH:Hid (∀ k,k<n->∀ W,Below w.heap.size w W->Calls Tryz.prog 155 #[grv (gA gs k).1 3 3 (loN (P3F (gA gs k).2) 3) (hiN (P3F (gA gs k).2) 3),.pointer (some ⟨bv,0,none⟩),.pointer (some ⟨bs,0,none⟩)] W fun e w'=>e=.returned (.int .i64 (h k))/\Below W.heap.size W w')) :
    Calls Tryz.prog 153 #[.slice (some ⟨q,0,none⟩) n c,.func (.func 154) #[vwv d m e bl bh sc (.func (.func 152) #[] #[])] #[],.func (.func 155) #[] #[.pointer (some ⟨bv,0,none⟩),.pointer (some ⟨bs,0,none⟩)]] w fun e w'=>e=.returned (.agg #[.int .i64 (sm f n / (n:Int)),.int .i64 ((sm h n+(n:Int) - 1) / (n:Int))])/\Below w.heap.size w w':=by
  have bd {g:Nat->Int} (hg:∀ k,k<n->0<=g k/\g k<=1000000000):∀ k,k<=n->0<=sm g k/\sm g k<=1000000000000:=fun k hk=>by
    have:=sm_pos9 (n:=k) fun i hi=>hg i (by omega)
    have:(k:Int)*1000000000<=1000*1000000000:=Int.mul_le_mul_of_nonneg_right (by omega) (by decide)
    omega
  have SL:=hid (fun (W:World) (B:Below w.heap.size w W)=>gsl_any d m e bl bh sc (.func (.func 152) #[] #[]) q n c gs f W (rowgs_in r B) hn (hid fun k hk W' B'=>CL1.out k hk W' (Below.trans B (B'.mono B.size))) (hid fun k hk=>by have:=bd hf k hk;omega))
  have SH:=hid (fun (W:World) (B:Below w.heap.size w W)=>gsc_any bv bs q n c gs h W (rowgs_in r B) hn (hid fun k hk W' B'=>CH.out k hk W' (Below.trans B (B'.mono B.size))) (hid fun k hk=>by have:=bd hh k hk;omega))
  obtain ⟨f1,f2⟩:=bd hf n (Nat.le_refl _)
  obtain ⟨h1,h2⟩:=bd hh n (Nat.le_refl _)
  have n1:(0:Int)<(n:Int):=by omega
  have n2:(n:Int)<=1000:=by omega
  have n3:¬ ((n:Int)=0):=by omega
  have q1:sm f n / (n:Int)<=sm f n:=Int.ediv_le_self _ f1
  have q0:0<=sm f n / (n:Int):=Int.ediv_nonneg f1 (by omega)
  have q3:(sm h n+(n:Int) - 1) / (n:Int)<=sm h n+(n:Int) - 1:=Int.ediv_le_self _ (by omega)
  have q2:0<=(sm h n+(n:Int) - 1) / (n:Int):=Int.ediv_nonneg (by omega) (by omega)
  have d1:=tdiv_pos9 (x:=sm f n) (d:=(n:Int)) f1
  have d2:=tdiv_pos9 (x:=sm h n+(n:Int) - 1) (d:=(n:Int)) (by omega)
  clear r CL1 CH hf hh bd
  generalize sm f n=x at *
  generalize sm h n=y at *
  generalize x / (n:Int)=xq at *
  generalize (y+(n:Int) - 1) / (n:Int)=yq at *
  have w1:IntKind.i64.wrap (y+(n:Int))=y+(n:Int):=IntWalk.i64_in _ (by omega)
  have w2:IntKind.i64.wrap (y+(n:Int) - 1)=y+(n:Int) - 1:=IntWalk.i64_in _ (by omega)
  have w3:IntKind.i64.wrap xq=xq:=IntWalk.i64_in _ (by omega)
  have w4:IntKind.i64.wrap yq=yq:=IntWalk.i64_in _ (by omega)
  have P0:OwP (w.alloc (.cells #[.int .i64 0,.int .i64 0] 39)).drew w.heap.size (0,0):=owp_new w (0,0) 39
  have BW:Below w.heap.size w (w.alloc (.cells #[.int .i64 0,.int .i64 0] 39)).drew:=Below.drew (balloc (Below.refl _ _) _)
  have A1:=hid (SL.out _ BW)
  go_enter Tryz.func153,Tryz.ntmps153
  go_wp2_with fail
  go_region_with (first
   |(go_at_call 191;(with_reducible refine A1.out.mono ?_);rintro e v0 ⟨rfl,hv0⟩;have p1:=owp_below P0 hv0;have b1:=bstep BW hv0;have A2:=hid (SH.out _ b1))
   |(go_at_call 191;(with_reducible refine A2.out.mono ?_);rintro e v1 ⟨rfl,hv1⟩;obtain ⟨o0,o1,o2,o3,o4⟩:=owp_below p1 hv1;have b2:=bstep b1 hv1))
  all_goals
    go_wp2
    (try simp only [w1,w2,w3,w4,d1,d2])
    refine bodyPost_ret (v:=.agg #[.int .i64 xq,.int .i64 yq]) (by rw [results_cell rfl];go_simp) rfl ⟨rfl,?_⟩
    (repeat' (first|with_reducible exact b2|(with_reducible refine Below.setCell ?_ (by simp<;>omega) _)))
theorem sfr_walk (q N cp b n c:Nat) (al ah:P3) (sc rm x y:Int) (w:World)
    (AVH:Hid (∀ W bv bs,Below w.heap.size w W->VwP W bv b n c al ah sc (.func (.func 152) #[] #[])->SrB W bs (.slice (some ⟨q,0,none⟩) N cp) sc rm->Calls Tryz.prog 153 #[.slice (some ⟨q,0,none⟩) N cp,.func (.func 154) #[vwv b n c al ah sc (.func (.func 152) #[] #[])] #[],.func (.func 155) #[] #[.pointer (some ⟨bv,0,none⟩),.pointer (some ⟨bs,0,none⟩)]] W fun e w'=>e=.returned (.agg #[.int .i64 x,.int .i64 y])/\Below W.heap.size W w')) :
    Calls Tryz.prog 106 #[.agg #[.slice (some ⟨q,0,none⟩) N cp,.int .i64 sc,.int .i64 rm],grv b n c al ah] w fun e w'=>e=.returned (.agg #[.int .i64 x,.int .i64 y])/\Below w.heap.size w w':=by
  have S0:=hid (srB_alloc (srB_alloc (srB_new w (.slice (some ⟨q,0,none⟩) N cp) sc rm 133) (grb b n c al ah 138)) (.cells #[.int .i64 0,.int .i64 0] 39))
  have Y0:=hid (grp_alloc (grp_new (w.alloc (.cells #[.slice (some ⟨q,0,none⟩) N cp,.int .i64 sc,.int .i64 rm] 133)) b n c al ah 138) (.cells #[.int .i64 0,.int .i64 0] 39))
  have Z0:=hid (owp_new ((w.alloc (.cells #[.slice (some ⟨q,0,none⟩) N cp,.int .i64 sc,.int .i64 rm] 133)).alloc (grb b n c al ah 138)) (0,0) 39)
  simp only [World.size_alloc] at Y0 Z0
  have V0:=hid (vwp_new (((w.alloc (.cells #[.slice (some ⟨q,0,none⟩) N cp,.int .i64 sc,.int .i64 rm] 133)).alloc (grb b n c al ah 138)).alloc (.cells #[.int .i64 0,.int .i64 0] 39)) b n c al ah sc (.func (.func 152) #[] #[]) 186)
  simp only [World.size_alloc] at V0
  have S1':=hid (srB_alloc S0.out (vwb b n c al ah sc (.func (.func 152) #[] #[]) 186))
  have Z1:=hid (owp_alloc Z0.out (vwb b n c al ah sc (.func (.func 152) #[] #[]) 186))
  have B0:=hid (show Below w.heap.size w ((((w.alloc (.cells #[.slice (some ⟨q,0,none⟩) N cp,.int .i64 sc,.int .i64 rm] 133)).alloc (grb b n c al ah 138)).alloc (.cells #[.int .i64 0,.int .i64 0] 39)).alloc (vwb b n c al ah sc (.func (.func 152) #[] #[]) 186)) by (repeat' (first|exact Below.refl _ _|refine Below.setCell ?_ (by simp<;>omega) _|refine balloc ?_ _|refine Below.drew ?_|refine bdrewN ?_ _)))
  obtain ⟨⟨r0,r1,r2⟩,r9⟩:=S0.out
  obtain ⟨⟨g0,g1,g2,g3,g4,g5,g6⟩,g9⟩:=Y0.out
  go_enter Tryz.func106,Tryz.ntmps106
  go_upto_region 2 with fail
  clear r0 r1 r2 r9 g0 g1 g2 g3 g4 g5 g6 g9
  obtain ⟨⟨r0,r1,r2⟩,r9⟩:=S1'.out
  obtain ⟨⟨k0,k1,k2,k3,k4,k5,k6,k7,k8⟩,k9⟩:=V0.out
  go_wp2_with fail
  with_reducible refine (AVH.out _ _ _ B0.out V0.out S1'.out).mono ?_
  rintro e w1 ⟨rfl,hb1⟩
  clear r0 r1 r2 r9 k0 k1 k2 k3 k4 k5 k6 k7 k8 k9
  obtain ⟨o0,o1,o2,o3,o4⟩:=owp_below Z1.out hb1
  have hB:=bstep B0.out hb1
  go_wp2
  refine bodyPost_ret (v:=.agg #[.int .i64 x,.int .i64 y]) (by rw [results_cell rfl];go_simp) rfl ⟨rfl,?_⟩
  (repeat' (first|with_reducible exact hB|(with_reducible refine Below.setCell ?_ (by simp<;>omega) _)))
end Go.Proofs.YtbcjiigmbcfkeaaGreat
