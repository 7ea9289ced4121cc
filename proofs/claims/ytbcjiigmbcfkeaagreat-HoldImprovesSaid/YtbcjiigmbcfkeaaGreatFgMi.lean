import Derived.Test.YtbcjiigmbcfkeaaGreatFgMh
namespace Go.Proofs.YtbcjiigmbcfkeaaGreat
open Go.Lib (hid)
set_option maxRecDepth 100000
set_option maxHeartbeats 8000000
open Go.ChangeShapes Go.WideShapes Go.RowKit
open Sh
attribute [local go_sem 1000000] run_min_mn run_max_mx
theorem cf_eq (t u:P9):cG (P3F t) (P3F u) 3 3=fG (P3F t) (P3F u) 3 3:=by
  have h:=fun a:P3=>sq_nn a
  simp only [cG,cI,fG,fI,Sp.mx_eq]
  have e00:=h (sub (P3F t 0) (P3F u 0))
  generalize sq (sub (P3F t 0) (P3F u 0))=a0 at *
  generalize sq (sub (P3F t 0) (P3F u 1))=a1 at *
  generalize sq (sub (P3F t 0) (P3F u 2))=a2 at *
  generalize sq (sub (P3F t 1) (P3F u 0))=b0 at *
  generalize sq (sub (P3F t 1) (P3F u 1))=b1 at *
  generalize sq (sub (P3F t 1) (P3F u 2))=b2 at *
  generalize sq (sub (P3F t 2) (P3F u 0))=c0 at *
  generalize sq (sub (P3F t 2) (P3F u 1))=c1 at *
  generalize sq (sub (P3F t 2) (P3F u 2))=c2 at *
  clear h
  ac_rfl
theorem rsee_walk (a b c x y z:P3) (D sc rm:Int) (n:Nat) (L:Nat->P9) (nd fd lo hi:Nat->Int) (w:World) (SH:Hid (wrap64 (2 ^ D.toNat)=sc)) (SB:0<=D/\D<=3/\0<=sc/\sc<=8) (n0:0<n) (n1:n<=64)
    (CC:Hid (∀ W,Calls Tryz.prog 118 #[pnv a b c,.int .i64 D] W fun e w'=>∃ g off cap,e=.returned (.slice (some ⟨g,off,none⟩) n cap)/\RowP w' g off n L/\Below W.heap.size W w'))
    (CR:Hid (∀ W,Calls Tryz.prog 164 #[pnv a b c,.int .i64 D] W fun e w'=>e=.returned (.int .i64 rm)/\Below W.heap.size W w'))
    (CN:Hid (∀ k,k<n->∀ W q,RwG W q 3 (P3F (x,y,z))->Calls Tryz.prog 167 #[p9w (L k),.slice (some ⟨q,0,none⟩) 3 3] W fun e w'=>e=.returned (.int .i64 (nd k))/\Below W.heap.size W w'))
    (CF:Hid (∀ k,k<n->∀ W q,RwG W q 3 (P3F (x,y,z))->Calls Tryz.prog 166 #[p9w (L k),.slice (some ⟨q,0,none⟩) 3 3] W fun e w'=>e=.returned (.int .i64 (fd k))/\Below W.heap.size W w'))
    (CI:Hid (∀ m W,Calls Tryz.prog 165 #[.int .i64 m,.int .i64 sc] W fun e w'=>e=.returned (spr (kV false m sc))/\Below W.heap.size W w'))
    (LL:Hid (∀ k,(kV false (fd k) sc).1.1=lo k)) (HH:Hid (∀ k,(nd k=0->hi k=rm)/\(0<nd k->Sp.mn rm (kV false (nd k) sc).1.2=hi k))) (BL:Hid (∀ k,k<n->0<=nd k/\(0<=lo k/\lo k<=1000000000)/\0<=hi k/\hi k<=1000000000)) :
    Calls Tryz.prog 110 #[pnv a b c,.int .i64 D,pnv x y z] w fun e w'=>e=.returned (.agg #[.int .i64 (Sp.fl (sm lo n) n),.int .i64 (Sp.ce (sm hi n) n)])/\Below w.heap.size w w':=by
  obtain ⟨s1,s2,s3,s4⟩:=SB
  obtain rfl:=SH.out
  have P0:=hid (pan_alloc (pan_alloc (pan_new w a b c 77) (pnc x y z 77)) (.cells #[.int .i64 0,.int .i64 0] 39))
  have U0:=hid (pan_alloc (pan_new (w.alloc (pnc a b c 77)) x y z 77) (.cells #[.int .i64 0,.int .i64 0] 39))
  have Z0:=hid (owp_new ((w.alloc (pnc a b c 77)).alloc (pnc x y z 77)) (0,0) 39)
  simp only [World.size_alloc] at U0 Z0
  have B0:=hid (show Below w.heap.size w (((w.alloc (pnc a b c 77)).alloc (pnc x y z 77)).alloc (.cells #[.int .i64 0,.int .i64 0] 39)) by (repeat' (first|exact Below.refl _ _|refine Below.setCell ?_ (by simp<;>omega) _|refine balloc ?_ _|refine Below.drew ?_|refine bdrewN ?_ _)))
  obtain ⟨k0,k1,k2,k3,k4,k5,k6,k7,k8,k9⟩:=id P0.out
  go_enter Tryz.func110,Tryz.ntmps110
  go_wp2_with fail
  with_reducible refine (CC.out _).mono ?_
  rintro e w1 ⟨g,off,cap,rfl,hrow,hb1⟩
  have P1:=hid (pan_alloc (pan_below P0.out hb1) (pnc x y z 44))
  have U1:=hid (pan_below U0.out hb1)
  have Z1:=hid (owp_alloc (owp_below Z0.out hb1) (pnc x y z 44))
  have B1:=hid (balloc (bstep B0.out hb1) (pnc x y z 44))
  have ROW1:=hid (rowP_in hrow ((Below.refl w1.heap.size w1).alloc (Nat.le_refl _) (pnc x y z 44)) hrow.1)
  have Q1:=hid (ptb_new w1 x y z)
  clear P0 U0 Z0 B0 hb1 hrow k0 k1 k2 k3 k4 k5 k6 k7 k8 k9
  obtain ⟨u0,u1,u2,u3,u4,u5,u6,u7,u8,u9⟩:=id U1.out
  obtain ⟨k0,k1,k2,k3,k4,k5,k6,k7,k8,k9⟩:=id P1.out
  go_wp2_with fail
  with_reducible refine (CR.out _).mono ?_
  rintro e w2 ⟨rfl,hb2⟩
  have Z2:=hid (owp_below Z1.out hb2)
  have B2:=hid (bstep B1.out hb2)
  have ROW2:=hid (rowP_in ROW1.out hb2 ROW1.out.1)
  have Q2:=hid (ptb_row (ptb_below Q1.out hb2))
  have hg2:g<w2.heap.size:=ROW2.out.1
  clear P1 U1 Z1 B1 ROW1 Q1 hb2 u0 u1 u2 u3 u4 u5 u6 u7 u8 u9 k0 k1 k2 k3 k4 k5 k6 k7 k8 k9
  go_wp2_with fail
  go_loopw [11,12,13] (fun lv hv kv wr=>∃ k:Nat,k<=n/\kv=.int .i64 k/\lv=.int .i64 (sm lo k)/\hv=.int .i64 (sm hi k)/\(0<=sm lo k/\sm lo k<=(k:Int)*1000000000)/\(0<=sm hi k/\sm hi k<=(k:Int)*1000000000)/\Below w2.heap.size w2 wr) (fun _ _ kv _=>n - (intOf kv).toNat)
  case atStart=>exact ⟨0,Nat.zero_le _,rfl,rfl,rfl,⟨Int.le_refl _,Int.le_refl _⟩,⟨Int.le_refl _,Int.le_refl _⟩,Below.refl _ _⟩
  case round =>
    obtain ⟨k,hk,rfl,rfl,rfl,⟨l1,l2⟩,⟨h1,h2⟩,BB⟩:=hrel
    have B3:=hid BB
    clear BB
    by_cases hlt:k<n
    · have hk1:(k:Int)<(n:Int):=by omega
      have hk0:0<=(k:Int):=by omega
      have hkn:(k:Int)<=64:=by omega
      have ROW3:=hid (rowP_in ROW2.out B3.out hg2)
      have Q3:=hid (rwg_below Q2.out B3.out)
      have CNk:=hid (CN.out k hlt)
      have CFk:=hid (CF.out k hlt)
      have bl:=BL.out k hlt
      have LLk:=LL.out k
      have HHk:=hid (HH.out k)
      have SL:=hid (show sm lo (k+1)=sm lo k+lo k from rfl)
      have SHk:=hid (show sm hi (k+1)=sm hi k+hi k from rfl)
      obtain ⟨c0,c1,c2,c3,c4,c5,c6,c7,c8⟩:=ROW3.out.2 k hlt
      have cz:=ROW3.out.1
      obtain ⟨q,hq⟩:∃ q,L k=q:=⟨_,rfl⟩
      have ROK:=hid (fun (W:World) (h:Below wr.heap.size wr W)=>(rowP_in ROW3.out h ROW3.out.1).2 k hlt)
      rw [hq] at CNk CFk c0 c1 c2 c3 c4 c5 c6 c7 c8
      rw [hq] at ROK
      generalize nd k=nk at *
      generalize fd k=fk at *
      generalize lo k=lk at *
      generalize hi k=uk at *
      generalize sm lo k=sl at *
      generalize sm hi k=su at *
      clear hq
      obtain ⟨nn,⟨l3,l4⟩,h3,h4⟩:=bl
      obtain ⟨r1,e1⟩:∃ r,kV false fk (wrap64 (2 ^ D.toNat))=r:=⟨_,rfl⟩
      obtain ⟨r2,e2⟩:∃ r,kV false nk (wrap64 (2 ^ D.toNat))=r:=⟨_,rfl⟩
      have CI1:Hid (∀ W,Calls Tryz.prog 165 #[.int .i64 fk,.int .i64 (wrap64 (2 ^ D.toNat))] W fun e w'=>e=.returned (spr r1)/\Below W.heap.size W w'):=hid fun W=>by rw [← e1];exact CI.out fk W
      have CI2:Hid (∀ W,Calls Tryz.prog 165 #[.int .i64 nk,.int .i64 (wrap64 (2 ^ D.toNat))] W fun e w'=>e=.returned (spr r2)/\Below W.heap.size W w'):=hid fun W=>by rw [← e2];exact CI.out nk W
      rw [e1] at LLk
      have HHk2:=hid (by have z:=HHk.out;rw [e2] at z;exact z)
      clear e1 e2 HHk
      obtain ⟨⟨r1a,r1b⟩,r1c⟩:=r1
      obtain ⟨⟨r2a,r2b⟩,r2c⟩:=r2
      obtain rfl:r1a=lk:=LLk
      go_wp2_with fail
      with_reducible refine (CFk.out _ _ Q3.out).mono ?_
      rintro e w4 ⟨rfl,hb4⟩
      clear c0 c1 c2 c3 c4 c5 c6 c7 c8
      go_wp2_with fail
      with_reducible refine (CI1.out _).mono ?_
      rintro e w5 ⟨rfl,hb5⟩
      have V5:=hid (owp_new w5 (r1a,r1b) 39)
      have hB5:=hid (balloc (Below.trans hb4 (hb5.mono hb4.size)) (.cells #[.int .i64 r1a,.int .i64 r1b] 39))
      have Q5:=hid (rwg_below Q3.out hB5.out)
      obtain ⟨c0,c1,c2,c3,c4,c5,c6,c7,c8⟩:=ROK.out _ hB5.out
      have cz5:g<w5.heap.size:=Nat.lt_of_lt_of_le cz (Nat.le_trans hb4.size hb5.size)
      go_wp2_with fail
      with_reducible refine (CNk.out _ _ Q5.out).mono ?_
      rintro e w6 ⟨rfl,hb6⟩
      have V6:=hid (owp_below V5.out hb6)
      have BX:=hid (bstep (bstep B3.out hB5.out) hb6)
      clear c0 c1 c2 c3 c4 c5 c6 c7 c8 hb4 hb5 hb6 V5 Q5 hB5
      by_cases z0:nk=0
      · obtain rfl:uk=rm:=HHk2.out.1 z0
        obtain rfl:=z0
        obtain ⟨v0,v1,v2,v3,v4⟩:=V6.out
        go_wp2_with fail
        go_roundw
        case rel=>exact ⟨k+1,by omega,by go_num,by rw [SL.out],by rw [SHk.out],by rw [SL.out];omega,by rw [SHk.out];omega,BX.out⟩
        case measure=>simp [intOf];omega
      · have z1:0<nk:=by omega
        have mq:=hid (HHk2.out.2 z1)
        clear z0
        go_wp2_with fail
        with_reducible refine (CI2.out _).mono ?_
        rintro e w7 ⟨rfl,hb7⟩
        have V7:=hid (owp_alloc (owp_below V6.out hb7) (.cells #[.int .i64 r2a,.int .i64 r2b] 39))
        have U7:=hid (owp_new w7 (r2a,r2b) 39)
        have BY:=hid (balloc (bstep BX.out hb7) (.cells #[.int .i64 r2a,.int .i64 r2b] 39))
        obtain ⟨v0,v1,v2,v3,v4⟩:=V7.out
        obtain ⟨u0,u1,u2,u3,u4⟩:=U7.out
        have mq':=mq.out
        clear hb7
        go_wp2_with fail
        go_roundw
        case rel=>exact ⟨k+1,by omega,by go_num,by rw [SL.out],by rw [SHk.out],by rw [SL.out];omega,by rw [SHk.out];omega,BY.out⟩
        case measure=>simp [intOf];omega
    · obtain rfl:k=n:=by omega
      have SL1:Sm (sm lo k) (k:Int):=⟨by omega,by omega,by omega,by omega⟩
      have SU1:Sm (sm hi k) (k:Int):=⟨by omega,by omega,by omega,by omega⟩
      have DD:=hid (fun W=>rdown_any (sm lo k) (k:Int) W SL1 (by omega))
      have DU:=hid (fun W=>rup_any (sm hi k) (k:Int) W SU1 (by omega))
      have Z3:=hid (owp_in Z2.out B3.out Z2.out.2.2.2.2)
      have hB:=bjoin B2.out B3.out
      clear SL1 SU1
      obtain ⟨ra,hra⟩:∃ ra,Sp.fl (sm lo k) (k:Int)=ra:=⟨_,rfl⟩
      obtain ⟨rb,hrb⟩:∃ rb,Sp.ce (sm hi k) (k:Int)=rb:=⟨_,rfl⟩
      rw [hra] at DD
      rw [hrb] at DU
      have HRA:=hid hra
      have HRB:=hid hrb
      clear hra hrb
      obtain ⟨o0,o1,o2,o3,o4⟩:=Z3.out
      go_wp2_with (first|(go_at_call 168;(with_reducible refine (DD.out _).mono ?_);rintro e W1 ⟨rfl,rfl⟩)|(go_at_call 169;(with_reducible refine (DU.out _).mono ?_);rintro e W1 ⟨rfl,rfl⟩)|fail)
      refine bodyPost_ret (v:=.agg #[.int .i64 ra,.int .i64 rb]) (by rw [results_cell rfl];go_simp) rfl ⟨by rw [HRA.out,HRB.out],?_⟩
      (repeat' (first|with_reducible exact hB|(with_reducible refine Below.setCell ?_ (by simp<;>omega) _)))
end Go.Proofs.YtbcjiigmbcfkeaaGreat
namespace Go.Proofs.YtbcjiigmbcfkeaaGreat
open Go.Lib (hid)
set_option maxRecDepth 100000
set_option maxHeartbeats 8000000
open Go.ChangeShapes Go.WideShapes Go.RowKit
open Sh
theorem rpr_no0 (pc:Int) (t u:P9) (D:Int) (w:World) (V:Hid (∀ W,Calls Tryz.prog 162 #[p9v t] W fun e w'=>e=.returned (.int .i64 pc)/\Below W.heap.size W w')) (zz:(pc != 0)=true):Calls Tryz.prog 109 #[p9v t,p9v u,.int .i64 D] w fun e w'=>e=.returned (.int .i64 pc)/\Below w.heap.size w w':=by
  obtain ⟨a,b,c⟩:=t
  obtain ⟨x,y,z⟩:=u
  have U0:=hid (pan_new (w.alloc (pnc a b c 77)) x y z 77)
  simp only [World.size_alloc] at U0
  go_enter Tryz.func109,Tryz.ntmps109
  go_wp2_with fail
  refine (V.out _).mono ?_
  rintro e w1 ⟨rfl,hb1⟩
  go_wp2
  go_ret
  exact ⟨rfl,by (repeat' (first|exact Below.refl _ _|refine bstep ?_ hb1|refine Below.setCell ?_ (by simp<;>omega) _|refine balloc ?_ _|refine Below.drew ?_|refine bdrewN ?_ _))⟩
theorem rpr_no1 (pc:Int) (t u:P9) (D:Int) (w:World) (V:Hid (∀ W,Calls Tryz.prog 162 #[p9v t] W fun e w'=>e=.returned (.int .i64 0)/\Below W.heap.size W w')) (U:Hid (∀ W,Calls Tryz.prog 162 #[p9v u] W fun e w'=>e=.returned (.int .i64 pc)/\Below W.heap.size W w')) (zz:(pc != 0)=true):Calls Tryz.prog 109 #[p9v t,p9v u,.int .i64 D] w fun e w'=>e=.returned (.int .i64 pc)/\Below w.heap.size w w':=by
  obtain ⟨a,b,c⟩:=t
  obtain ⟨x,y,z⟩:=u
  have U0:=hid (pan_new (w.alloc (pnc a b c 77)) x y z 77)
  simp only [World.size_alloc] at U0
  go_enter Tryz.func109,Tryz.ntmps109
  go_wp2_with fail
  refine (V.out _).mono ?_
  rintro e w1 ⟨rfl,hb1⟩
  obtain ⟨k0,k1,k2,k3,k4,k5,k6,k7,k8,k9⟩:=pan_below U0.out hb1
  go_wp2_with fail
  refine (U.out _).mono ?_
  rintro e w2 ⟨rfl,hb2⟩
  go_wp2
  go_ret
  exact ⟨rfl,by (repeat' (first|exact Below.refl _ _|refine bstep ?_ hb2|refine bstep ?_ hb1|refine Below.setCell ?_ (by simp<;>omega) _|refine balloc ?_ _|refine Below.drew ?_|refine bdrewN ?_ _))⟩
theorem rpr_true (t u:P9) (D:Int) (w:World) (V:Hid (∀ W,Calls Tryz.prog 162 #[p9v t] W fun e w'=>e=.returned (.int .i64 0)/\Below W.heap.size W w')) (U:Hid (∀ W,Calls Tryz.prog 162 #[p9v u] W fun e w'=>e=.returned (.int .i64 0)/\Below W.heap.size W w')) (I:Hid (∀ W,Calls Tryz.prog 163 #[.int .i64 D,.int .i64 0,.int .i64 2] W fun e w'=>e=.returned (.bool true)/\W=w')):Calls Tryz.prog 109 #[p9v t,p9v u,.int .i64 D] w fun e w'=>e=.returned (.int .i64 0)/\Below w.heap.size w w':=by
  obtain ⟨a,b,c⟩:=t
  obtain ⟨x,y,z⟩:=u
  have U0:=hid (pan_new (w.alloc (pnc a b c 77)) x y z 77)
  simp only [World.size_alloc] at U0
  go_enter Tryz.func109,Tryz.ntmps109
  go_wp2_with fail
  refine (V.out _).mono ?_
  rintro e w1 ⟨rfl,hb1⟩
  obtain ⟨k0,k1,k2,k3,k4,k5,k6,k7,k8,k9⟩:=pan_below U0.out hb1
  go_wp2_with fail
  refine (U.out _).mono ?_
  rintro e w2 ⟨rfl,hb2⟩
  go_wp2_with fail
  refine (I.out _).mono ?_
  rintro e w3 ⟨rfl,rfl⟩
  go_wp2
  go_ret
  exact ⟨rfl,by (repeat' (first|exact Below.refl _ _|refine bstep ?_ hb2|refine bstep ?_ hb1|refine Below.setCell ?_ (by simp<;>omega) _|refine balloc ?_ _|refine Below.drew ?_|refine bdrewN ?_ _))⟩
theorem rpr_false (t u:P9) (D:Int) (w:World) (V:Hid (∀ W,Calls Tryz.prog 162 #[p9v t] W fun e w'=>e=.returned (.int .i64 0)/\Below W.heap.size W w')) (U:Hid (∀ W,Calls Tryz.prog 162 #[p9v u] W fun e w'=>e=.returned (.int .i64 0)/\Below W.heap.size W w')) (I:Hid (∀ W,Calls Tryz.prog 163 #[.int .i64 D,.int .i64 0,.int .i64 2] W fun e w'=>e=.returned (.bool false)/\W=w')):Calls Tryz.prog 109 #[p9v t,p9v u,.int .i64 D] w fun e w'=>e=.returned (.int .i64 1)/\Below w.heap.size w w':=by
  obtain ⟨a,b,c⟩:=t
  obtain ⟨x,y,z⟩:=u
  have U0:=hid (pan_new (w.alloc (pnc a b c 77)) x y z 77)
  simp only [World.size_alloc] at U0
  go_enter Tryz.func109,Tryz.ntmps109
  go_wp2_with fail
  refine (V.out _).mono ?_
  rintro e w1 ⟨rfl,hb1⟩
  obtain ⟨k0,k1,k2,k3,k4,k5,k6,k7,k8,k9⟩:=pan_below U0.out hb1
  go_wp2_with fail
  refine (U.out _).mono ?_
  rintro e w2 ⟨rfl,hb2⟩
  go_wp2_with fail
  refine (I.out _).mono ?_
  rintro e w3 ⟨rfl,rfl⟩
  go_wp2
  go_ret
  exact ⟨rfl,by (repeat' (first|exact Below.refl _ _|refine bstep ?_ hb2|refine bstep ?_ hb1|refine Below.setCell ?_ (by simp<;>omega) _|refine balloc ?_ _|refine Below.drew ?_|refine bdrewN ?_ _))⟩
theorem rpr_any (t u:P9) (D:Int) (w:World):Calls Tryz.prog 109 #[p9v t,p9v u,.int .i64 D] w fun e w'=>e=.returned (.int .i64 (prc t u D))/\Below w.heap.size w w':=by
  have V:=fun W=>rvp_any t.1 t.2.1 t.2.2 W
  have U:=fun W=>rvp_any u.1 u.2.1 u.2.2 W
  have I:=fun W=>rfinr_any D 0 2 W
  unfold prc
  by_cases h:pcode t.1 t.2.1 t.2.2=0
  · rw [if_pos h]
    rw [h] at V
    by_cases k:pcode u.1 u.2.1 u.2.2=0
    · rw [if_pos k]
      rw [k] at U
      cases r:rngB D 0 2 with
     |true=>rw [r] at I;exact rpr_true t u D w (hid V) (hid U) (hid I)
     |false=>rw [r] at I;exact rpr_false t u D w (hid V) (hid U) (hid I)
    · rw [if_neg k]
      exact rpr_no1 _ t u D w (hid V) (hid U) (bne_iff_ne.2 k)
  · rw [if_neg h]
    exact rpr_no0 _ t u D w (hid V) (bne_iff_ne.2 h)
theorem rsee_any (t u:P9) (D:Int) (w:World) (ht:pcode t.1 t.2.1 t.2.2=0) (hu:BdT 512 u) (d0:0<=D) (d3:D<=3) :
    Calls Tryz.prog 110 #[p9v t,.int .i64 D,p9v u] w fun e w'=>e=.returned (.agg #[.int .i64 (vSee t D u (rmF t D)).1,.int .i64 (vSee t D u (rmF t D)).2])/\Below w.heap.size w w':=by
  obtain ⟨sw,s1,s2⟩:=scl_vals d0 d3
  obtain ⟨n0,n1⟩:=ptn_vals d0 d3
  have hB:=pcode_ok9 ht
  obtain ⟨r0,r1⟩:=rmF_bd ht d0 d3
  have z:=rsee_walk t.1 t.2.1 t.2.2 u.1 u.2.1 u.2.2 D (scl D) (rmF t D) (ptn D) (ptk t D) (vNear t D u) (vFar t D u) (vLo t D u) (vHi t D u (rmF t D)) w (hid sw) ⟨d0,d3,by omega,s2⟩ n0 n1
    (hid fun W=>(rcut_any D.toNat D t W (by omega) (by omega) hB).mono (by
      rintro e w' ⟨v,rfl,ho,hb⟩
      obtain ⟨g,off,cap,rfl,hr⟩:=rparts_row ho
      exact ⟨g,off,cap,rfl,hr,hb⟩))
    (hid fun W=>rrim_any t D W ht d0 d3)
    (hid fun k hk W q r=>by
      have hb:=ptk_bd9 hB d0 d3 hk
      exact rclose_any (ptk t D k).1 (ptk t D k).2.1 (ptk t D k).2.2 q 3 3 (P3F u) W r (by decide) (by decide) (hb.mono (by decide)) (fun j hj=>p3f_bd (hu.mono (by decide)) hj))
    (hid fun k hk W q r=>by
      have hb:=ptk_bd9 hB d0 d3 hk
      have z:=rfar_any (ptk t D k).1 (ptk t D k).2.1 (ptk t D k).2.2 q 3 3 (P3F u) W r (by decide) (fun i hi j hj=>sub_bd5 (p3f_bd hb hi) (p3f_bd hu hj))
      rw [show ((ptk t D k).1,(ptk t D k).2.1,(ptk t D k).2.2)=ptk t D k from rfl,cf_eq] at z
      exact z)
    (hid fun m W=>rinv_any m _ W) (hid fun k=>rfl) (hid fun k=>⟨fun h=>by unfold vHi;rw [if_pos h],fun h=>by unfold vHi;rw [if_neg (by omega)]⟩)
    (hid fun k hk=>by
      have a:=kVf_bd (vFar t D u k) s1 s2
      have b:=vHi_bd t D u k d0 d3 r0 r1
      exact ⟨sq_nn _,⟨a.1,a.2.1⟩,b⟩)
  rw [(fl_ptn d0 d3).1,(fl_ptn d0 d3).2] at z
  exact z
def TwP (w:World) (a b c x y z:P3) (W:World):Prop:=Pan W w.heap.size a b c/\Pan W (w.heap.size+1) x y z/\OwP W (w.heap.size+1+1) (0,0)/\Below w.heap.size w W
theorem twp_new (w:World) (a b c x y z:P3):TwP w a b c x y z (((w.alloc (pnc a b c 77)).alloc (pnc x y z 77)).alloc (.cells #[.int .i64 0,.int .i64 0] 39)):=by
  have U0:=pan_alloc (pan_new (w.alloc (pnc a b c 77)) x y z 77) (.cells #[.int .i64 0,.int .i64 0] 39)
  have R0:=owp_new ((w.alloc (pnc a b c 77)).alloc (pnc x y z 77)) (0,0) 39
  simp only [World.size_alloc] at U0 R0
  exact ⟨pan_alloc (pan_alloc (pan_new w a b c 77) (pnc x y z 77)) (.cells #[.int .i64 0,.int .i64 0] 39),U0,R0,by (repeat' (first|exact Below.refl _ _|refine Below.setCell ?_ (by simp<;>omega) _|refine balloc ?_ _|refine Below.drew ?_|refine bdrewN ?_ _))⟩
theorem twp_below {w W W':World} {a b c x y z:P3} (h:TwP w a b c x y z W) (hb:Below W.heap.size W W'):TwP w a b c x y z W':=⟨pan_below h.1 hb,pan_below h.2.1 hb,owp_below h.2.2.1 hb,bstep h.2.2.2 hb⟩
theorem twp_cells {w W:World} {a b c x y z:P3} (h:TwP w a b c x y z W):W.cell? ⟨w.heap.size,0,none⟩=some (.int .i64 a.1)/\W.cell? ⟨w.heap.size,1,none⟩=some (.int .i64 a.2.1)/\W.cell? ⟨w.heap.size,2,none⟩=some (.int .i64 a.2.2)/\W.cell? ⟨w.heap.size,3,none⟩=some (.int .i64 b.1)/\W.cell? ⟨w.heap.size,4,none⟩=some (.int .i64 b.2.1)/\W.cell? ⟨w.heap.size,5,none⟩=some (.int .i64 b.2.2)/\W.cell? ⟨w.heap.size,6,none⟩=some (.int .i64 c.1)/\W.cell? ⟨w.heap.size,7,none⟩=some (.int .i64 c.2.1)/\W.cell? ⟨w.heap.size,8,none⟩=some (.int .i64 c.2.2)/\W.cell? ⟨w.heap.size+1,0,none⟩=some (.int .i64 x.1)/\W.cell? ⟨w.heap.size+1,1,none⟩=some (.int .i64 x.2.1)/\W.cell? ⟨w.heap.size+1,2,none⟩=some (.int .i64 x.2.2)/\W.cell? ⟨w.heap.size+1,3,none⟩=some (.int .i64 y.1)/\W.cell? ⟨w.heap.size+1,4,none⟩=some (.int .i64 y.2.1)/\W.cell? ⟨w.heap.size+1,5,none⟩=some (.int .i64 y.2.2)/\W.cell? ⟨w.heap.size+1,6,none⟩=some (.int .i64 z.1)/\W.cell? ⟨w.heap.size+1,7,none⟩=some (.int .i64 z.2.1)/\W.cell? ⟨w.heap.size+1,8,none⟩=some (.int .i64 z.2.2):=by
  obtain ⟨⟨k0,k1,k2,k3,k4,k5,k6,k7,k8,k9⟩,⟨u0,u1,u2,u3,u4,u5,u6,u7,u8,u9⟩,_⟩:=h
  exact ⟨k0,k1,k2,k3,k4,k5,k6,k7,k8,u0,u1,u2,u3,u4,u5,u6,u7,u8⟩
theorem twp_set {w W:World} {a b c x y z:P3} (h:TwP w a b c x y z W) (p r:Value):((W.setCell ⟨w.heap.size+1+1,0,none⟩ p).setCell ⟨w.heap.size+1+1,1,none⟩ r).cell? ⟨w.heap.size,0,none⟩=some (.int .i64 a.1)/\((W.setCell ⟨w.heap.size+1+1,0,none⟩ p).setCell ⟨w.heap.size+1+1,1,none⟩ r).cell? ⟨w.heap.size,1,none⟩=some (.int .i64 a.2.1)/\((W.setCell ⟨w.heap.size+1+1,0,none⟩ p).setCell ⟨w.heap.size+1+1,1,none⟩ r).cell? ⟨w.heap.size,2,none⟩=some (.int .i64 a.2.2)/\((W.setCell ⟨w.heap.size+1+1,0,none⟩ p).setCell ⟨w.heap.size+1+1,1,none⟩ r).cell? ⟨w.heap.size,3,none⟩=some (.int .i64 b.1)/\((W.setCell ⟨w.heap.size+1+1,0,none⟩ p).setCell ⟨w.heap.size+1+1,1,none⟩ r).cell? ⟨w.heap.size,4,none⟩=some (.int .i64 b.2.1)/\((W.setCell ⟨w.heap.size+1+1,0,none⟩ p).setCell ⟨w.heap.size+1+1,1,none⟩ r).cell? ⟨w.heap.size,5,none⟩=some (.int .i64 b.2.2)/\((W.setCell ⟨w.heap.size+1+1,0,none⟩ p).setCell ⟨w.heap.size+1+1,1,none⟩ r).cell? ⟨w.heap.size,6,none⟩=some (.int .i64 c.1)/\((W.setCell ⟨w.heap.size+1+1,0,none⟩ p).setCell ⟨w.heap.size+1+1,1,none⟩ r).cell? ⟨w.heap.size,7,none⟩=some (.int .i64 c.2.1)/\((W.setCell ⟨w.heap.size+1+1,0,none⟩ p).setCell ⟨w.heap.size+1+1,1,none⟩ r).cell? ⟨w.heap.size,8,none⟩=some (.int .i64 c.2.2)/\((W.setCell ⟨w.heap.size+1+1,0,none⟩ p).setCell ⟨w.heap.size+1+1,1,none⟩ r).cell? ⟨w.heap.size+1,0,none⟩=some (.int .i64 x.1)/\((W.setCell ⟨w.heap.size+1+1,0,none⟩ p).setCell ⟨w.heap.size+1+1,1,none⟩ r).cell? ⟨w.heap.size+1,1,none⟩=some (.int .i64 x.2.1)/\((W.setCell ⟨w.heap.size+1+1,0,none⟩ p).setCell ⟨w.heap.size+1+1,1,none⟩ r).cell? ⟨w.heap.size+1,2,none⟩=some (.int .i64 x.2.2)/\((W.setCell ⟨w.heap.size+1+1,0,none⟩ p).setCell ⟨w.heap.size+1+1,1,none⟩ r).cell? ⟨w.heap.size+1,3,none⟩=some (.int .i64 y.1)/\((W.setCell ⟨w.heap.size+1+1,0,none⟩ p).setCell ⟨w.heap.size+1+1,1,none⟩ r).cell? ⟨w.heap.size+1,4,none⟩=some (.int .i64 y.2.1)/\((W.setCell ⟨w.heap.size+1+1,0,none⟩ p).setCell ⟨w.heap.size+1+1,1,none⟩ r).cell? ⟨w.heap.size+1,5,none⟩=some (.int .i64 y.2.2)/\((W.setCell ⟨w.heap.size+1+1,0,none⟩ p).setCell ⟨w.heap.size+1+1,1,none⟩ r).cell? ⟨w.heap.size+1,6,none⟩=some (.int .i64 z.1)/\((W.setCell ⟨w.heap.size+1+1,0,none⟩ p).setCell ⟨w.heap.size+1+1,1,none⟩ r).cell? ⟨w.heap.size+1,7,none⟩=some (.int .i64 z.2.1)/\((W.setCell ⟨w.heap.size+1+1,0,none⟩ p).setCell ⟨w.heap.size+1+1,1,none⟩ r).cell? ⟨w.heap.size+1,8,none⟩=some (.int .i64 z.2.2):=by
  obtain ⟨h0,h1,h2,h3,h4,h5,h6,h7,h8,g0,g1,g2,g3,g4,g5,g6,g7,g8⟩:=twp_cells h
  exact ⟨by go_simp,by go_simp,by go_simp,by go_simp,by go_simp,by go_simp,by go_simp,by go_simp,by go_simp,by go_simp,by go_simp,by go_simp,by go_simp,by go_simp,by go_simp,by go_simp,by go_simp,by go_simp⟩
theorem rbet_no (t u:P9) (D pc:Int) (w:World) (V:Hid (∀ W,Calls Tryz.prog 109 #[p9v t,p9v u,.int .i64 D] W fun e w'=>e=.returned (.int .i64 pc)/\Below W.heap.size W w')) (zz:(pc != 0)=true):Calls Tryz.prog 59 #[p9v t,p9v u,.int .i64 D] w fun e w'=>e=.returned (spr ((0,0),pc))/\Below w.heap.size w w':=by
  obtain ⟨a,b,c⟩:=t
  obtain ⟨x,y,z⟩:=u
  have T0:=hid (twp_new w a b c x y z)
  obtain ⟨⟨k0,k1,k2,k3,k4,k5,k6,k7,k8⟩,u0,u1,u2,u3,u4,u5,u6,u7,u8⟩:((((w.alloc (pnc a b c 77)).alloc (pnc x y z 77)).alloc (.cells #[.int .i64 0,.int .i64 0] 39)).cell? ⟨w.heap.size,0,none⟩=some (.int .i64 a.1)/\(((w.alloc (pnc a b c 77)).alloc (pnc x y z 77)).alloc (.cells #[.int .i64 0,.int .i64 0] 39)).cell? ⟨w.heap.size,1,none⟩=some (.int .i64 a.2.1)/\(((w.alloc (pnc a b c 77)).alloc (pnc x y z 77)).alloc (.cells #[.int .i64 0,.int .i64 0] 39)).cell? ⟨w.heap.size,2,none⟩=some (.int .i64 a.2.2)/\(((w.alloc (pnc a b c 77)).alloc (pnc x y z 77)).alloc (.cells #[.int .i64 0,.int .i64 0] 39)).cell? ⟨w.heap.size,3,none⟩=some (.int .i64 b.1)/\(((w.alloc (pnc a b c 77)).alloc (pnc x y z 77)).alloc (.cells #[.int .i64 0,.int .i64 0] 39)).cell? ⟨w.heap.size,4,none⟩=some (.int .i64 b.2.1)/\(((w.alloc (pnc a b c 77)).alloc (pnc x y z 77)).alloc (.cells #[.int .i64 0,.int .i64 0] 39)).cell? ⟨w.heap.size,5,none⟩=some (.int .i64 b.2.2)/\(((w.alloc (pnc a b c 77)).alloc (pnc x y z 77)).alloc (.cells #[.int .i64 0,.int .i64 0] 39)).cell? ⟨w.heap.size,6,none⟩=some (.int .i64 c.1)/\(((w.alloc (pnc a b c 77)).alloc (pnc x y z 77)).alloc (.cells #[.int .i64 0,.int .i64 0] 39)).cell? ⟨w.heap.size,7,none⟩=some (.int .i64 c.2.1)/\(((w.alloc (pnc a b c 77)).alloc (pnc x y z 77)).alloc (.cells #[.int .i64 0,.int .i64 0] 39)).cell? ⟨w.heap.size,8,none⟩=some (.int .i64 c.2.2))/\(((w.alloc (pnc a b c 77)).alloc (pnc x y z 77)).alloc (.cells #[.int .i64 0,.int .i64 0] 39)).cell? ⟨w.heap.size+1,0,none⟩=some (.int .i64 x.1)/\(((w.alloc (pnc a b c 77)).alloc (pnc x y z 77)).alloc (.cells #[.int .i64 0,.int .i64 0] 39)).cell? ⟨w.heap.size+1,1,none⟩=some (.int .i64 x.2.1)/\(((w.alloc (pnc a b c 77)).alloc (pnc x y z 77)).alloc (.cells #[.int .i64 0,.int .i64 0] 39)).cell? ⟨w.heap.size+1,2,none⟩=some (.int .i64 x.2.2)/\(((w.alloc (pnc a b c 77)).alloc (pnc x y z 77)).alloc (.cells #[.int .i64 0,.int .i64 0] 39)).cell? ⟨w.heap.size+1,3,none⟩=some (.int .i64 y.1)/\(((w.alloc (pnc a b c 77)).alloc (pnc x y z 77)).alloc (.cells #[.int .i64 0,.int .i64 0] 39)).cell? ⟨w.heap.size+1,4,none⟩=some (.int .i64 y.2.1)/\(((w.alloc (pnc a b c 77)).alloc (pnc x y z 77)).alloc (.cells #[.int .i64 0,.int .i64 0] 39)).cell? ⟨w.heap.size+1,5,none⟩=some (.int .i64 y.2.2)/\(((w.alloc (pnc a b c 77)).alloc (pnc x y z 77)).alloc (.cells #[.int .i64 0,.int .i64 0] 39)).cell? ⟨w.heap.size+1,6,none⟩=some (.int .i64 z.1)/\(((w.alloc (pnc a b c 77)).alloc (pnc x y z 77)).alloc (.cells #[.int .i64 0,.int .i64 0] 39)).cell? ⟨w.heap.size+1,7,none⟩=some (.int .i64 z.2.1)/\(((w.alloc (pnc a b c 77)).alloc (pnc x y z 77)).alloc (.cells #[.int .i64 0,.int .i64 0] 39)).cell? ⟨w.heap.size+1,8,none⟩=some (.int .i64 z.2.2):=by
    obtain ⟨h0,h1,h2,h3,h4,h5,h6,h7,h8,h9⟩:=twp_cells T0.out
    exact ⟨⟨h0,h1,h2,h3,h4,h5,h6,h7,h8⟩,h9⟩
  go_enter Tryz.func59,Tryz.ntmps59
  go_wp2_with fail
  refine (V.out _).mono ?_
  rintro e w1 ⟨rfl,hb1⟩
  clear k0 k1 k2 k3 k4 k5 k6 k7 k8 u0 u1 u2 u3 u4 u5 u6 u7 u8
  have T1:=hid (twp_below T0.out hb1)
  clear T0 hb1
  obtain ⟨o0,o1,o2,o3,o4⟩:=T1.out.2.2.1
  go_wp2
  refine bodyPost_ret (v:=spr ((0,0),pc)) (by rw [results_cell_tmp rfl];go_simp) rfl ⟨rfl,?_⟩
  have hB:=T1.out.2.2.2
  (repeat' (first|with_reducible exact hB|(with_reducible refine Below.setCell ?_ (by simp<;>omega) _)))
theorem rbet_yes (t u:P9) (x' y' z':P3) (D sc p r:Int) (w:World) (SH:Hid (wrap64 (2 ^ D.toNat)=sc)) (d0:0<=D) (d3:D<=3) (V:Hid (∀ W,Calls Tryz.prog 109 #[p9v t,p9v u,.int .i64 D] W fun e w'=>e=.returned (.int .i64 0)/\Below W.heap.size W w'))
    (T1':Hid (∀ W,Calls Tryz.prog 111 #[ptv u.1,.int .i64 sc] W fun e w'=>e=.returned (ptv x')/\Below W.heap.size W w')) (T2':Hid (∀ W,Calls Tryz.prog 111 #[ptv u.2.1,.int .i64 sc] W fun e w'=>e=.returned (ptv y')/\Below W.heap.size W w')) (T3':Hid (∀ W,Calls Tryz.prog 111 #[ptv u.2.2,.int .i64 sc] W fun e w'=>e=.returned (ptv z')/\Below W.heap.size W w'))
    (S':Hid (∀ W,Calls Tryz.prog 110 #[p9v t,.int .i64 D,pnv x' y' z'] W fun e w'=>e=.returned (.agg #[.int .i64 p,.int .i64 r])/\Below W.heap.size W w')):Calls Tryz.prog 59 #[p9v t,p9v u,.int .i64 D] w fun e w'=>e=.returned (spr ((p,r),0))/\Below w.heap.size w w':=by
  obtain rfl:=SH.out
  obtain ⟨a,b,c⟩:=t
  obtain ⟨x,y,z⟩:=u
  have T0:=hid (twp_new w a b c x y z)
  obtain ⟨⟨k0,k1,k2,k3,k4,k5,k6,k7,k8⟩,u0,u1,u2,u3,u4,u5,u6,u7,u8⟩:((((w.alloc (pnc a b c 77)).alloc (pnc x y z 77)).alloc (.cells #[.int .i64 0,.int .i64 0] 39)).cell? ⟨w.heap.size,0,none⟩=some (.int .i64 a.1)/\(((w.alloc (pnc a b c 77)).alloc (pnc x y z 77)).alloc (.cells #[.int .i64 0,.int .i64 0] 39)).cell? ⟨w.heap.size,1,none⟩=some (.int .i64 a.2.1)/\(((w.alloc (pnc a b c 77)).alloc (pnc x y z 77)).alloc (.cells #[.int .i64 0,.int .i64 0] 39)).cell? ⟨w.heap.size,2,none⟩=some (.int .i64 a.2.2)/\(((w.alloc (pnc a b c 77)).alloc (pnc x y z 77)).alloc (.cells #[.int .i64 0,.int .i64 0] 39)).cell? ⟨w.heap.size,3,none⟩=some (.int .i64 b.1)/\(((w.alloc (pnc a b c 77)).alloc (pnc x y z 77)).alloc (.cells #[.int .i64 0,.int .i64 0] 39)).cell? ⟨w.heap.size,4,none⟩=some (.int .i64 b.2.1)/\(((w.alloc (pnc a b c 77)).alloc (pnc x y z 77)).alloc (.cells #[.int .i64 0,.int .i64 0] 39)).cell? ⟨w.heap.size,5,none⟩=some (.int .i64 b.2.2)/\(((w.alloc (pnc a b c 77)).alloc (pnc x y z 77)).alloc (.cells #[.int .i64 0,.int .i64 0] 39)).cell? ⟨w.heap.size,6,none⟩=some (.int .i64 c.1)/\(((w.alloc (pnc a b c 77)).alloc (pnc x y z 77)).alloc (.cells #[.int .i64 0,.int .i64 0] 39)).cell? ⟨w.heap.size,7,none⟩=some (.int .i64 c.2.1)/\(((w.alloc (pnc a b c 77)).alloc (pnc x y z 77)).alloc (.cells #[.int .i64 0,.int .i64 0] 39)).cell? ⟨w.heap.size,8,none⟩=some (.int .i64 c.2.2))/\(((w.alloc (pnc a b c 77)).alloc (pnc x y z 77)).alloc (.cells #[.int .i64 0,.int .i64 0] 39)).cell? ⟨w.heap.size+1,0,none⟩=some (.int .i64 x.1)/\(((w.alloc (pnc a b c 77)).alloc (pnc x y z 77)).alloc (.cells #[.int .i64 0,.int .i64 0] 39)).cell? ⟨w.heap.size+1,1,none⟩=some (.int .i64 x.2.1)/\(((w.alloc (pnc a b c 77)).alloc (pnc x y z 77)).alloc (.cells #[.int .i64 0,.int .i64 0] 39)).cell? ⟨w.heap.size+1,2,none⟩=some (.int .i64 x.2.2)/\(((w.alloc (pnc a b c 77)).alloc (pnc x y z 77)).alloc (.cells #[.int .i64 0,.int .i64 0] 39)).cell? ⟨w.heap.size+1,3,none⟩=some (.int .i64 y.1)/\(((w.alloc (pnc a b c 77)).alloc (pnc x y z 77)).alloc (.cells #[.int .i64 0,.int .i64 0] 39)).cell? ⟨w.heap.size+1,4,none⟩=some (.int .i64 y.2.1)/\(((w.alloc (pnc a b c 77)).alloc (pnc x y z 77)).alloc (.cells #[.int .i64 0,.int .i64 0] 39)).cell? ⟨w.heap.size+1,5,none⟩=some (.int .i64 y.2.2)/\(((w.alloc (pnc a b c 77)).alloc (pnc x y z 77)).alloc (.cells #[.int .i64 0,.int .i64 0] 39)).cell? ⟨w.heap.size+1,6,none⟩=some (.int .i64 z.1)/\(((w.alloc (pnc a b c 77)).alloc (pnc x y z 77)).alloc (.cells #[.int .i64 0,.int .i64 0] 39)).cell? ⟨w.heap.size+1,7,none⟩=some (.int .i64 z.2.1)/\(((w.alloc (pnc a b c 77)).alloc (pnc x y z 77)).alloc (.cells #[.int .i64 0,.int .i64 0] 39)).cell? ⟨w.heap.size+1,8,none⟩=some (.int .i64 z.2.2):=by
    obtain ⟨h0,h1,h2,h3,h4,h5,h6,h7,h8,h9⟩:=twp_cells T0.out
    exact ⟨⟨h0,h1,h2,h3,h4,h5,h6,h7,h8⟩,h9⟩
  go_enter Tryz.func59,Tryz.ntmps59
  go_wp2_with fail
  refine (V.out _).mono ?_
  rintro e w1 ⟨rfl,hb1⟩
  clear k0 k1 k2 k3 k4 k5 k6 k7 k8 u0 u1 u2 u3 u4 u5 u6 u7 u8
  have T1:=hid (twp_below T0.out hb1)
  clear T0 hb1
  have i0:TwP w a b c x y z w1.drew:=⟨T1.out.1,T1.out.2.1,T1.out.2.2.1,Below.drew T1.out.2.2.2⟩
  have TA:Hid (∀ W,Calls Tryz.prog 111 #[ptv x,.int .i64 (wrap64 (2 ^ D.toNat))] W fun e w'=>e=.returned (ptv x')/\Below W.heap.size W w'):=T1'
  have TB:Hid (∀ W,Calls Tryz.prog 111 #[ptv y,.int .i64 (wrap64 (2 ^ D.toNat))] W fun e w'=>e=.returned (ptv y')/\Below W.heap.size W w'):=T2'
  have TC:Hid (∀ W,Calls Tryz.prog 111 #[ptv z,.int .i64 (wrap64 (2 ^ D.toNat))] W fun e w'=>e=.returned (ptv z')/\Below W.heap.size W w'):=T3'
  have SA:Hid (∀ W,Calls Tryz.prog 110 #[pnv a b c,.int .i64 D,pnv x' y' z'] W fun e w'=>e=.returned (.agg #[.int .i64 p,.int .i64 r])/\Below W.heap.size W w'):=S'
  clear T1' T2' T3' S' T1
  go_wp2_with fail
  go_region_held3 (fun w'=>w'.cell? ⟨w.heap.size,0,none⟩=some (.int .i64 a.1)/\w'.cell? ⟨w.heap.size,1,none⟩=some (.int .i64 a.2.1)/\w'.cell? ⟨w.heap.size,2,none⟩=some (.int .i64 a.2.2)/\w'.cell? ⟨w.heap.size,3,none⟩=some (.int .i64 b.1)/\w'.cell? ⟨w.heap.size,4,none⟩=some (.int .i64 b.2.1)/\w'.cell? ⟨w.heap.size,5,none⟩=some (.int .i64 b.2.2)/\w'.cell? ⟨w.heap.size,6,none⟩=some (.int .i64 c.1)/\w'.cell? ⟨w.heap.size,7,none⟩=some (.int .i64 c.2.1)/\w'.cell? ⟨w.heap.size,8,none⟩=some (.int .i64 c.2.2)/\w'.cell? ⟨w.heap.size+1,0,none⟩=some (.int .i64 x.1)/\w'.cell? ⟨w.heap.size+1,1,none⟩=some (.int .i64 x.2.1)/\w'.cell? ⟨w.heap.size+1,2,none⟩=some (.int .i64 x.2.2)/\w'.cell? ⟨w.heap.size+1,3,none⟩=some (.int .i64 y.1)/\w'.cell? ⟨w.heap.size+1,4,none⟩=some (.int .i64 y.2.1)/\w'.cell? ⟨w.heap.size+1,5,none⟩=some (.int .i64 y.2.2)/\w'.cell? ⟨w.heap.size+1,6,none⟩=some (.int .i64 z.1)/\w'.cell? ⟨w.heap.size+1,7,none⟩=some (.int .i64 z.2.1)/\w'.cell? ⟨w.heap.size+1,8,none⟩=some (.int .i64 z.2.2))
    (first|(with_reducible exact twp_cells i0)|(with_reducible exact twp_cells i1)|(with_reducible exact twp_cells i2)|(with_reducible exact twp_cells i3)|(with_reducible exact twp_cells i4)|(with_reducible exact twp_set i4 _ _)|fail)
    (first
     |(go_at_call 111;(first|(with_reducible refine (TA.out _).mono ?_)|(with_reducible refine (TB.out _).mono ?_)|(with_reducible refine (TC.out _).mono ?_));rintro e v ⟨rfl,hv⟩;(first|(with_reducible have i1:=twp_below i0 hv)|(with_reducible have i2:=twp_below i1 hv)|(with_reducible have i3:=twp_below i2 hv));clear hv)
     |(go_at_call 110;(with_reducible refine (SA.out _).mono ?_);rintro e v ⟨rfl,hv⟩;have i4:=twp_below i3 hv;have hB:=i4.2.2.2;obtain ⟨o0,o1,o2,o3,o4⟩:=i4.2.2.1;clear hv)
     |fail)
  all_goals
    go_wp2
    refine bodyPost_ret (v:=spr ((p,r),0)) (by rw [results_cell_tmp rfl];go_simp) rfl ⟨rfl,?_⟩
    (repeat' (first|with_reducible exact hB|(with_reducible refine Below.setCell ?_ (by simp<;>omega) _)))
theorem rbet_any (t u:P9) (D:Int) (w:World):Calls Tryz.prog 59 #[p9v t,p9v u,.int .i64 D] w fun e w'=>e=.returned (spr (betF t u D))/\Below w.heap.size w w':=by
  have C1:=fun W=>rpr_any t u D W
  unfold betF
  by_cases h:prc t u D=0
  · rw [if_pos h]
    rw [h] at C1
    obtain ⟨ht,hu,d0,d2⟩:=prc_ok h
    have d3:D<=3:=by omega
    have hU:=pcode_ok9 hu
    obtain ⟨sw,s1,s2⟩:=scl_vals d0 d3
    have hv:=tm9_bd hU s1 s2
    exact rbet_yes t u _ _ _ D (scl D) _ _ w (hid sw) d0 d3 (hid C1)
      (hid fun W=>rtimes_any (scl D) u.1 W (hv.1.mono (by decide))) (hid fun W=>rtimes_any (scl D) u.2.1 W (hv.2.1.mono (by decide))) (hid fun W=>rtimes_any (scl D) u.2.2 W (hv.2.2.mono (by decide)))
      (hid fun W=>rsee_any t (tm9 (scl D) u) D W ht hv d0 d3)
  · rw [if_neg h]
    exact rbet_no t u D _ w (hid C1) (bne_iff_ne.2 h)
theorem step_own9 {P:Program} {ops:Array Oper} {o:Oper} {a:Act} {w:World} {K:Act->World->Prop} {Q:Exit->Act->World->Prop} {E:Prop} (hg:o.guard=none) (s x:Operand) (t:TypeId)
    (ho:o.op=.call { callee:=.builtin .append,args:=#[s,x],argTypes:=#[t,t] })
    (base:Nat) (e:TypeId) (i:TypeInfo) (z:Value) (size bytes:Nat) (ht:P.underlying t=some (.slice e)) (hi:P.info? e=some i) (hz:i.zero=some z)
    (hsize:i.size=size) (hby:i.bytes=bytes) (hzs:z.cells.size=size) (hsz:0<size)
    (v:Value) (n:Nat) (xs:List Value) (hs:a.eval s=v) (hown:w.ownsRow base e size v n xs)
    (ad:Addr) (m c:Nat) (hx:a.eval x=.slice (some ad) m c) (news:List Value) (hnews:∀ j u,news[j]?=some u->w.cell? (ad.add j)=some u) (hl:news.length=m*size) (h1:∀ u ∈ news,u.oneCell'=true)
    (h63:n+m<=maxLen) (hbytes:(n+m)*bytes<=140737488355328) (hbase:base<=w.heap.size)
    (h:∀ v' w',w'.ownsRow base e size v' (n+m) (xs ++ news)->w.grownBy w' v.ownBlock->K (a.put o.dst v') w'):if Region.wanted o (yielded ops a.tmps)=true then Oper.wp P o a w K Q else E:=by
  have hw:Region.wanted o (yielded ops a.tmps)=true:=by simp [Region.wanted,hg]
  rw [if_pos hw]
  exact wp_append_own w s x t ho base e i z size bytes ht hi hz hsize hby hzs hsz v n xs hs hown ad m c news hx hl hnews h1 h63 hbytes hbase fun v' w' h2 h3 _=>h v' w' h2 h3
theorem balloc2 {M:Nat} {w w1:World} (h:Below M w w1) (o:Obj) (hM:M<=w1.heap.size):Below M w (w1.alloc o):=h.alloc hM o
def mutG (t:P9) (D:Int) (q:P9):Sp.R:=(vSee t D q (rmF t D),0)
def mutL (t u:P9) (D:Int):List (Int × Int):=gis (mutG t D) (ptk u D) (ptn D)
def mutF (t u:P9) (D:Int):Sp.R:=if prc t u D=0 then mnR8 (fun k=>((mutL t u D).getD k (0,0)).1) (fun k=>((mutL t u D).getD k (0,0)).2) (ptn D) else ((0,0),prc t u D)
theorem mu_keep {w w2 X:World} {a b c x y z:P3} {g off n k:Nat} {L:Nat->P9} {q:P9} (T:TwP w a b c x y z w2) (R:RowP w2 g off n L) (hk:k<n) (hq:L k=q) (hb:Below w2.heap.size w2 X):X.cell? ⟨w.heap.size,0,none⟩=some (.int .i64 a.1)/\X.cell? ⟨w.heap.size,1,none⟩=some (.int .i64 a.2.1)/\X.cell? ⟨w.heap.size,2,none⟩=some (.int .i64 a.2.2)/\X.cell? ⟨w.heap.size,3,none⟩=some (.int .i64 b.1)/\X.cell? ⟨w.heap.size,4,none⟩=some (.int .i64 b.2.1)/\X.cell? ⟨w.heap.size,5,none⟩=some (.int .i64 b.2.2)/\X.cell? ⟨w.heap.size,6,none⟩=some (.int .i64 c.1)/\X.cell? ⟨w.heap.size,7,none⟩=some (.int .i64 c.2.1)/\X.cell? ⟨w.heap.size,8,none⟩=some (.int .i64 c.2.2)/\X.cell? ⟨g,off+k*9,none⟩=some (.int .i64 q.1.1)/\X.cell? ⟨g,off+k*9+1,none⟩=some (.int .i64 q.1.2.1)/\X.cell? ⟨g,off+k*9+1+1,none⟩=some (.int .i64 q.1.2.2)/\X.cell? ⟨g,off+k*9+1+1+1,none⟩=some (.int .i64 q.2.1.1)/\X.cell? ⟨g,off+k*9+1+1+1+1,none⟩=some (.int .i64 q.2.1.2.1)/\X.cell? ⟨g,off+k*9+1+1+1+1+1,none⟩=some (.int .i64 q.2.1.2.2)/\X.cell? ⟨g,off+k*9+1+1+1+1+1+1,none⟩=some (.int .i64 q.2.2.1)/\X.cell? ⟨g,off+k*9+1+1+1+1+1+1+1,none⟩=some (.int .i64 q.2.2.2.1)/\X.cell? ⟨g,off+k*9+1+1+1+1+1+1+1+1,none⟩=some (.int .i64 q.2.2.2.2):=by
  obtain ⟨⟨k0,k1,k2,k3,k4,k5,k6,k7,k8,k9⟩,_⟩:=twp_below T hb
  have r:=(rowP_in R hb R.1).2 k hk
  rw [hq] at r
  exact ⟨k0,k1,k2,k3,k4,k5,k6,k7,k8,r⟩
theorem rmut_no (t u:P9) (D pc:Int) (w:World) (V:Hid (∀ W,Calls Tryz.prog 109 #[p9v t,p9v u,.int .i64 D] W fun e w'=>e=.returned (.int .i64 pc)/\Below W.heap.size W w')) (zz:(pc != 0)=true):Calls Tryz.prog 64 #[p9v t,p9v u,.int .i64 D] w fun e w'=>e=.returned (spr ((0,0),pc))/\Below w.heap.size w w':=by
  obtain ⟨a,b,c⟩:=t
  obtain ⟨x,y,z⟩:=u
  have T0:=hid (twp_new w a b c x y z)
  obtain ⟨⟨k0,k1,k2,k3,k4,k5,k6,k7,k8⟩,u0,u1,u2,u3,u4,u5,u6,u7,u8⟩:((((w.alloc (pnc a b c 77)).alloc (pnc x y z 77)).alloc (.cells #[.int .i64 0,.int .i64 0] 39)).cell? ⟨w.heap.size,0,none⟩=some (.int .i64 a.1)/\(((w.alloc (pnc a b c 77)).alloc (pnc x y z 77)).alloc (.cells #[.int .i64 0,.int .i64 0] 39)).cell? ⟨w.heap.size,1,none⟩=some (.int .i64 a.2.1)/\(((w.alloc (pnc a b c 77)).alloc (pnc x y z 77)).alloc (.cells #[.int .i64 0,.int .i64 0] 39)).cell? ⟨w.heap.size,2,none⟩=some (.int .i64 a.2.2)/\(((w.alloc (pnc a b c 77)).alloc (pnc x y z 77)).alloc (.cells #[.int .i64 0,.int .i64 0] 39)).cell? ⟨w.heap.size,3,none⟩=some (.int .i64 b.1)/\(((w.alloc (pnc a b c 77)).alloc (pnc x y z 77)).alloc (.cells #[.int .i64 0,.int .i64 0] 39)).cell? ⟨w.heap.size,4,none⟩=some (.int .i64 b.2.1)/\(((w.alloc (pnc a b c 77)).alloc (pnc x y z 77)).alloc (.cells #[.int .i64 0,.int .i64 0] 39)).cell? ⟨w.heap.size,5,none⟩=some (.int .i64 b.2.2)/\(((w.alloc (pnc a b c 77)).alloc (pnc x y z 77)).alloc (.cells #[.int .i64 0,.int .i64 0] 39)).cell? ⟨w.heap.size,6,none⟩=some (.int .i64 c.1)/\(((w.alloc (pnc a b c 77)).alloc (pnc x y z 77)).alloc (.cells #[.int .i64 0,.int .i64 0] 39)).cell? ⟨w.heap.size,7,none⟩=some (.int .i64 c.2.1)/\(((w.alloc (pnc a b c 77)).alloc (pnc x y z 77)).alloc (.cells #[.int .i64 0,.int .i64 0] 39)).cell? ⟨w.heap.size,8,none⟩=some (.int .i64 c.2.2))/\(((w.alloc (pnc a b c 77)).alloc (pnc x y z 77)).alloc (.cells #[.int .i64 0,.int .i64 0] 39)).cell? ⟨w.heap.size+1,0,none⟩=some (.int .i64 x.1)/\(((w.alloc (pnc a b c 77)).alloc (pnc x y z 77)).alloc (.cells #[.int .i64 0,.int .i64 0] 39)).cell? ⟨w.heap.size+1,1,none⟩=some (.int .i64 x.2.1)/\(((w.alloc (pnc a b c 77)).alloc (pnc x y z 77)).alloc (.cells #[.int .i64 0,.int .i64 0] 39)).cell? ⟨w.heap.size+1,2,none⟩=some (.int .i64 x.2.2)/\(((w.alloc (pnc a b c 77)).alloc (pnc x y z 77)).alloc (.cells #[.int .i64 0,.int .i64 0] 39)).cell? ⟨w.heap.size+1,3,none⟩=some (.int .i64 y.1)/\(((w.alloc (pnc a b c 77)).alloc (pnc x y z 77)).alloc (.cells #[.int .i64 0,.int .i64 0] 39)).cell? ⟨w.heap.size+1,4,none⟩=some (.int .i64 y.2.1)/\(((w.alloc (pnc a b c 77)).alloc (pnc x y z 77)).alloc (.cells #[.int .i64 0,.int .i64 0] 39)).cell? ⟨w.heap.size+1,5,none⟩=some (.int .i64 y.2.2)/\(((w.alloc (pnc a b c 77)).alloc (pnc x y z 77)).alloc (.cells #[.int .i64 0,.int .i64 0] 39)).cell? ⟨w.heap.size+1,6,none⟩=some (.int .i64 z.1)/\(((w.alloc (pnc a b c 77)).alloc (pnc x y z 77)).alloc (.cells #[.int .i64 0,.int .i64 0] 39)).cell? ⟨w.heap.size+1,7,none⟩=some (.int .i64 z.2.1)/\(((w.alloc (pnc a b c 77)).alloc (pnc x y z 77)).alloc (.cells #[.int .i64 0,.int .i64 0] 39)).cell? ⟨w.heap.size+1,8,none⟩=some (.int .i64 z.2.2):=by
    obtain ⟨h0,h1,h2,h3,h4,h5,h6,h7,h8,h9⟩:=twp_cells T0.out
    exact ⟨⟨h0,h1,h2,h3,h4,h5,h6,h7,h8⟩,h9⟩
  go_enter Tryz.func64,Tryz.ntmps64
  go_wp2_with fail
  refine (V.out _).mono ?_
  rintro e w1 ⟨rfl,hb1⟩
  clear k0 k1 k2 k3 k4 k5 k6 k7 k8 u0 u1 u2 u3 u4 u5 u6 u7 u8
  have T1:=hid (twp_below T0.out hb1)
  clear T0 hb1
  obtain ⟨o0,o1,o2,o3,o4⟩:=T1.out.2.2.1
  go_wp2
  refine bodyPost_ret (v:=spr ((0,0),pc)) (by rw [results_cell_tmp rfl];go_simp) rfl ⟨rfl,?_⟩
  have hB:=T1.out.2.2.2
  (repeat' (first|with_reducible exact hB|(with_reducible refine Below.setCell ?_ (by simp<;>omega) _)))
theorem rmut_yes (t u:P9) (D:Int) (n:Nat) (G:P9->Sp.R) (L:Nat->P9) (res:Sp.R) (w:World) (n0:0<n) (n1:n<=64) (V:Hid (∀ W,Calls Tryz.prog 109 #[p9v t,p9v u,.int .i64 D] W fun e w'=>e=.returned (.int .i64 0)/\Below W.heap.size W w'))
    (CC:Hid (∀ W,Calls Tryz.prog 118 #[p9v u,.int .i64 D] W fun e w'=>∃ g off cap,e=.returned (.slice (some ⟨g,off,none⟩) n cap)/\RowP w' g off n L/\Below W.heap.size W w'))
    (S':Hid (∀ k,k<n->∀ W,Calls Tryz.prog 110 #[p9v t,.int .i64 D,p9v (L k)] W fun e w'=>e=.returned (.agg #[.int .i64 (G (L k)).1.1,.int .i64 (G (L k)).1.2])/\Below W.heap.size W w'))
    (M':Hid (∀ W base v,W.ownsRow base 39 2 v n (svs (gis G L n))->Calls Tryz.prog 119 #[v] W fun e w'=>e=.returned (spr res)/\Below W.heap.size W w')):Calls Tryz.prog 64 #[p9v t,p9v u,.int .i64 D] w fun e w'=>e=.returned (spr res)/\Below w.heap.size w w':=by
  obtain ⟨i0,hi,hz0,hz1,hz2⟩:=info_parts infoSp8
  have HI:=hid hi
  have HZ0:=hid hz0
  have HZ1:=hid hz1
  have HZ2:=hid hz2
  clear hi hz0 hz1 hz2
  obtain ⟨a,b,c⟩:=t
  obtain ⟨x,y,z⟩:=u
  have T0:=hid (twp_new w a b c x y z)
  obtain ⟨⟨k0,k1,k2,k3,k4,k5,k6,k7,k8⟩,u0,u1,u2,u3,u4,u5,u6,u7,u8⟩:((((w.alloc (pnc a b c 77)).alloc (pnc x y z 77)).alloc (.cells #[.int .i64 0,.int .i64 0] 39)).cell? ⟨w.heap.size,0,none⟩=some (.int .i64 a.1)/\(((w.alloc (pnc a b c 77)).alloc (pnc x y z 77)).alloc (.cells #[.int .i64 0,.int .i64 0] 39)).cell? ⟨w.heap.size,1,none⟩=some (.int .i64 a.2.1)/\(((w.alloc (pnc a b c 77)).alloc (pnc x y z 77)).alloc (.cells #[.int .i64 0,.int .i64 0] 39)).cell? ⟨w.heap.size,2,none⟩=some (.int .i64 a.2.2)/\(((w.alloc (pnc a b c 77)).alloc (pnc x y z 77)).alloc (.cells #[.int .i64 0,.int .i64 0] 39)).cell? ⟨w.heap.size,3,none⟩=some (.int .i64 b.1)/\(((w.alloc (pnc a b c 77)).alloc (pnc x y z 77)).alloc (.cells #[.int .i64 0,.int .i64 0] 39)).cell? ⟨w.heap.size,4,none⟩=some (.int .i64 b.2.1)/\(((w.alloc (pnc a b c 77)).alloc (pnc x y z 77)).alloc (.cells #[.int .i64 0,.int .i64 0] 39)).cell? ⟨w.heap.size,5,none⟩=some (.int .i64 b.2.2)/\(((w.alloc (pnc a b c 77)).alloc (pnc x y z 77)).alloc (.cells #[.int .i64 0,.int .i64 0] 39)).cell? ⟨w.heap.size,6,none⟩=some (.int .i64 c.1)/\(((w.alloc (pnc a b c 77)).alloc (pnc x y z 77)).alloc (.cells #[.int .i64 0,.int .i64 0] 39)).cell? ⟨w.heap.size,7,none⟩=some (.int .i64 c.2.1)/\(((w.alloc (pnc a b c 77)).alloc (pnc x y z 77)).alloc (.cells #[.int .i64 0,.int .i64 0] 39)).cell? ⟨w.heap.size,8,none⟩=some (.int .i64 c.2.2))/\(((w.alloc (pnc a b c 77)).alloc (pnc x y z 77)).alloc (.cells #[.int .i64 0,.int .i64 0] 39)).cell? ⟨w.heap.size+1,0,none⟩=some (.int .i64 x.1)/\(((w.alloc (pnc a b c 77)).alloc (pnc x y z 77)).alloc (.cells #[.int .i64 0,.int .i64 0] 39)).cell? ⟨w.heap.size+1,1,none⟩=some (.int .i64 x.2.1)/\(((w.alloc (pnc a b c 77)).alloc (pnc x y z 77)).alloc (.cells #[.int .i64 0,.int .i64 0] 39)).cell? ⟨w.heap.size+1,2,none⟩=some (.int .i64 x.2.2)/\(((w.alloc (pnc a b c 77)).alloc (pnc x y z 77)).alloc (.cells #[.int .i64 0,.int .i64 0] 39)).cell? ⟨w.heap.size+1,3,none⟩=some (.int .i64 y.1)/\(((w.alloc (pnc a b c 77)).alloc (pnc x y z 77)).alloc (.cells #[.int .i64 0,.int .i64 0] 39)).cell? ⟨w.heap.size+1,4,none⟩=some (.int .i64 y.2.1)/\(((w.alloc (pnc a b c 77)).alloc (pnc x y z 77)).alloc (.cells #[.int .i64 0,.int .i64 0] 39)).cell? ⟨w.heap.size+1,5,none⟩=some (.int .i64 y.2.2)/\(((w.alloc (pnc a b c 77)).alloc (pnc x y z 77)).alloc (.cells #[.int .i64 0,.int .i64 0] 39)).cell? ⟨w.heap.size+1,6,none⟩=some (.int .i64 z.1)/\(((w.alloc (pnc a b c 77)).alloc (pnc x y z 77)).alloc (.cells #[.int .i64 0,.int .i64 0] 39)).cell? ⟨w.heap.size+1,7,none⟩=some (.int .i64 z.2.1)/\(((w.alloc (pnc a b c 77)).alloc (pnc x y z 77)).alloc (.cells #[.int .i64 0,.int .i64 0] 39)).cell? ⟨w.heap.size+1,8,none⟩=some (.int .i64 z.2.2):=by
    obtain ⟨h0,h1,h2,h3,h4,h5,h6,h7,h8,h9⟩:=twp_cells T0.out
    exact ⟨⟨h0,h1,h2,h3,h4,h5,h6,h7,h8⟩,h9⟩
  go_enter Tryz.func64,Tryz.ntmps64
  go_wp2_with fail
  refine (V.out _).mono ?_
  rintro e w1 ⟨rfl,hb1⟩
  clear k0 k1 k2 k3 k4 k5 k6 k7 k8 u0 u1 u2 u3 u4 u5 u6 u7 u8
  have T1:=hid (twp_below T0.out hb1)
  clear T0 hb1
  obtain ⟨u0,u1,u2,u3,u4,u5,u6,u7,u8,u9⟩:=T1.out.2.1
  go_wp2_with fail
  refine (CC.out _).mono ?_
  rintro e w2 ⟨g,off,cap,rfl,hrow,hb2⟩
  have T2:=hid (twp_below T1.out hb2)
  have R2:=hid hrow
  clear T1 hb2 hrow u0 u1 u2 u3 u4 u5 u6 u7 u8 u9
  go_wp2_with fail
  go_loopw [9,11] (fun sv kv wr=>∃ k:Nat,k<=n/\kv=.int .i64 k/\wr.ownsRow w2.heap.size 39 2 sv k (svs (gis G L k))/\Below w2.heap.size w2 wr) (fun _ kv _=>n - (intOf kv).toNat)
  case atStart=>exact ⟨0,Nat.zero_le _,rfl,World.ownsRow_nil _ _ _ _,Below.refl _ _⟩
  case round =>
    obtain ⟨k,hk,rfl,hrow,hbb⟩:=hrel
    have ROW:=hid hrow
    have B3:=hid hbb
    clear hrow hbb
    by_cases hlt:k<n
    · have hk1:(k:Int)<(n:Int):=by omega
      have hk0:0<=(k:Int):=by omega
      have SK:=S'.out k hlt
      have GS:=hid (show gis G L (k+1)=gis G L k ++ [(G (L k)).1] from rfl)
      obtain ⟨q,hq⟩:∃ q,L k=q:=⟨_,rfl⟩
      have KEEP:=hid (fun (X:World) (hb:Below w2.heap.size w2 X)=>mu_keep T2.out R2.out hlt hq hb)
      rw [hq] at SK GS
      obtain ⟨⟨⟨p,r⟩,pr2⟩,hgr⟩:∃ gr,G q=gr:=⟨_,rfl⟩
      rw [hgr] at SK GS
      have SA:Hid (∀ W,Calls Tryz.prog 110 #[pnv a b c,.int .i64 D,p9w q] W fun e w'=>e=.returned (.agg #[.int .i64 p,.int .i64 r])/\Below W.heap.size W w'):=hid SK
      have sz2:=B3.out.size
      have b0:=hid (show Below w2.heap.size w2 wr.drew from Below.drew B3.out)
      have rz0:=hid (show wr.drew.ownsRow w2.heap.size 39 2 _ k (svs (gis G L k)) from ROW.out)
      clear SK hq hgr
      go_wp2_with fail
      go_region_held3 (fun w'=>w'.cell? ⟨w.heap.size,0,none⟩=some (.int .i64 a.1)/\w'.cell? ⟨w.heap.size,1,none⟩=some (.int .i64 a.2.1)/\w'.cell? ⟨w.heap.size,2,none⟩=some (.int .i64 a.2.2)/\w'.cell? ⟨w.heap.size,3,none⟩=some (.int .i64 b.1)/\w'.cell? ⟨w.heap.size,4,none⟩=some (.int .i64 b.2.1)/\w'.cell? ⟨w.heap.size,5,none⟩=some (.int .i64 b.2.2)/\w'.cell? ⟨w.heap.size,6,none⟩=some (.int .i64 c.1)/\w'.cell? ⟨w.heap.size,7,none⟩=some (.int .i64 c.2.1)/\w'.cell? ⟨w.heap.size,8,none⟩=some (.int .i64 c.2.2)/\w'.cell? ⟨g,off+k*9,none⟩=some (.int .i64 q.1.1)/\w'.cell? ⟨g,off+k*9+1,none⟩=some (.int .i64 q.1.2.1)/\w'.cell? ⟨g,off+k*9+1+1,none⟩=some (.int .i64 q.1.2.2)/\w'.cell? ⟨g,off+k*9+1+1+1,none⟩=some (.int .i64 q.2.1.1)/\w'.cell? ⟨g,off+k*9+1+1+1+1,none⟩=some (.int .i64 q.2.1.2.1)/\w'.cell? ⟨g,off+k*9+1+1+1+1+1,none⟩=some (.int .i64 q.2.1.2.2)/\w'.cell? ⟨g,off+k*9+1+1+1+1+1+1,none⟩=some (.int .i64 q.2.2.1)/\w'.cell? ⟨g,off+k*9+1+1+1+1+1+1+1,none⟩=some (.int .i64 q.2.2.2.1)/\w'.cell? ⟨g,off+k*9+1+1+1+1+1+1+1+1,none⟩=some (.int .i64 q.2.2.2.2))
        (first|(with_reducible exact KEEP.out _ b0.out)|(with_reducible exact KEEP.out _ b1.out)|(with_reducible exact KEEP.out _ b2.out)|(with_reducible exact KEEP.out _ b5.out)|fail)
        (first|(go_at_call 110;(with_reducible refine (SA.out _).mono ?_);rintro e v1 ⟨rfl,hv1⟩;have b1:=hid (b0.out.trans (hv1.mono sz2));have b2:=hid (balloc2 b1.out (.cells #[.int .i64 p,.int .i64 r] 39) (Nat.le_trans sz2 hv1.size));have rz1:=hid (own_below9 rz0.out hv1);have sz3:=Nat.le_trans sz2 hv1.size)|(refine step_own9 rfl (.tmp 29) (.tmp 37) 34 rfl w2.heap.size 39 i0 (.agg #[.int .i64 0,.int .i64 0]) 2 16 Tryz.underlying34 HI.out HZ0.out HZ1.out HZ2.out rfl (by decide) _ k (svs (gis G L k)) (by simp [Act.eval]) (World.ownsRow.alloc rz1.out _) ⟨v1.heap.size,0,none⟩ 1 1 (by simp [Act.eval]) [.int .i64 p,.int .i64 r] (sp2_new _ _ _ _) rfl (by intro u hu;simp at hu;rcases hu with rfl|rfl<;>rfl) (by unfold maxLen;omega) (by omega) (by simp;omega) ?_;intro v' w5 hown' hgrow;have OW5:=hid hown';have b5:=hid (b2.out.grown hgrow (by simp;omega) (fun gg hg=>(rz1.out.lt gg hg).1));clear hown' hgrow)|fail)
      all_goals
        go_wp2
        go_roundw
        case rel=>exact ⟨k+1,by omega,by go_num,by rw [GS.out,← svs_snoc];exact OW5.out,b5.out⟩
        case measure=>simp [intOf];omega
    · obtain rfl:k=n:=by omega
      have T3:=hid (twp_below T2.out B3.out)
      go_wp2_with fail
      refine (M'.out _ _ _ ROW.out).mono ?_
      rintro e w6 ⟨rfl,hb6⟩
      have T4:=twp_below T3.out hb6
      have hB:=T4.2.2.2
      obtain ⟨o0,o1,o2,o3,o4⟩:=T4.2.2.1
      clear T3 T2 T4
      go_wp2
      refine bodyPost_ret (v:=spr res) (by rw [results_cell_tmp rfl];go_simp) rfl ⟨rfl,?_⟩
      (repeat' (first|with_reducible exact hB|(with_reducible refine Below.setCell ?_ (by simp<;>omega) _)))
theorem rmut_any (t u:P9) (D:Int) (w:World):Calls Tryz.prog 64 #[p9v t,p9v u,.int .i64 D] w fun e w'=>e=.returned (spr (mutF t u D))/\Below w.heap.size w w':=by
  have C1:=fun W=>rpr_any t u D W
  unfold mutF
  by_cases h:prc t u D=0
  · rw [if_pos h]
    rw [h] at C1
    obtain ⟨ht,hu,d0,d2⟩:=prc_ok h
    have d3:D<=3:=by omega
    have hU:=pcode_ok9 hu
    obtain ⟨n0,n1⟩:=ptn_vals d0 d3
    exact rmut_yes t u D (ptn D) (mutG t D) (ptk u D) _ w n0 n1 (hid C1)
      (hid fun W=>(rcut_any D.toNat D u W (by omega) (by omega) hU).mono (by
        rintro e w' ⟨v,rfl,ho,hb⟩
        obtain ⟨g,off,cap,rfl,hr⟩:=rparts_row ho
        exact ⟨g,off,cap,rfl,hr,hb⟩))
      (hid fun k hk W=>rsee_any t (ptk u D k) D W ht (ptk_bd9 hU d0 d3 hk) d0 d3)
      (hid fun W base v ho=>by
        rcases ho.2 with ⟨_,h'⟩|⟨g,cap,cur,rfl,_⟩
        · omega
        · exact rmean8_any g 0 (ptn D) cap _ _ W (row_of8 ho (gis_len _ _ _)) (by omega))
  · rw [if_neg h]
    exact rmut_no t u D _ w (hid C1) (bne_iff_ne.2 h)
end Go.Proofs.YtbcjiigmbcfkeaaGreat
