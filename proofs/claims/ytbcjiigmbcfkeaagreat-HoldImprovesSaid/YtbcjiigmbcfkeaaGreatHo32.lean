import Derived.Test.YtbcjiigmbcfkeaaGreatHo12
namespace Go.Proofs.YtbcjiigmbcfkeaaGreat
open Go.Lib (hid)
set_option maxRecDepth 100000
set_option maxHeartbeats 2000000
open Go.ChangeShapes Go.WideShapes Go.RowKit
open Sh
attribute [local go_sem 1000000] run_min_mn run_max_mx
theorem sm_all0 {c:Nat->Int}:∀ {n:Nat},(∀ i,i<n->0<=c i)->sm c n=0->∀ i,i<n->c i=0
 |0,_,_,i,hi=>absurd hi (Nat.not_lt_zero i)
 |n+1,h,z,i,hi=>by
    have a:=sm_nn (f:=c) (n:=n) fun j hj=>h j (by omega)
    have b:=h n (by omega)
    have e:sm c (n+1)=sm c n+c n:=rfl
    by_cases k:i=n
    · subst k;omega
    · exact sm_all0 (n:=n) (fun j hj=>h j (by omega)) (by omega) i (by omega)
theorem wsm_0 {f c:Nat->Int}:∀ {n:Nat},(∀ i,i<n->c i=0)->wsm f c n=0
 |0,_=>rfl
 |n+1,h=>by
    show wsm f c n+f n*c n=0
    rw [wsm_0 fun j hj=>h j (by omega),h n (by omega),Int.mul_zero]
    rfl
theorem mxl_0 {f:Nat->Int}:∀ {n:Nat},(∀ i,i<n->f i=0)->mxl f n=0
 |0,_=>rfl
 |n+1,h=>by
    show Sp.mx (mxl f n) (f n)=0
    rw [mxl_0 fun j hj=>h j (by omega),h n (by omega)]
    rfl
theorem q7quo_no (n d:Int) (w:World) (h:¬ (-1099511627776<=n/\n<=1099511627776/\-1099511627776<=d/\d<=1099511627776/\d ≠ 0)) :
    Calls Tryz.prog 120 #[.int .i64 n,.int .i64 d] w fun e w'=>e=.returned (spr ((0,0),1))/\Below w.heap.size w w':=by
  rcases Int.lt_or_le n (-1099511627776) with a1|a1
  · clear h
    go_enter Tryz.func120,Tryz.ntmps120
    go_wp2
    refine bodyPost_ret (v:=spr ((0,0),1)) (by rw [results_cell_tmp rfl];go_simp) rfl ⟨rfl,?_⟩
    (repeat' (first|exact Below.refl _ _|refine Below.setCell ?_ (by simp<;>omega) _|refine balloc ?_ _|refine Below.drew ?_|refine bdrewN ?_ _))
  rcases Int.lt_or_le 1099511627776 n with a2|a2
  · clear h
    go_enter Tryz.func120,Tryz.ntmps120
    go_wp2
    refine bodyPost_ret (v:=spr ((0,0),1)) (by rw [results_cell_tmp rfl];go_simp) rfl ⟨rfl,?_⟩
    (repeat' (first|exact Below.refl _ _|refine Below.setCell ?_ (by simp<;>omega) _|refine balloc ?_ _|refine Below.drew ?_|refine bdrewN ?_ _))
  rcases Int.lt_or_le d (-1099511627776) with a3|a3
  · clear h
    go_enter Tryz.func120,Tryz.ntmps120
    go_wp2
    refine bodyPost_ret (v:=spr ((0,0),1)) (by rw [results_cell_tmp rfl];go_simp) rfl ⟨rfl,?_⟩
    (repeat' (first|exact Below.refl _ _|refine Below.setCell ?_ (by simp<;>omega) _|refine balloc ?_ _|refine Below.drew ?_|refine bdrewN ?_ _))
  rcases Int.lt_or_le 1099511627776 d with a4|a4
  · clear h
    go_enter Tryz.func120,Tryz.ntmps120
    go_wp2
    refine bodyPost_ret (v:=spr ((0,0),1)) (by rw [results_cell_tmp rfl];go_simp) rfl ⟨rfl,?_⟩
    (repeat' (first|exact Below.refl _ _|refine Below.setCell ?_ (by simp<;>omega) _|refine balloc ?_ _|refine Below.drew ?_|refine bdrewN ?_ _))
  · obtain rfl:d=0:=by omega
    clear h
    go_enter Tryz.func120,Tryz.ntmps120
    go_wp2
    refine bodyPost_ret (v:=spr ((0,0),1)) (by rw [results_cell_tmp rfl];go_simp) rfl ⟨rfl,?_⟩
    (repeat' (first|exact Below.refl _ _|refine Below.setCell ?_ (by simp<;>omega) _|refine balloc ?_ _|refine Below.drew ?_|refine bdrewN ?_ _))
theorem hlo_zero (q cap n:Nat) (L H:Nat->Int) (w:World) (rl:Row w q 0 n L H) (hn:n<=96) (h1:mxl H n=0) :
    Calls Tryz.prog 65 #[.int .i64 0,.slice (some ⟨q,0,none⟩) n cap] w fun e w'=>e=.returned (.tuple #[.int .i64 0,.int .i64 1])/\Below w.heap.size w w':=by
  have hn':(n:Int)<=96:=by omega
  have RL:=hid rl
  have Z:=hid h1
  have QU:=hid (fun W=>q7quo_no 0 0 W (by omega))
  clear rl h1
  go_enter Tryz.func65,Tryz.ntmps65
  go_wp2
  go_loopw [6,13] (fun sv kv wr=>∃ k:Nat,k<=n/\kv=.int .i64 k/\sv=.int .i64 (mxl H k)/\Below w.heap.size w wr) (fun _ kv _=>n - (intOf kv).toNat)
  case atStart=>exact ⟨0,Nat.zero_le _,rfl,rfl,Below.refl _ _⟩
  case round =>
    obtain ⟨k,hk,rfl,rfl,bb⟩:=hrel
    have BB:=hid bb
    by_cases hlt:k<n
    · have hk1:(k:Int)<(n:Int):=by omega
      have r0:=row_below RL.out bb
      obtain ⟨c0,c1⟩:=r0.2 k hlt
      rw [Nat.zero_add] at c0 c1
      have e0:=r0.1
      have E1:=hid (show mxl H (k+1)=Sp.mx (mxl H k) (H k) from rfl)
      clear r0 bb
      generalize mxl H k=p at *
      generalize L k=l at *
      generalize H k=h at *
      go_wp2
      go_roundw
      case rel=>exact ⟨k+1,by omega,by go_num,by rw [E1.out],balloc BB.out _⟩
      case measure=>simp [intOf];omega
    · obtain rfl:k=n:=by omega
      have z:=Z.out
      rw [z]
      clear bb
      go_wp2_with fail
      with_reducible refine (QU.out _).mono ?_
      rintro e w3 ⟨rfl,hb3⟩
      have hB:=bstep BB.out hb3
      clear hb3 QU
      go_wp2
      go_ret2
      exact ⟨rfl,by (repeat' (first|with_reducible exact hB|with_reducible refine Below.drew ?_|(with_reducible refine balloc ?_ _)|(with_reducible refine Below.setCell ?_ (by simp<;>omega) _)))⟩
theorem hbd_zero (g1 c1 g2 c2 b1 off1 cap1 n:Nat) (r:Int) (pl ph:Nat->Int) (w:World) (SU:Hid (∀ W,Below w.heap.size w W->Calls Tryz.prog 51 #[.slice (some ⟨b1,off1,none⟩) n cap1] W fun e w'=>e=.returned (.int .i64 0)/\Below W.heap.size W w')) (PT:Hid (∀ W,Below w.heap.size w W->Calls Tryz.prog 56 #[.slice (some ⟨g1,0,none⟩) n c1,.slice (some ⟨b1,off1,none⟩) n cap1] W fun e w'=>∃ q cap,e=.returned (.tuple #[.slice (some ⟨q,0,none⟩) n cap,.int .i64 0])/\Row w' q 0 n pl ph/\Below W.heap.size W w')) (LO:Hid (∀ q cap W,Row W q 0 n pl ph->Calls Tryz.prog 65 #[.int .i64 0,.slice (some ⟨q,0,none⟩) n cap] W fun e w'=>e=.returned (.tuple #[.int .i64 0,.int .i64 1])/\Below W.heap.size W w')) :
    Calls Tryz.prog 77 #[bdv g1 c1 g2 c2 n r,.slice (some ⟨b1,off1,none⟩) n cap1] w fun e w'=>e=.returned (spr ((0,0),1))/\Below w.heap.size w w':=by
  have M0:=hid (ow3_alloc (ow3_new w (.slice (some ⟨g1,0,none⟩) n c1) (.slice (some ⟨g2,0,none⟩) n c2) (.int .i64 r) 91) (.cells #[.int .i64 0,.int .i64 0] 39))
  have R0:=hid (pair_new (w.alloc (.cells #[.slice (some ⟨g1,0,none⟩) n c1,.slice (some ⟨g2,0,none⟩) n c2,.int .i64 r] 91)) 0 0 39)
  simp only [World.size_alloc] at R0
  have B0:=hid (show Below w.heap.size w ((w.alloc (.cells #[.slice (some ⟨g1,0,none⟩) n c1,.slice (some ⟨g2,0,none⟩) n c2,.int .i64 r] 91)).alloc (.cells #[.int .i64 0,.int .i64 0] 39)) from balloc (balloc (Below.refl _ w) _) _)
  obtain ⟨m0,m1,m2,m3,m4,m5,m6⟩:=M0.out
  go_enter Tryz.func77,Tryz.ntmps77
  go_wp2_with fail
  with_reducible refine (SU.out _ B0.out).mono ?_
  rintro e w1 ⟨rfl,hb1⟩
  have M1:=hid (ow3_below M0.out hb1)
  have R1:=hid (pair_below R0.out hb1)
  have B1:=hid (bstep B0.out hb1)
  clear hb1 m0 m1 m2 m3 m4 m5 m6 M0 R0 B0
  obtain ⟨m0,m1,m2,m3,m4,m5,m6⟩:=M1.out
  go_wp2_with fail
  with_reducible refine (PT.out _ B1.out).mono ?_
  rintro e w2 ⟨q,cap,rfl,rw2,hb2⟩
  have W2:=hid rw2
  clear rw2
  have M2:=hid (ow3_below M1.out hb2)
  have R2:=hid (pair_below R1.out hb2)
  have B2:=hid (bstep B1.out hb2)
  clear hb2 m0 m1 m2 m3 m4 m5 m6 M1 R1 B1
  obtain ⟨m0,m1,m2,m3,m4,m5,m6⟩:=M2.out
  go_wp2_with fail
  with_reducible refine (LO.out q cap _ W2.out).mono ?_
  rintro e w3 ⟨rfl,hb3⟩
  have M3:=hid (ow3_below M2.out hb3)
  have R3:=hid (pair_below R2.out hb3)
  have B3:=hid (bstep B2.out hb3)
  clear hb3 m0 m1 m2 m3 m4 m5 m6 M2 R2 B2
  obtain ⟨m0,m1,m2,m3,m4,m5,m6⟩:=M3.out
  obtain ⟨z0,z1,z2,z3,z4⟩:=R3.out
  have hB:=B3.out
  clear m0 m1 m2 m3 m4 m5 m6
  go_wp2
  refine bodyPost_ret (v:=spr ((0,0),1)) (by rw [results_cell_tmp rfl];go_simp) rfl ⟨rfl,?_⟩
  (repeat' (first|with_reducible exact hB|with_reducible refine Below.drew ?_|(with_reducible refine balloc ?_ _)|(with_reducible refine Below.setCell ?_ (by simp<;>omega) _)))
def bdW (f1 f2:Nat->Nat->Int × Int) (c:Nat->Int) (n:Nat) (r:Int):Sp.R:=if sm c n=0 then ((0,0),1) else bdR f1 f2 c n r
def wdW (R:Sp.R):Int:=if R.2=0 then R.1.2 - R.1.1 else 9223372036854775807
theorem hbw_all (g1 c1 g2 c2 b1 off1 cap1 n:Nat) (r:Int) (f1 f2:Nat->Nat->Int × Int) (c:Nat->Int) (w:World) (t1:TabM w g1 n f1) (t2:TabM w g2 n f2) (rc:RowI w b1 off1 n c) (h0:0<n) (hn:n<=96) (tb1:TB n f1) (tb2:TB n f2) (hc:∀ i,i<n->0<=c i/\c i<=100) :
    Calls Tryz.prog 77 #[bdv g1 c1 g2 c2 n r,.slice (some ⟨b1,off1,none⟩) n cap1] w fun e w'=>e=.returned (spr (bdW f1 f2 c n r))/\Below w.heap.size w w':=by
  unfold bdW
  by_cases z:sm c n=0
  · rw [if_pos z]
    have c0:=sm_all0 (fun i hi=>(hc i hi).1) z
    have SU:=hid (fun W (B:Below w.heap.size w W)=>hsum_any (some ⟨b1,off1,none⟩) n cap1 c W (lstI_below (fun _=>⟨b1,off1,rfl,rc⟩) B) (by omega) hc)
    rw [z] at SU
    exact hbd_zero g1 c1 g2 c2 b1 off1 cap1 n r _ _ w SU (hid (fun W (B:Below w.heap.size w W)=>hpt_any g1 c1 b1 off1 cap1 n f1 c W (tabM_below t1 B) (rowI_below rc B) h0 hn tb1 hc)) (hid fun q cap W R=>hlo_zero q cap n _ _ W R hn (mxl_0 fun j _=>wsm_0 c0))
  · rw [if_neg z]
    have:=(ch_sm hn hc).1
    exact hbd_any g1 c1 g2 c2 b1 off1 cap1 n r f1 f2 c w t1 t2 rc h0 hn tb1 tb2 hc (by omega)
theorem hwd_any (g1 c1 g2 c2 b1 off1 cap1 n:Nat) (r:Int) (R:Sp.R) (w:World) (BD:Hid (∀ W,Below w.heap.size w W->Calls Tryz.prog 77 #[bdv g1 c1 g2 c2 n r,.slice (some ⟨b1,off1,none⟩) n cap1] W fun e w'=>e=.returned (spr R)/\Below W.heap.size W w')) (ok:-1099511627776<=R.1.1/\R.1.1<=1099511627776/\-1099511627776<=R.1.2/\R.1.2<=1099511627776) :
    Calls Tryz.prog 130 #[bdv g1 c1 g2 c2 n r,.slice (some ⟨b1,off1,none⟩) n cap1] w fun e w'=>e=.returned (.int .i64 (wdW R))/\Below w.heap.size w w':=by
  obtain ⟨⟨lo,hi⟩,cd⟩:=R
  obtain ⟨o1,o2,o3,o4⟩:=ok
  have M0:=hid (ow3_new w (.slice (some ⟨g1,0,none⟩) n c1) (.slice (some ⟨g2,0,none⟩) n c2) (.int .i64 r) 91)
  have B0:=hid (show Below w.heap.size w (w.alloc (.cells #[.slice (some ⟨g1,0,none⟩) n c1,.slice (some ⟨g2,0,none⟩) n c2,.int .i64 r] 91)) from balloc (Below.refl _ w) _)
  obtain ⟨m0,m1,m2,m3,m4,m5,m6⟩:=M0.out
  by_cases z:cd=0
  · subst z
    go_enter Tryz.func130,Tryz.ntmps130
    go_wp2_with fail
    with_reducible refine (BD.out _ B0.out).mono ?_
    rintro e w1 ⟨rfl,hb1⟩
    have hB:=bstep B0.out hb1
    clear hb1 m0 m1 m2 m3 m4 m5 m6
    go_wp2
    go_ret
    exact ⟨rfl,by (repeat' (first|with_reducible exact hB|with_reducible refine Below.drew ?_|(with_reducible refine balloc ?_ _)|(with_reducible refine Below.setCell ?_ (by simp<;>omega) _)))⟩
  · have zz:(cd != 0)=true:=bne_iff_ne.2 z
    rw [show wdW ((lo,hi),cd)=9223372036854775807 from if_neg z]
    go_enter Tryz.func130,Tryz.ntmps130
    go_wp2_with fail
    with_reducible refine (BD.out _ B0.out).mono ?_
    rintro e w1 ⟨rfl,hb1⟩
    have hB:=bstep B0.out hb1
    clear hb1 m0 m1 m2 m3 m4 m5 m6
    go_wp2
    go_ret
    exact ⟨rfl,by (repeat' (first|with_reducible exact hB|with_reducible refine Below.drew ?_|(with_reducible refine balloc ?_ _)|(with_reducible refine Below.setCell ?_ (by simp<;>omega) _)))⟩
end Go.Proofs.YtbcjiigmbcfkeaaGreat
