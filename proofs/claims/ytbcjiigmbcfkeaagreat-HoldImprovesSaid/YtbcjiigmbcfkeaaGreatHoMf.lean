import Derived.Test.YtbcjiigmbcfkeaaGreatHoMe
import Derived.Test.YtbcjiigmbcfkeaaGreatHoMb
namespace Go.Proofs.YtbcjiigmbcfkeaaGreat
open Go.Lib (hid)
set_option maxRecDepth 100000
set_option maxHeartbeats 4000000
open Go.ChangeShapes Go.WideShapes Go.RowKit
open Sh
attribute [local go_sem 1000000] run_min_mn run_max_mx
theorem rlm_any (n:Int) (w:World) (h:n<=1099511627776):Calls Tryz.prog 66 #[.int .i64 n] w fun e w'=>e=.returned (.tuple #[.int .i64 n,.int .i64 0])/\w=w':=by
  go_enter Tryz.func66,Tryz.ntmps66
  go_wp2
  go_ret2
  exact ⟨rfl,rfl⟩
theorem rlo_v (a:Option Addr) (np c:Nat) (a':Option Addr) (nf c':Nat) (b:Option Addr) (n cap:Nat) (D vc:Int) (w:World) (V:Hid (∀ W,Below w.heap.size w W->Calls Tryz.prog 20 #[msv a np c a' nf c',.slice b n cap,.int .i64 D] W fun e w'=>e=.returned (.tuple #[.slice none 0 0,.int .i64 vc])/\Below W.heap.size W w')) (z:(vc != 0)=true):Calls Tryz.prog 25 #[msv a np c a' nf c',.slice b n cap,.int .i64 D] w fun e w'=>e=.returned (.tuple #[.int .i64 0,.int .i64 vc])/\Below w.heap.size w w':=by
  have M0:=hid (mes_new w a np c a' nf c' 25)
  have B0:=hid (show Below w.heap.size w (w.alloc (msc a np c a' nf c' 25)) from (Below.refl _ w).alloc (Nat.le_refl _) _)
  obtain ⟨m0,m1,ml⟩:=M0.out
  go_enter Tryz.func25,Tryz.ntmps25
  go_wp2_with fail
  with_reducible refine (V.out _ B0.out).mono ?_
  rintro e w1 ⟨rfl,hb1⟩
  have hB:=bstep B0.out hb1
  clear m0 m1 ml hb1
  go_wp2
  go_ret2
  exact ⟨rfl,by (repeat' (first|with_reducible exact hB|with_reducible refine Below.drew ?_|(with_reducible refine balloc ?_ _)|(with_reducible refine Below.setCell ?_ (by simp<;>omega) _)))⟩
theorem rlo_ok (a:Option Addr) (np c:Nat) (a':Option Addr) (nf c':Nat) (b1 off1 cap1 n:Nat) (D S:Int) (L H:Nat->Int) (w:World) (h0:0<n) (hn:n<=96) (PT:Hid (∀ W,Below w.heap.size w W->Calls Tryz.prog 20 #[msv a np c a' nf c',.slice (some ⟨b1,off1,none⟩) n cap1,.int .i64 D] W fun e w'=>∃ q cap,e=.returned (.tuple #[.slice (some ⟨q,0,none⟩) n cap,.int .i64 0])/\Row w' q 0 n L H/\Below W.heap.size W w')) (SU:Hid (∀ W,Below w.heap.size w W->Calls Tryz.prog 52 #[.slice (some ⟨b1,off1,none⟩) n cap1] W fun e w'=>e=.returned (.int .i64 S)/\Below W.heap.size W w')) (s1:1<=S) (s2:S<=9600) (h1:S<=mxl H n) (h2:mxl H n<=1099511627776) :
    Calls Tryz.prog 25 #[msv a np c a' nf c',.slice (some ⟨b1,off1,none⟩) n cap1,.int .i64 D] w fun e w'=>e=.returned (.tuple #[.int .i64 (lowN S (mxl H n)),.int .i64 0])/\Below w.heap.size w w':=by
  have hn':(n:Int)<=96:=by omega
  have QS:=hid (quoS s1 s2 h1)
  obtain ⟨rs,hrs⟩:∃ r,lowN S (mxl H n)=r:=⟨_,rfl⟩
  have RS:=hid hrs
  have HS:=hid (⟨h1,h2⟩:S<=mxl H n/\mxl H n<=1099511627776)
  rw [hrs]
  have M0:=hid (mes_new w a np c a' nf c' 25)
  have B0:=hid (show Below w.heap.size w (w.alloc (msc a np c a' nf c' 25)) from (Below.refl _ w).alloc (Nat.le_refl _) _)
  obtain ⟨m0,m1,ml⟩:=M0.out
  clear hrs h1 h2
  go_enter Tryz.func25,Tryz.ntmps25
  go_wp2_with fail
  with_reducible refine (PT.out _ B0.out).mono ?_
  rintro e w1 ⟨q,cap,rfl,rr,hb1⟩
  have W1:=hid rr
  have B1:=hid (bstep B0.out hb1)
  clear m0 m1 ml hb1 rr M0 B0 PT
  go_wp2
  go_loopw [10,11] (fun sv kv wr=>∃ k:Nat,k<=n/\kv=.int .i64 k/\sv=.int .i64 (mxl H k)/\Below w1.heap.size w1 wr) (fun _ kv _=>n - (intOf kv).toNat)
  case atStart=>exact ⟨0,Nat.zero_le _,rfl,rfl,Below.refl _ _⟩
  case round =>
    obtain ⟨k,hk,rfl,rfl,bb⟩:=hrel
    have BB:=hid bb
    by_cases hlt:k<n
    · have hk1:(k:Int)<(n:Int):=by omega
      have r0:=row_below W1.out bb
      obtain ⟨c0,c1⟩:=r0.2 k hlt
      rw [Nat.zero_add] at c0 c1
      have e0:=r0.1
      have E1:=hid (show mxl H (k+1)=Sp.mx (mxl H k) (H k) from rfl)
      clear r0 bb
      generalize mxl H k=p at *
      generalize L k=l at *
      generalize H k=h at *
      go_wp2
      go_roundw
      case rel=>exact ⟨k+1,by omega,by go_num,by rw [E1.out],BB.out⟩
      case measure=>simp [intOf];omega
    · obtain rfl:k=n:=by omega
      have BW:=hid (B1.out.trans (bb.mono B1.out.size))
      have S1:=hid (SU.out _ BW.out)
      obtain ⟨d,hd⟩:∃ d,mxl H k=d:=⟨_,rfl⟩
      have QS1:=QS.out.2
      have RS1:=RS.out
      have HS1:=HS.out
      rw [hd] at QS1 RS1 HS1 ⊢
      obtain ⟨q1,q2,q3⟩:=QS1
      obtain ⟨g1,g2⟩:=HS1
      clear QS RS HS hd bb SU
      go_wp2_with fail
      with_reducible refine S1.out.mono ?_
      rintro e w3 ⟨rfl,hb3⟩
      have hB:=bstep BW.out hb3
      clear hb3 S1
      have LM:=hid (fun W=>rlm_any rs W (by omega))
      have dv:(S*1048576*1048576).tdiv d=lowN S d:=by
        rw [Int.tdiv_eq_ediv_of_nonneg (by omega),show S*1048576*1048576=S*1099511627776 by omega]
        rfl
      go_wp2_with fail
      with_reducible refine (LM.out _).mono ?_
      rintro e w4 ⟨rfl,rfl⟩
      clear dv LM
      go_wp2
      go_ret2
      exact ⟨rfl,by (repeat' (first|with_reducible exact hB|with_reducible refine Below.drew ?_|(with_reducible refine balloc ?_ _)|(with_reducible refine Below.setCell ?_ (by simp<;>omega) _)))⟩
theorem rab_v (a:Option Addr) (np c:Nat) (a':Option Addr) (nf c':Nat) (b:Option Addr) (n cap:Nat) (D vc:Int) (w:World) (V:Hid (∀ W,Below w.heap.size w W->Calls Tryz.prog 20 #[msv a np c a' nf c',.slice b n cap,.int .i64 D] W fun e w'=>e=.returned (.tuple #[.slice none 0 0,.int .i64 vc])/\Below W.heap.size W w')) (z:(vc != 0)=true):Calls Tryz.prog 27 #[msv a np c a' nf c',.slice b n cap,.int .i64 D] w fun e w'=>e=.returned (.tuple #[.int .i64 0,.int .i64 vc])/\Below w.heap.size w w':=by
  have M0:=hid (mes_new w a np c a' nf c' 25)
  have B0:=hid (show Below w.heap.size w (w.alloc (msc a np c a' nf c' 25)) from (Below.refl _ w).alloc (Nat.le_refl _) _)
  obtain ⟨m0,m1,ml⟩:=M0.out
  go_enter Tryz.func27,Tryz.ntmps27
  go_wp2_with fail
  with_reducible refine (V.out _ B0.out).mono ?_
  rintro e w1 ⟨rfl,hb1⟩
  have hB:=bstep B0.out hb1
  clear m0 m1 ml hb1
  go_wp2
  go_ret2
  exact ⟨rfl,by (repeat' (first|with_reducible exact hB|with_reducible refine Below.drew ?_|(with_reducible refine balloc ?_ _)|(with_reducible refine Below.setCell ?_ (by simp<;>omega) _)))⟩
theorem rab_ok (a:Option Addr) (np c:Nat) (a':Option Addr) (nf c':Nat) (b1 off1 cap1 n:Nat) (D S:Int) (L H:Nat->Int) (w:World) (h0:0<n) (hn:n<=96) (PT:Hid (∀ W,Below w.heap.size w W->Calls Tryz.prog 20 #[msv a np c a' nf c',.slice (some ⟨b1,off1,none⟩) n cap1,.int .i64 D] W fun e w'=>∃ q cap,e=.returned (.tuple #[.slice (some ⟨q,0,none⟩) n cap,.int .i64 0])/\Row w' q 0 n L H/\Below W.heap.size W w')) (SU:Hid (∀ W,Below w.heap.size w W->Calls Tryz.prog 52 #[.slice (some ⟨b1,off1,none⟩) n cap1] W fun e w'=>e=.returned (.int .i64 S)/\Below W.heap.size W w')) (s1:1<=S) (s2:S<=9600) (h1:S<=mnl L n) (h2:mnl L n<=1099511627776) (l1:L 0<=1099511627776) :
    Calls Tryz.prog 27 #[msv a np c a' nf c',.slice (some ⟨b1,off1,none⟩) n cap1,.int .i64 D] w fun e w'=>e=.returned (.tuple #[.int .i64 (abvN S (mnl L n)),.int .i64 0])/\Below w.heap.size w w':=by
  have hn':(n:Int)<=96:=by omega
  have QS:=hid (quoS s1 s2 h1)
  have L1:=hid l1
  obtain ⟨rs,hrs⟩:∃ r,abvN S (mnl L n)=r:=⟨_,rfl⟩
  have RS:=hid hrs
  have HS:=hid (⟨h1,h2⟩:S<=mnl L n/\mnl L n<=1099511627776)
  rw [hrs]
  have M0:=hid (mes_new w a np c a' nf c' 25)
  have B0:=hid (show Below w.heap.size w (w.alloc (msc a np c a' nf c' 25)) from (Below.refl _ w).alloc (Nat.le_refl _) _)
  obtain ⟨m0,m1,ml⟩:=M0.out
  clear hrs h1 h2 l1
  go_enter Tryz.func27,Tryz.ntmps27
  go_wp2_with fail
  with_reducible refine (PT.out _ B0.out).mono ?_
  rintro e w1 ⟨q,cap,rfl,rr,hb1⟩
  have W1:=hid rr
  have B1:=hid (bstep B0.out hb1)
  clear m0 m1 ml hb1 rr M0 B0 PT
  have c00:=(W1.out.2 0 h0).1
  rw [Nat.zero_mul,Nat.add_zero] at c00
  have l00:=W1.out.1
  go_wp2
  go_loopw [10,11] (fun sv kv wr=>∃ k:Nat,k<=n/\kv=.int .i64 k/\sv=.int .i64 (Sp.mn (L 0) (mnl L k))/\Below w1.heap.size w1 wr) (fun _ kv _=>n - (intOf kv).toNat)
  case atStart=>exact ⟨0,Nat.zero_le _,rfl,by rw [show Sp.mn (L 0) (mnl L 0)=L 0 by rw [Sp.mn_eq];have:=L1.out;show min (L 0) 1099511627776=L 0;omega],Below.refl _ _⟩
  case round =>
    obtain ⟨k,hk,rfl,rfl,bb⟩:=hrel
    have BB:=hid bb
    by_cases hlt:k<n
    · have hk1:(k:Int)<(n:Int):=by omega
      have r0:=row_below W1.out bb
      obtain ⟨c0,c1⟩:=r0.2 k hlt
      rw [Nat.zero_add] at c0 c1
      have e0:=r0.1
      have E1:=hid (show Sp.mn (L 0) (mnl L (k+1))=Sp.mn (Sp.mn (L 0) (mnl L k)) (L k) by show Sp.mn (L 0) (Sp.mn (mnl L k) (L k))=_;simp only [Sp.mn_eq];omega)
      clear r0 bb
      generalize Sp.mn (L 0) (mnl L k)=p at *
      generalize L k=l at *
      generalize H k=h at *
      go_wp2
      go_roundw
      case rel=>exact ⟨k+1,by omega,by go_num,by rw [E1.out],BB.out⟩
      case measure=>simp [intOf];omega
    · obtain rfl:k=n:=by omega
      have BW:=hid (B1.out.trans (bb.mono B1.out.size))
      have S1:=hid (SU.out _ BW.out)
      have EM:Sp.mn (L 0) (mnl L k)=mnl L k:=by have:=mnl_le L (k:=0) (n:=k) h0;rw [Sp.mn_eq];omega
      rw [EM]
      obtain ⟨d,hd⟩:∃ d,mnl L k=d:=⟨_,rfl⟩
      have QS1:=QS.out.2
      have RS1:=RS.out
      have HS1:=HS.out
      rw [hd] at QS1 RS1 HS1 ⊢
      obtain ⟨q1,q2,q3⟩:=QS1
      obtain ⟨g1,g2⟩:=HS1
      clear QS RS HS hd bb SU
      go_wp2_with fail
      with_reducible refine S1.out.mono ?_
      rintro e w3 ⟨rfl,hb3⟩
      have hB:=bstep BW.out hb3
      clear hb3 S1
      have LM:=hid (fun W=>rlm_any rs W (by omega))
      have dv:(S*1048576*1048576+d - 1).tdiv d=abvN S d:=by
        rw [Int.tdiv_eq_ediv_of_nonneg (by omega),show S*1048576*1048576=S*1099511627776 by omega]
        rfl
      go_wp2_with fail
      with_reducible refine (LM.out _).mono ?_
      rintro e w4 ⟨rfl,rfl⟩
      clear dv LM
      go_wp2
      go_ret2
      exact ⟨rfl,by (repeat' (first|with_reducible exact hB|with_reducible refine Below.drew ?_|(with_reducible refine balloc ?_ _)|(with_reducible refine Below.setCell ?_ (by simp<;>omega) _)))⟩
theorem rth_v (a:Option Addr) (np c:Nat) (a':Option Addr) (nf c':Nat) (b:Option Addr) (n cap:Nat) (D vc:Int) (w:World) (V:Hid (∀ W,Below w.heap.size w W->Calls Tryz.prog 23 #[msv a np c a' nf c',.slice b n cap,.int .i64 D] W fun e w'=>e=.returned (spr ((0,0),vc))/\Below W.heap.size W w')) (z:(vc != 0)=true):Calls Tryz.prog 29 #[msv a np c a' nf c',.slice b n cap,.int .i64 D] w fun e w'=>e=.returned (.tuple #[.int .i64 0,.int .i64 vc])/\Below w.heap.size w w':=by
  have M0:=hid (mes_new w a np c a' nf c' 25)
  have B0:=hid (show Below w.heap.size w (w.alloc (msc a np c a' nf c' 25)) from (Below.refl _ w).alloc (Nat.le_refl _) _)
  obtain ⟨m0,m1,ml⟩:=M0.out
  go_enter Tryz.func29,Tryz.ntmps29
  go_wp2_with fail
  with_reducible refine (V.out _ B0.out).mono ?_
  rintro e w1 ⟨rfl,hb1⟩
  have hB:=balloc (bstep B0.out hb1) (.cells #[.int .i64 0,.int .i64 0] 39)
  clear m0 m1 ml hb1
  go_wp2
  go_ret2
  exact ⟨rfl,by (repeat' (first|with_reducible exact hB|with_reducible refine Below.drew ?_|(with_reducible refine balloc ?_ _)|(with_reducible refine Below.setCell ?_ (by simp<;>omega) _)))⟩
theorem rth_ok (a:Option Addr) (np c:Nat) (a':Option Addr) (nf c':Nat) (b1 off1 cap1 n:Nat) (D S l h:Int) (w:World) (PT:Hid (∀ W,Below w.heap.size w W->Calls Tryz.prog 23 #[msv a np c a' nf c',.slice (some ⟨b1,off1,none⟩) n cap1,.int .i64 D] W fun e w'=>e=.returned (spr ((l,h),0))/\Below W.heap.size W w')) (SU:Hid (∀ W,Below w.heap.size w W->Calls Tryz.prog 52 #[.slice (some ⟨b1,off1,none⟩) n cap1] W fun e w'=>e=.returned (.int .i64 S)/\Below W.heap.size W w')) (s1:1<=S) (s2:S<=9600) (h0:S*S<=l) (h1:l<=h) (h2:h<=1099511627776) :
    Calls Tryz.prog 29 #[msv a np c a' nf c',.slice (some ⟨b1,off1,none⟩) n cap1,.int .i64 D] w fun e w'=>e=.returned (.tuple #[.int .i64 (thoN S h),.int .i64 0])/\Below w.heap.size w w':=by
  obtain ⟨k,ek,b1',b2'⟩:=parS s1 s2 h0 h1 h2
  have QS:=(quoS s1 s2 b1').2
  have ss:0<=S*S:=Int.mul_nonneg (by omega) (by omega)
  have dv1:(h+S - 1).tdiv S=(h+S - 1) / S:=Int.tdiv_eq_ediv_of_nonneg (by omega)
  have hh:0<=h:=by omega
  unfold thoN
  generalize (h+S - 1) / S=d at *
  obtain ⟨q1,q2,q3⟩:=QS
  obtain ⟨rs,hrs⟩:∃ r,lowN S d=r:=⟨_,rfl⟩
  have LM:=hid (fun W=>rlm_any rs W (by omega))
  have dv:(S*1048576*1048576).tdiv d=rs:=by
    rw [Int.tdiv_eq_ediv_of_nonneg (by omega),show S*1048576*1048576=S*1099511627776 by omega]
    exact hrs
  rw [hrs]
  have r0:0<=rs:=by omega
  have r1:rs<=1099511627776:=by omega
  have M0:=hid (mes_new w a np c a' nf c' 25)
  have B0:=hid (show Below w.heap.size w (w.alloc (msc a np c a' nf c' 25)) from (Below.refl _ w).alloc (Nat.le_refl _) _)
  obtain ⟨m0,m1,ml⟩:=M0.out
  clear ek hrs ss h0 h1 q1 q2 q3
  go_enter Tryz.func29,Tryz.ntmps29
  go_wp2_with fail
  with_reducible refine (PT.out _ B0.out).mono ?_
  rintro e w1 ⟨rfl,hb1⟩
  have B1:=hid (balloc (bstep B0.out hb1) (.cells #[.int .i64 l,.int .i64 h] 39))
  have P1:=hid (pair_new w1 l h 39)
  have S1:=hid (SU.out _ B1.out)
  clear m0 m1 ml hb1 M0 B0 PT
  go_wp2_with fail
  with_reducible refine S1.out.mono ?_
  rintro e w3 ⟨rfl,hb3⟩
  obtain ⟨z0,z1,z2,z3,z4⟩:=pair_below P1.out hb3
  have hB:=bstep B1.out hb3
  clear hb3 S1 P1
  go_wp2_with fail
  with_reducible refine (LM.out _).mono ?_
  rintro e w4 ⟨rfl,rfl⟩
  clear dv dv1 LM
  go_wp2
  go_ret2
  exact ⟨rfl,by (repeat' (first|with_reducible exact hB|with_reducible refine Below.drew ?_|(with_reducible refine balloc ?_ _)|(with_reducible refine Below.setCell ?_ (by simp<;>omega) _)))⟩
end Go.Proofs.YtbcjiigmbcfkeaaGreat
namespace Go.Proofs.YtbcjiigmbcfkeaaGreat
open Go.Lib (hid)
set_option maxRecDepth 100000
set_option maxHeartbeats 4000000
open Go.ChangeShapes Go.WideShapes Go.RowKit
open Sh
def gv7 (np nf:Nat) (P F:Nat->P3) (n:Nat) (ch:Nat->Int) (D:Int):Int:=gvc (vcode ⟨np,nf,P,F⟩) nf n ch D
def enA (np nf:Nat) (P F:Nat->P3) (n:Nat) (ch:Nat->Int) (D:Int):Sp.R:=if gv7 np nf P F n ch D=0 then enR (mtT (Tr P F) D) ch n else ((0,0),gv7 np nf P F n ch D)
def loA (np nf:Nat) (P F:Nat->P3) (n:Nat) (ch:Nat->Int) (D:Int):Int × Int:=if gv7 np nf P F n ch D=0 then (lowN (sm ch n) (mxl (ptH (btT (Tr P F) D) ch n) n),0) else (0,gv7 np nf P F n ch D)
def abA (np nf:Nat) (P F:Nat->P3) (n:Nat) (ch:Nat->Int) (D:Int):Int × Int:=if gv7 np nf P F n ch D=0 then (abvN (sm ch n) (mnl (ptL (btT (Tr P F) D) ch n) n),0) else (0,gv7 np nf P F n ch D)
def thA (np nf:Nat) (P F:Nat->P3) (n:Nat) (ch:Nat->Int) (D:Int):Int × Int:=if (enA np nf P F n ch D).2=0 then (thoN (sm ch n) (enH (mtT (Tr P F) D) ch n),0) else (0,(enA np nf P F n ch D).2)
theorem rpo_any (a:Option Addr) (np c:Nat) (a':Option Addr) (nf c':Nat) (b:Option Addr) (n cap:Nat) (D:Int) (P F:Nat->P3) (ch:Nat->Int) (w:World) (rp:Lst w a np P) (rf:Lst w a' nf F) (rc:LstI w b n ch) (hn:np<=1000000) (hm:nf<=1000000) (hk:n<=9223372036854775807) (y:gv7 np nf P F n ch D=0):Calls Tryz.prog 20 #[msv a np c a' nf c',.slice b n cap,.int .i64 D] w fun e w'=>∃ q cap',e=.returned (.tuple #[.slice (some ⟨q,0,none⟩) n cap',.int .i64 0])/\Row w' q 0 n (ptL (btT (Tr P F) D) ch n) (ptH (btT (Tr P F) D) ch n)/\Below w.heap.size w w':=by
    obtain ⟨y1,d0,d2⟩:=gvc_ok y
    obtain ⟨z,rfl,hc,s1⟩:=chc_ok y1
    obtain ⟨hnp,h64,h0,h96,fo,_⟩:=vcode_rows z
    obtain ⟨b1,off1,rfl,rc1⟩:=rc h0
    have s2:=(ch_sm h96 hc).2
    have tb:=bt_tb z d0 d2
    have tm:=mt_tb z d0 d2
    obtain ⟨pb,poff,rfl,rp1⟩:=rp hnp
    obtain ⟨fb,foff,rfl,rf1⟩:=rf h0
    have GV:=hid (fun W (B:Below w.heap.size w W)=>rgv_any (some ⟨pb,poff,none⟩) np c (some ⟨fb,foff,none⟩) n c' (some ⟨b1,off1,none⟩) n cap D P F ch W (lst_below rp B) (lst_below rf B) (lstI_below rc B) hn hm hk)
    rw [show gvc (vcode ⟨np,n,P,F⟩) n n ch D=0 from y] at GV
    exact rpt_ok (some ⟨pb,poff,none⟩) np c (some ⟨fb,foff,none⟩) n c' b1 off1 cap n D (Tr P F) _ ch w h0 h96 tb hc rc1 GV (hid fun W B=>rpn_any pb poff np c fb foff n c' P F W (row3_below rp1 B) (row3_below rf1 B) h64 h96 h0 fo) (hid fun i j hi hj W=>bt_e z d0 d2 hi hj ▸ rbet_any (Tr P F i) (Tr P F j) D W)
theorem rene_any (a:Option Addr) (np c:Nat) (a':Option Addr) (nf c':Nat) (b:Option Addr) (n cap:Nat) (D:Int) (P F:Nat->P3) (ch:Nat->Int) (w:World) (rp:Lst w a np P) (rf:Lst w a' nf F) (rc:LstI w b n ch) (hn:np<=1000000) (hm:nf<=1000000) (hk:n<=9223372036854775807):Calls Tryz.prog 23 #[msv a np c a' nf c',.slice b n cap,.int .i64 D] w fun e w'=>e=.returned (spr (enA np nf P F n ch D))/\Below w.heap.size w w':=by
  unfold enA
  by_cases y:gv7 np nf P F n ch D=0
  · rw [if_pos y]
    obtain ⟨y1,d0,d2⟩:=gvc_ok y
    obtain ⟨z,rfl,hc,s1⟩:=chc_ok y1
    obtain ⟨hnp,h64,h0,h96,fo,_⟩:=vcode_rows z
    obtain ⟨b1,off1,rfl,rc1⟩:=rc h0
    have s2:=(ch_sm h96 hc).2
    have tb:=bt_tb z d0 d2
    have tm:=mt_tb z d0 d2
    obtain ⟨pb,poff,rfl,rp1⟩:=rp hnp
    obtain ⟨fb,foff,rfl,rf1⟩:=rf h0
    have GV:=hid (fun W (B:Below w.heap.size w W)=>rgv_any (some ⟨pb,poff,none⟩) np c (some ⟨fb,foff,none⟩) n c' (some ⟨b1,off1,none⟩) n cap D P F ch W (lst_below rp B) (lst_below rf B) (lstI_below rc B) hn hm hk)
    rw [show gvc (vcode ⟨np,n,P,F⟩) n n ch D=0 from y] at GV
    exact ren_ok (some ⟨pb,poff,none⟩) np c (some ⟨fb,foff,none⟩) n c' b1 off1 cap n D (Tr P F) _ ch w h0 h96 tm hc rc1 GV (hid fun W B=>rpn_any pb poff np c fb foff n c' P F W (row3_below rp1 B) (row3_below rf1 B) h64 h96 h0 fo) (hid fun i j hi hj W=>mt_e z d0 d2 hi hj ▸ rmut_any (Tr P F i) (Tr P F j) D W)
  · rw [if_neg y]
    exact ren_v a np c a' nf c' b n cap D _ w (hid fun W B=>rgv_any a np c a' nf c' b n cap D P F ch W (lst_below rp B) (lst_below rf B) (lstI_below rc B) hn hm hk) (bne_iff_ne.2 y)
theorem rlo_any (a:Option Addr) (np c:Nat) (a':Option Addr) (nf c':Nat) (b:Option Addr) (n cap:Nat) (D:Int) (P F:Nat->P3) (ch:Nat->Int) (w:World) (rp:Lst w a np P) (rf:Lst w a' nf F) (rc:LstI w b n ch) (hn:np<=1000000) (hm:nf<=1000000) (hk:n<=9223372036854775807):Calls Tryz.prog 25 #[msv a np c a' nf c',.slice b n cap,.int .i64 D] w fun e w'=>e=.returned (.tuple #[.int .i64 (loA np nf P F n ch D).1,.int .i64 (loA np nf P F n ch D).2])/\Below w.heap.size w w':=by
  unfold loA
  by_cases y:gv7 np nf P F n ch D=0
  · rw [if_pos y]
    have PO:=hid (fun W (B:Below w.heap.size w W)=>rpo_any a np c a' nf c' b n cap D P F ch W (lst_below rp B) (lst_below rf B) (lstI_below rc B) hn hm hk y)
    obtain ⟨y1,d0,d2⟩:=gvc_ok y
    obtain ⟨z,rfl,hc,s1⟩:=chc_ok y1
    obtain ⟨hnp,h64,h0,h96,fo,_⟩:=vcode_rows z
    obtain ⟨b1,off1,rfl,rc1⟩:=rc h0
    have s2:=(ch_sm h96 hc).2
    have tb:=bt_tb z d0 d2
    have tm:=mt_tb z d0 d2
    have q1:=bd_hi tb h0 h96 hc
    have q2:=bd_lo tb h96 hc
    exact rlo_ok a np c a' n c' b1 off1 cap n D _ _ _ w h0 h96 PO (hid fun W B=>rhsum_any (some ⟨b1,off1,none⟩) n cap ch W (lstI_below rc B) (by omega) hc) s1 s2 q1.1 q1.2
  · rw [if_neg y]
    exact rlo_v a np c a' nf c' b n cap D _ w (hid fun W B=>rpt_v a np c a' nf c' b n cap D _ W (hid fun W' B'=>rgv_any a np c a' nf c' b n cap D P F ch W' (lst_below rp (bstep B B')) (lst_below rf (bstep B B')) (lstI_below rc (bstep B B')) hn hm hk) (bne_iff_ne.2 y)) (bne_iff_ne.2 y)
theorem rab_any (a:Option Addr) (np c:Nat) (a':Option Addr) (nf c':Nat) (b:Option Addr) (n cap:Nat) (D:Int) (P F:Nat->P3) (ch:Nat->Int) (w:World) (rp:Lst w a np P) (rf:Lst w a' nf F) (rc:LstI w b n ch) (hn:np<=1000000) (hm:nf<=1000000) (hk:n<=9223372036854775807):Calls Tryz.prog 27 #[msv a np c a' nf c',.slice b n cap,.int .i64 D] w fun e w'=>e=.returned (.tuple #[.int .i64 (abA np nf P F n ch D).1,.int .i64 (abA np nf P F n ch D).2])/\Below w.heap.size w w':=by
  unfold abA
  by_cases y:gv7 np nf P F n ch D=0
  · rw [if_pos y]
    have PO:=hid (fun W (B:Below w.heap.size w W)=>rpo_any a np c a' nf c' b n cap D P F ch W (lst_below rp B) (lst_below rf B) (lstI_below rc B) hn hm hk y)
    obtain ⟨y1,d0,d2⟩:=gvc_ok y
    obtain ⟨z,rfl,hc,s1⟩:=chc_ok y1
    obtain ⟨hnp,h64,h0,h96,fo,_⟩:=vcode_rows z
    obtain ⟨b1,off1,rfl,rc1⟩:=rc h0
    have s2:=(ch_sm h96 hc).2
    have tb:=bt_tb z d0 d2
    have tm:=mt_tb z d0 d2
    have q1:=bd_hi tb h0 h96 hc
    have q2:=bd_lo tb h96 hc
    exact rab_ok a np c a' n c' b1 off1 cap n D _ _ _ w h0 h96 PO (hid fun W B=>rhsum_any (some ⟨b1,off1,none⟩) n cap ch W (lstI_below rc B) (by omega) hc) s1 s2 q2.1 q2.2 (by have:=pt_ok tb h96 hc h0;omega)
  · rw [if_neg y]
    exact rab_v a np c a' nf c' b n cap D _ w (hid fun W B=>rpt_v a np c a' nf c' b n cap D _ W (hid fun W' B'=>rgv_any a np c a' nf c' b n cap D P F ch W' (lst_below rp (bstep B B')) (lst_below rf (bstep B B')) (lstI_below rc (bstep B B')) hn hm hk) (bne_iff_ne.2 y)) (bne_iff_ne.2 y)
theorem rth_any (a:Option Addr) (np c:Nat) (a':Option Addr) (nf c':Nat) (b:Option Addr) (n cap:Nat) (D:Int) (P F:Nat->P3) (ch:Nat->Int) (w:World) (rp:Lst w a np P) (rf:Lst w a' nf F) (rc:LstI w b n ch) (hn:np<=1000000) (hm:nf<=1000000) (hk:n<=9223372036854775807):Calls Tryz.prog 29 #[msv a np c a' nf c',.slice b n cap,.int .i64 D] w fun e w'=>e=.returned (.tuple #[.int .i64 (thA np nf P F n ch D).1,.int .i64 (thA np nf P F n ch D).2])/\Below w.heap.size w w':=by
  have EN:=hid (fun W (B:Below w.heap.size w W)=>rene_any a np c a' nf c' b n cap D P F ch W (lst_below rp B) (lst_below rf B) (lstI_below rc B) hn hm hk)
  unfold thA
  by_cases x:(enA np nf P F n ch D).2=0
  · rw [if_pos x]
    have y:gv7 np nf P F n ch D=0:=by
      unfold enA at x
      by_cases y:gv7 np nf P F n ch D=0
      · exact y
      · rw [if_neg y] at x;exact x
    have e1:enA np nf P F n ch D=enR (mtT (Tr P F) D) ch n:=by unfold enA;rw [if_pos y]
    rw [e1] at EN x
    obtain ⟨e2,e3⟩:=en_ok x
    rw [e2] at EN
    obtain ⟨y1,d0,d2⟩:=gvc_ok y
    obtain ⟨z,rfl,hc,s1⟩:=chc_ok y1
    obtain ⟨hnp,h64,h0,h96,fo,_⟩:=vcode_rows z
    obtain ⟨b1,off1,rfl,rc1⟩:=rc h0
    have s2:=(ch_sm h96 hc).2
    have tb:=bt_tb z d0 d2
    have tm:=mt_tb z d0 d2
    exact rth_ok a np c a' n c' b1 off1 cap n D _ _ _ w EN (hid fun W B=>rhsum_any (some ⟨b1,off1,none⟩) n cap ch W (lstI_below rc B) (by omega) hc) s1 s2 (en_lo tm hc) (en_le tm hc) e3
  · rw [if_neg x]
    have e1:enA np nf P F n ch D=((0,0),(enA np nf P F n ch D).2):=by
      unfold enA at x ⊢
      by_cases y:gv7 np nf P F n ch D=0
      · rw [if_pos y] at x ⊢
        rw [en_no x]
      · rw [if_neg y]
    rw [e1] at EN
    exact rth_v a np c a' nf c' b n cap D _ w EN (bne_iff_ne.2 x)
end Go.Proofs.YtbcjiigmbcfkeaaGreat
