import Derived.Test.YtbcjiigmbcfkeaaGreatHoMi
import Derived.Test.YtbcjiigmbcfkeaaGreatQuo
import Derived.RegionTactic
import Derived.Test.YtbcjiigmbcfkeaaGreatHoMj
import Derived.Test.YtbcjiigmbcfkeaaGreatFg52
namespace Go.Proofs.YtbcjiigmbcfkeaaGreat
open Go.Lib (hid)
set_option maxRecDepth 100000
set_option maxHeartbeats 4000000
open Go.ChangeShapes Go.WideShapes Go.RowKit
open Sh
attribute [local go_sem 1000000] run_min_mn run_max_mx
theorem hlo_any (q cap n:Nat) (S:Int) (L H:Nat->Int) (w:World) (rl:Row w q 0 n L H) (hn:n<=96) (s1:1<=S) (s2:S<=9600) (h1:S<=mxl H n) (h2:mxl H n<=1099511627776) :
    Calls Tryz.prog 65 #[.int .i64 S,.slice (some ⟨q,0,none⟩) n cap] w fun e w'=>e=.returned (.tuple #[.int .i64 (lowN S (mxl H n)),.int .i64 0])/\Below w.heap.size w w':=by
  have hn':(n:Int)<=96:=by omega
  have RL:=hid rl
  have QS:=hid (quoS s1 s2 h1)
  have QU:=hid (fun W=>quo_ok (S*1048576) (mxl H n) W (by omega) (by omega) (by omega) h2 (by omega))
  obtain ⟨rs,hrs⟩:∃ r,lowN S (mxl H n)=r:=⟨_,rfl⟩
  rw [hrs]
  have RS:=hid hrs
  clear rl h1 h2 hrs
  go_enter Tryz.func65,Tryz.ntmps65
  go_wp2
  go_loopw [6,13] (fun sv kv wr=>∃ k:Nat,k<=n/\kv=.int .i64 k/\sv=.int .i64 (mxl H k)/\Below w.heap.size w wr) (fun _ kv _=>n - (intOf kv).toNat)
  case atStart=>exact ⟨0,Nat.zero_le _,rfl,rfl,Below.refl _ _⟩
  case round =>
    obtain ⟨k,hk,rfl,rfl,bb⟩:=hrel
    have BB:=hid bb
    by_cases hlt:k<n
    · have hk1:(k:Int)<(n:Int):=by omega
      have r0:=row_below RL.out bb
      obtain ⟨c0,c1⟩:=r0.2 k hlt
      rw [Nat.zero_add] at c0 c1
      have e0:=r0.1
      have E1:=hid (show mxl H (k+1)=Sp.mx (mxl H k) (H k) from rfl)
      clear r0 bb
      generalize mxl H k=p at *
      generalize L k=l at *
      generalize H k=h at *
      go_wp2
      go_roundw
      case rel=>exact ⟨k+1,by omega,by go_num,by rw [E1.out],balloc BB.out _⟩
      case measure=>simp [intOf];omega
    · obtain rfl:k=n:=by omega
      generalize mxl H k=d at *
      have q1:=QS.out.1
      generalize Sp.told (Sp.fl (S*1048576*1048576) d) (Sp.ce (S*1048576*1048576) d)=r at *
      subst q1
      generalize lowN S d=u at *
      generalize abvN S d=v at *
      clear bb
      have RS2:=RS.out
      clear RS
      subst RS2
      go_wp2_with fail
      with_reducible refine (QU.out _).mono ?_
      rintro e w3 ⟨rfl,hb3⟩
      have hB:=bstep BB.out hb3
      clear hb3 QU QS
      go_wp2
      go_ret2
      exact ⟨rfl,by (repeat' (first|with_reducible exact hB|with_reducible refine Below.drew ?_|(with_reducible refine balloc ?_ _)|(with_reducible refine Below.setCell ?_ (by simp<;>omega) _)))⟩
theorem hab_any (q cap n:Nat) (S:Int) (L H:Nat->Int) (w:World) (rl:Row w q 0 n L H) (hn:n<=96) (s1:1<=S) (s2:S<=9600) (h1:S<=mnl L n) (h2:mnl L n<=1099511627776) :
    Calls Tryz.prog 67 #[.int .i64 S,.slice (some ⟨q,0,none⟩) n cap] w fun e w'=>e=.returned (.tuple #[.int .i64 (abvN S (mnl L n)),.int .i64 0])/\Below w.heap.size w w':=by
  have hn':(n:Int)<=96:=by omega
  have RL:=hid rl
  have QS:=hid (quoS s1 s2 h1)
  have QU:=hid (fun W=>quo_ok (S*1048576) (mnl L n) W (by omega) (by omega) (by omega) h2 (by omega))
  obtain ⟨rs,hrs⟩:∃ r,abvN S (mnl L n)=r:=⟨_,rfl⟩
  rw [hrs]
  have RS:=hid hrs
  clear rl h1 h2 hrs
  go_enter Tryz.func67,Tryz.ntmps67
  go_wp2
  go_loopw [6,13] (fun sv kv wr=>∃ k:Nat,k<=n/\kv=.int .i64 k/\sv=.int .i64 (mnl L k)/\Below w.heap.size w wr) (fun _ kv _=>n - (intOf kv).toNat)
  case atStart=>exact ⟨0,Nat.zero_le _,rfl,rfl,Below.refl _ _⟩
  case round =>
    obtain ⟨k,hk,rfl,rfl,bb⟩:=hrel
    have BB:=hid bb
    by_cases hlt:k<n
    · have hk1:(k:Int)<(n:Int):=by omega
      have r0:=row_below RL.out bb
      obtain ⟨c0,c1⟩:=r0.2 k hlt
      rw [Nat.zero_add] at c0 c1
      have e0:=r0.1
      have E1:=hid (show mnl L (k+1)=Sp.mn (mnl L k) (L k) from rfl)
      clear r0 bb
      generalize mnl L k=p at *
      generalize L k=l at *
      generalize H k=h at *
      go_wp2
      go_roundw
      case rel=>exact ⟨k+1,by omega,by go_num,by rw [E1.out],balloc BB.out _⟩
      case measure=>simp [intOf];omega
    · obtain rfl:k=n:=by omega
      generalize mnl L k=d at *
      have q1:=QS.out.1
      generalize Sp.told (Sp.fl (S*1048576*1048576) d) (Sp.ce (S*1048576*1048576) d)=r at *
      subst q1
      generalize lowN S d=u at *
      generalize abvN S d=v at *
      clear bb
      have RS2:=RS.out
      clear RS
      subst RS2
      go_wp2_with fail
      with_reducible refine (QU.out _).mono ?_
      rintro e w3 ⟨rfl,hb3⟩
      have hB:=bstep BB.out hb3
      clear hb3 QU QS
      go_wp2
      go_ret2
      exact ⟨rfl,by (repeat' (first|with_reducible exact hB|with_reducible refine Below.drew ?_|(with_reducible refine balloc ?_ _)|(with_reducible refine Below.setCell ?_ (by simp<;>omega) _)))⟩
theorem hth_any (l h S:Int) (w:World) (s1:1<=S) (s2:S<=9600) (h0:S*S<=l) (h1:l<=h) (h2:h<=1099511627776) :
    Calls Tryz.prog 68 #[.int .i64 S,.agg #[.int .i64 l,.int .i64 h]] w fun e w'=>e=.returned (.tuple #[.int .i64 (thoN S h),.int .i64 0])/\Below w.heap.size w w':=by
  obtain ⟨k,ek,b1,b2⟩:=parS s1 s2 h0 h1 h2
  have PA:=hid (fun W=>part_any l h S W)
  rw [ek] at PA
  have QS:=hid (quoS s1 s2 b1)
  have QU:=hid (fun W=>quo_ok (S*1048576) ((h+S - 1) / S) W (by omega) (by omega) (by omega) b2 (by omega))
  have B0:=hid (show Below w.heap.size w (w.alloc (.cells #[.int .i64 l,.int .i64 h] 39)) from balloc (Below.refl _ w) _)
  obtain ⟨z0,z1,z2,z3,z4⟩:=pair_new w l h 39
  unfold thoN
  generalize (h+S - 1) / S=d at *
  have q1:=QS.out.1
  generalize Sp.told (Sp.fl (S*1048576*1048576) d) (Sp.ce (S*1048576*1048576) d)=r at *
  subst q1
  generalize lowN S d=u at *
  generalize abvN S d=v at *
  clear ek
  go_enter Tryz.func68,Tryz.ntmps68
  go_wp2_with fail
  with_reducible refine (PA.out _).mono ?_
  rintro e w1 ⟨rfl,hb1⟩
  have B1:=hid (bstep B0.out hb1)
  clear hb1 z0 z1 z2 z3 z4
  go_wp2_with fail
  with_reducible refine (QU.out _).mono ?_
  rintro e w3 ⟨rfl,hb3⟩
  have hB:=bstep (balloc B1.out (.cells #[.int .i64 k,.int .i64 d] 39)) hb3
  clear hb3 QU QS
  go_wp2
  go_ret2
  exact ⟨rfl,by (repeat' (first|with_reducible exact hB|with_reducible refine Below.drew ?_|(with_reducible refine balloc ?_ _)|(with_reducible refine Below.setCell ?_ (by simp<;>omega) _)))⟩
end Go.Proofs.YtbcjiigmbcfkeaaGreat
namespace Go.Proofs.YtbcjiigmbcfkeaaGreat
open Go.Lib (hid)
set_option maxRecDepth 100000
set_option maxHeartbeats 4000000
open Go.ChangeShapes Go.WideShapes Go.RowKit
open Sh
attribute [local go_sem 1000000] run_min_mn run_max_mx
def Ow3 (w:World) (b:Nat) (x y z:Value):Prop:=w.cell? ⟨b,0,none⟩=some x/\w.cell? ⟨b,1,none⟩=some y/\w.cell? ⟨b,2,none⟩=some z/\w.frozen? ⟨b,0,none⟩=false/\w.frozen? ⟨b,1,none⟩=false/\w.frozen? ⟨b,2,none⟩=false/\b<w.heap.size
theorem ow3_below {w w1:World} {b:Nat} {x y z:Value} (h:Ow3 w b x y z) (hb:Below w.heap.size w w1):Ow3 w1 b x y z:=by
  obtain ⟨h1,h2,h3,h4,h5,h6,h7⟩:=h
  exact ⟨(hb.cell (p:=⟨b,0,none⟩) h7).trans h1,(hb.cell (p:=⟨b,1,none⟩) h7).trans h2,(hb.cell (p:=⟨b,2,none⟩) h7).trans h3,(hb.frozen (p:=⟨b,0,none⟩) h7).trans h4,(hb.frozen (p:=⟨b,1,none⟩) h7).trans h5,(hb.frozen (p:=⟨b,2,none⟩) h7).trans h6,Nat.lt_of_lt_of_le h7 hb.size⟩
theorem ow3_new (w:World) (x y z:Value) (t:TypeId):Ow3 (w.alloc (.cells #[x,y,z] t)) w.heap.size x y z:=⟨by go_simp,by go_simp,by go_simp,by go_simp,by go_simp,by go_simp,by simp⟩
theorem ow3_alloc {w:World} {b:Nat} {x y z:Value} (h:Ow3 w b x y z) (o:Obj):Ow3 (w.alloc o) b x y z:=ow3_below h ((Below.refl _ _).alloc (Nat.le_refl _) _)
abbrev bdv (g1 c1 g2 c2 n:Nat) (r:Int):Value:=.agg #[.slice (some ⟨g1,0,none⟩) n c1,.slice (some ⟨g2,0,none⟩) n c2,.int .i64 r]
theorem bo_cells {w:World} {q l h np c nf c':Nat} {a a':Option Addr} {x y:P3} (m:Mes w q a np c a' nf c') (k1:Own w l x) (k2:Own w h y) :
    w.cell? ⟨q,0,none⟩=some (.slice a np c)/\w.cell? ⟨q,1,none⟩=some (.slice a' nf c')/\w.cell? ⟨l,0,none⟩=some (.int .i64 x.1)/\w.cell? ⟨l,1,none⟩=some (.int .i64 x.2.1)/\w.cell? ⟨l,2,none⟩=some (.int .i64 x.2.2)/\w.cell? ⟨h,0,none⟩=some (.int .i64 y.1)/\w.cell? ⟨h,1,none⟩=some (.int .i64 y.2.1)/\w.cell? ⟨h,2,none⟩=some (.int .i64 y.2.2) :=
  ⟨m.1,m.2.1,k1.1,k1.2.1,k1.2.2.1,k2.1,k2.2.1,k2.2.2.1⟩
theorem hbo_ok (a:Option Addr) (np c:Nat) (a':Option Addr) (nf c':Nat) (D:Int) (n:Nat) (f1 f2:Nat->Nat->Int × Int) (lo hi ce:P3) (r:Int) (w:World) (T1:Hid (∀ W,Below w.heap.size w W->Calls Tryz.prog 54 #[msv a np c a' nf c',.int .i64 D,.func (.func 55) #[] #[]] W fun e w'=>∃ g cap,e=.returned (.tuple #[.slice (some ⟨g,0,none⟩) n cap,.int .i64 0])/\TabM w' g n f1/\W.heap.size<=g/\Below W.heap.size W w')) (T2:Hid (∀ W,Below w.heap.size w W->Calls Tryz.prog 54 #[msv a np c a' nf c',.int .i64 D,.func (.func 62) #[] #[]] W fun e w'=>∃ g cap,e=.returned (.tuple #[.slice (some ⟨g,0,none⟩) n cap,.int .i64 0])/\TabM w' g n f2/\W.heap.size<=g/\Below W.heap.size W w'))
    (BX:Hid (∀ W,Below w.heap.size w W->Calls Tryz.prog 127 #[msv a np c a' nf c'] W fun e w'=>e=.returned (.tuple #[ptv lo,ptv hi,.int .i64 0])/\Below W.heap.size W w')) (MI:Hid (∀ W,Calls Tryz.prog 128 #[ptv lo,ptv hi] W fun e w'=>e=.returned (ptv ce)/\Below W.heap.size W w')) (BA:Hid (∀ W,Below w.heap.size w W->Calls Tryz.prog 30 #[msv a np c a' nf c',ptv ce] W fun e w'=>e=.returned (.tuple #[.int .i64 r,.int .i64 0])/\Below W.heap.size W w')) :
    Calls Tryz.prog 76 #[msv a np c a' nf c',.int .i64 D] w fun e w'=>∃ g1 c1 g2 c2,e=.returned (.tuple #[bdv g1 c1 g2 c2 n r,.int .i64 0])/\TabM w' g1 n f1/\TabM w' g2 n f2/\Below w.heap.size w w':=by
  have M0:=hid (mes_alloc (mes_new w a np c a' nf c' 25) (.cells #[.slice none 0 0,.slice none 0 0,.int .i64 0] 91))
  have O0:=hid (ow3_new (w.alloc (msc a np c a' nf c' 25)) (.slice none 0 0) (.slice none 0 0) (.int .i64 0) 91)
  simp only [World.size_alloc] at O0
  have B0:=hid (show Below w.heap.size w ((w.alloc (msc a np c a' nf c' 25)).alloc (.cells #[.slice none 0 0,.slice none 0 0,.int .i64 0] 91)) from balloc (balloc (Below.refl _ w) _) _)
  obtain ⟨m0,m1,ml⟩:=M0.out
  go_enter Tryz.func76,Tryz.ntmps76
  go_wp2_with fail
  with_reducible refine (T1.out _ B0.out).mono ?_
  rintro e w1 ⟨g1,c1,rfl,t1,lg1,hb1⟩
  have M1:=hid (mes_below M0.out hb1)
  have O1:=hid (ow3_below O0.out hb1)
  have B1:=hid (bstep B0.out hb1)
  have TA1:=hid t1
  have q1:w.heap.size+1<g1:=by have:=O0.out.2.2.2.2.2.2;omega
  clear hb1 t1 lg1 m0 m1 ml M0 O0 B0
  obtain ⟨m0,m1,ml⟩:=M1.out
  go_wp2_with fail
  with_reducible refine (T2.out _ B1.out).mono ?_
  rintro e w2 ⟨g2,c2,rfl,t2,lg2,hb2⟩
  have M2:=hid (mes_below M1.out hb2)
  have O2:=hid (ow3_below O1.out hb2)
  have B2:=hid (bstep B1.out hb2)
  have TA2:=hid (tabM_below TA1.out hb2)
  have TB2:=hid t2
  have q2:w.heap.size+1<g2:=by have:=O1.out.2.2.2.2.2.2;omega
  clear hb2 t2 lg2 m0 m1 ml M1 O1 B1 TA1
  obtain ⟨m0,m1,ml⟩:=M2.out
  go_wp2_with fail
  with_reducible refine (BX.out _ B2.out).mono ?_
  rintro e w3 ⟨rfl,hb3⟩
  have M3:=hid (mes_below M2.out hb3)
  have O3:=hid (ow3_below O2.out hb3)
  have B3:=hid (bstep B2.out hb3)
  have TA3:=hid (tabM_below TA2.out hb3)
  have TB3:=hid (tabM_below TB2.out hb3)
  clear hb3 m0 m1 ml M2 O2 B2 TA2 TB2
  have BZ:=hid ((((Below.refl w3.heap.size w3).alloc (Nat.le_refl _) (ptc lo 44)).alloc (by simp) (ptc hi 44)))
  have M4:=hid (mes_below M3.out BZ.out)
  have O4:=hid (ow3_below O3.out BZ.out)
  have B4:=hid (bstep B3.out BZ.out)
  have TA4:=hid (tabM_below TA3.out BZ.out)
  have TB4:=hid (tabM_below TB3.out BZ.out)
  have L4:=hid (own_alloc (own_new w3 lo 44) (ptc hi 44))
  have H4:=hid (own_new (w3.alloc (ptc lo 44)) hi 44)
  simp only [World.size_alloc] at H4
  clear M3 O3 B3 TA3 TB3 BZ
  go_wp2
  generalize (w3.alloc (ptc lo 44)).alloc (ptc hi 44)=w4 at *
  have i0:Mes w4.drew w.heap.size a np c a' nf c'/\Own w4.drew w3.heap.size lo/\Own w4.drew (w3.heap.size+1) hi:=⟨M4.out,L4.out,H4.out⟩
  have b0:=hid (show Below w.heap.size w w4.drew from Below.drew B4.out)
  have t0:=hid (show TabM w4.drew g1 n f1/\TabM w4.drew g2 n f2/\Ow3 w4.drew (w.heap.size+1) (.slice none 0 0) (.slice none 0 0) (.int .i64 0) from ⟨TA4.out,TB4.out,O4.out⟩)
  clear M4 L4 H4 B4 TA4 TB4 O4
  go_region_held3 (fun w'=>w'.cell? ⟨w.heap.size,0,none⟩=some (.slice a np c)/\w'.cell? ⟨w.heap.size,1,none⟩=some (.slice a' nf c')/\w'.cell? ⟨w3.heap.size,0,none⟩=some (.int .i64 lo.1)/\w'.cell? ⟨w3.heap.size,1,none⟩=some (.int .i64 lo.2.1)/\w'.cell? ⟨w3.heap.size,2,none⟩=some (.int .i64 lo.2.2)/\w'.cell? ⟨w3.heap.size+1,0,none⟩=some (.int .i64 hi.1)/\w'.cell? ⟨w3.heap.size+1,1,none⟩=some (.int .i64 hi.2.1)/\w'.cell? ⟨w3.heap.size+1,2,none⟩=some (.int .i64 hi.2.2))
    (first|(with_reducible exact bo_cells i0.1 i0.2.1 i0.2.2)|(with_reducible exact bo_cells i1.1 i1.2.1 i1.2.2)|(with_reducible exact bo_cells i2.1 i2.2.1 i2.2.2)|fail)
    (first
     |(go_at_call 128;(with_reducible refine (MI.out _).mono ?_);rintro e v1 ⟨rfl,hv⟩;have i1:=(⟨mes_below i0.1 hv,own_below i0.2.1 hv,own_below i0.2.2 hv⟩:Mes v1 w.heap.size a np c a' nf c'/\Own v1 w3.heap.size lo/\Own v1 (w3.heap.size+1) hi);have b1:=hid (bstep b0.out hv);have t1:=hid (⟨tabM_below t0.out.1 hv,tabM_below t0.out.2.1 hv,ow3_below t0.out.2.2 hv⟩:TabM v1 g1 n f1/\TabM v1 g2 n f2/\Ow3 v1 (w.heap.size+1) (.slice none 0 0) (.slice none 0 0) (.int .i64 0));clear hv)
     |(go_at_call 30;(with_reducible refine (BA.out _ b1.out).mono ?_);rintro e v2 ⟨rfl,hv⟩;have i2:=(⟨mes_below i1.1 hv,own_below i1.2.1 hv,own_below i1.2.2 hv⟩:Mes v2 w.heap.size a np c a' nf c'/\Own v2 w3.heap.size lo/\Own v2 (w3.heap.size+1) hi);have b2:=hid (bstep b1.out hv);have t2:=hid (⟨tabM_below t1.out.1 hv,tabM_below t1.out.2.1 hv,ow3_below t1.out.2.2 hv⟩:TabM v2 g1 n f1/\TabM v2 g2 n f2/\Ow3 v2 (w.heap.size+1) (.slice none 0 0) (.slice none 0 0) (.int .i64 0));clear hv)
      | fail)
  all_goals
    obtain ⟨ta,tb,o0,o1,o2,o3,o4,o5,o6⟩:=t2.out
    have TA:=hid ta
    have TB:=hid tb
    have hB:=b2.out
    clear ta tb
    go_wp2
    refine bodyPost_ret (v:=.tuple #[bdv g1 c1 g2 c2 n r,.int .i64 0]) (by rw [results_cell_tmp rfl];go_simp) rfl ⟨g1,c1,g2,c2,rfl,?_,?_,?_⟩
    · exact tabM_set (tabM_set (tabM_set TA.out q1 _ _) q1 _ _) q1 _ _
    · exact tabM_set (tabM_set (tabM_set TB.out q2 _ _) q2 _ _) q2 _ _
    · (repeat' (first|with_reducible exact hB|with_reducible refine Below.drew ?_|(with_reducible refine balloc ?_ _)|(with_reducible refine Below.setCell ?_ (by simp<;>omega) _)))
end Go.Proofs.YtbcjiigmbcfkeaaGreat
