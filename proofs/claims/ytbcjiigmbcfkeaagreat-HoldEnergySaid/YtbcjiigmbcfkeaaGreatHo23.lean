import Derived.Test.YtbcjiigmbcfkeaaGreatHoMf
import Derived.Test.YtbcjiigmbcfkeaaGreatHoMc
namespace Go.Proofs.YtbcjiigmbcfkeaaGreat
open Go.ChangeShapes Go.WideShapes Go.RowKit
open Sh
theorem h7ssp_zero (a b:Option Addr) (c d:Nat) (w:World):Calls Tryz.prog 21 #[.slice a 0 c,.slice b 0 d] w fun e w'=>e=.returned (.bool true)∧Below w.heap.size w w':=by
  go_enter Tryz.func21,Tryz.ntmps21
  go_wp2
  refine wp_loop_rounds 1 ?_
  rw [rounds_succ]
  go_wp2
  go_ret
  exact ⟨rfl,Below.refl _ _⟩
set_option maxRecDepth 100000 in
set_option maxHeartbeats 4000000 in
theorem h7ssp_row (b off b' off' n c d:Nat) (l h:Nat→Int) (w:World) (r:Row w b off n l h) (r':Row w b' off' n l h) (hn:n≤1000):Calls Tryz.prog 21 #[.slice (some ⟨b,off,none⟩) n c,.slice (some ⟨b',off',none⟩) n d] w fun e w'=>e=.returned (.bool true)∧Below w.heap.size w w':=by
  have hn':(n:Int)≤1000:=by omega
  have R:=Lib.hid r
  have R':=Lib.hid r'
  have hb1:=r.1
  have hb2:=r'.1
  clear r r'
  go_enter Tryz.func21,Tryz.ntmps21
  go_wp2
  go_loopw [5] (fun kv wr=>∃ k:Nat,k≤n∧kv=.int .i64 k∧Below w.heap.size w wr) (fun kv _=>n - (intOf kv).toNat)
  case atStart=>exact ⟨0,Nat.zero_le _,rfl,Below.refl _ _⟩
  case round =>
    obtain ⟨k,hk,rfl,BB⟩:=hrel
    have B0:=Lib.hid BB
    clear BB
    by_cases hlt:k<n
    · have hk1:(k:Int)<(n:Int):=by omega
      have q1:=row_below R.out B0.out
      have q2:=row_below R'.out B0.out
      obtain ⟨c0,c1⟩:=q1.2 k hlt
      obtain ⟨e0,e1⟩:=q2.2 k hlt
      have s1:=q1.1
      have s2:=q2.1
      clear q1 q2
      generalize l k=u at *
      generalize h k=v at *
      go_wp2
      go_quiet (fail)
      go_wp2
      go_roundw
      case rel=>exact ⟨k+1,by omega,by go_num,bdrewN B0.out _⟩
      case measure=>simp [intOf];omega
    · obtain rfl:k=n:=by omega
      go_wp2
      go_ret
      exact ⟨rfl,B0.out⟩
set_option maxRecDepth 100000 in
set_option maxHeartbeats 2000000 in
theorem hpo_v (a:Option Addr) (np c:Nat) (a':Option Addr) (nf c':Nat) (b:Option Addr) (n cap:Nat) (D vc:Int) (w:World) (V:Hid (∀ W,Below w.heap.size w W→Calls Tryz.prog 53 #[msv a np c a' nf c',.slice b n cap,.int .i64 D] W fun e w'=>e=.returned (.int .i64 vc)∧Below W.heap.size W w')) (z:(vc != 0)=true):Calls Tryz.prog 19 #[msv a np c a' nf c',.slice b n cap,.int .i64 D] w fun e w'=>e=.returned (.tuple #[.slice none 0 0,.int .i64 vc])∧Below w.heap.size w w':=by
  have M0:=Lib.hid (mes_new w a np c a' nf c' 25)
  have B0:=Lib.hid (show Below w.heap.size w (w.alloc (msc a np c a' nf c' 25)) from (Below.refl _ w).alloc (Nat.le_refl _) _)
  obtain ⟨m0,m1,ml⟩:=M0.out
  go_enter Tryz.func19,Tryz.ntmps19
  go_wp2_with fail
  with_reducible refine (V.out _ B0.out).mono ?_
  rintro e w1 ⟨rfl,hb1⟩
  have hB:=bstep B0.out hb1
  clear m0 m1 ml hb1
  go_wp2
  go_ret2
  exact ⟨rfl,by (repeat' (first|with_reducible exact hB|with_reducible refine Below.drew ?_|(with_reducible refine balloc ?_ _)|(with_reducible refine Below.setCell ?_ (by simp <;> omega) _)))⟩
set_option maxRecDepth 100000 in
set_option maxHeartbeats 2000000 in
theorem hpo_ok (a:Option Addr) (np c:Nat) (a':Option Addr) (nf c':Nat) (b1 off1 cap1 n:Nat) (D:Int) (f:Nat→Nat→Int × Int) (L H:Nat→Int) (w:World) (V:Hid (∀ W,Below w.heap.size w W→Calls Tryz.prog 53 #[msv a np c a' nf c',.slice (some ⟨b1,off1,none⟩) n cap1,.int .i64 D] W fun e w'=>e=.returned (.int .i64 0)∧Below W.heap.size W w')) (T:Hid (∀ W,Below w.heap.size w W→Calls Tryz.prog 54 #[msv a np c a' nf c',.int .i64 D,.func (.func 55) #[] #[]] W fun e w'=>∃ g cap,e=.returned (.tuple #[.slice (some ⟨g,0,none⟩) n cap,.int .i64 0])∧TabM w' g n f∧Below W.heap.size W w'))
    (PT:Hid (∀ g cap W,Below w.heap.size w W→TabM W g n f→Calls Tryz.prog 56 #[.slice (some ⟨g,0,none⟩) n cap,.slice (some ⟨b1,off1,none⟩) n cap1] W fun e w'=>∃ q cap,e=.returned (.tuple #[.slice (some ⟨q,0,none⟩) n cap,.int .i64 0])∧Row w' q 0 n L H∧Below W.heap.size W w')) :
    Calls Tryz.prog 19 #[msv a np c a' nf c',.slice (some ⟨b1,off1,none⟩) n cap1,.int .i64 D] w fun e w'=>∃ q cap,e=.returned (.tuple #[.slice (some ⟨q,0,none⟩) n cap,.int .i64 0])∧Row w' q 0 n L H∧Below w.heap.size w w':=by
  have M0:=Lib.hid (mes_new w a np c a' nf c' 25)
  have B0:=Lib.hid (show Below w.heap.size w (w.alloc (msc a np c a' nf c' 25)) from (Below.refl _ w).alloc (Nat.le_refl _) _)
  obtain ⟨m0,m1,ml⟩:=M0.out
  go_enter Tryz.func19,Tryz.ntmps19
  go_wp2_with fail
  with_reducible refine (V.out _ B0.out).mono ?_
  rintro e w1 ⟨rfl,hb1⟩
  have M1:=Lib.hid (mes_below M0.out hb1)
  have B1:=Lib.hid (bstep B0.out hb1)
  clear m0 m1 ml hb1 M0 B0 V
  obtain ⟨m0,m1,ml⟩:=M1.out
  go_wp2_with fail
  with_reducible refine (T.out _ B1.out).mono ?_
  rintro e w2 ⟨g,cap,rfl,tg,hb2⟩
  have B2:=Lib.hid (bstep B1.out hb2)
  have P2:=Lib.hid (PT.out g cap w2 B2.out tg)
  clear m0 m1 ml hb2 M1 B1 T PT tg
  go_wp2_with fail
  with_reducible refine P2.out.mono ?_
  rintro e w3 ⟨q,cap2,rfl,rr,hb3⟩
  have RR:=Lib.hid rr
  have hB:=bstep B2.out hb3
  clear hb3 P2 rr
  go_wp2
  go_ret2
  exact ⟨q,cap2,rfl,RR.out,hB⟩
set_option maxRecDepth 100000 in
set_option maxHeartbeats 2000000 in
theorem hene_v (a:Option Addr) (np c:Nat) (a':Option Addr) (nf c':Nat) (b:Option Addr) (n cap:Nat) (D vc:Int) (w:World) (V:Hid (∀ W,Below w.heap.size w W→Calls Tryz.prog 53 #[msv a np c a' nf c',.slice b n cap,.int .i64 D] W fun e w'=>e=.returned (.int .i64 vc)∧Below W.heap.size W w')) (z:(vc != 0)=true):Calls Tryz.prog 22 #[msv a np c a' nf c',.slice b n cap,.int .i64 D] w fun e w'=>e=.returned (spr ((0,0),vc))∧Below w.heap.size w w':=by
  have M0:=Lib.hid (mes_alloc (mes_new w a np c a' nf c' 25) (.cells #[.int .i64 0,.int .i64 0] 39))
  have R0:=Lib.hid (pair_new (w.alloc (msc a np c a' nf c' 25)) 0 0 39)
  simp only [World.size_alloc] at R0
  have B0:=Lib.hid (show Below w.heap.size w ((w.alloc (msc a np c a' nf c' 25)).alloc (.cells #[.int .i64 0,.int .i64 0] 39)) from balloc (balloc (Below.refl _ w) _) _)
  obtain ⟨m0,m1,ml⟩:=M0.out
  go_enter Tryz.func22,Tryz.ntmps22
  go_wp2_with fail
  with_reducible refine (V.out _ B0.out).mono ?_
  rintro e w1 ⟨rfl,hb1⟩
  obtain ⟨z0,z1,z2,z3,z4⟩:=pair_below R0.out hb1
  have hB:=bstep B0.out hb1
  clear m0 m1 ml hb1
  go_wp2
  refine bodyPost_ret (v:=spr ((0,0),vc)) (by rw [results_cell_tmp rfl];go_simp) rfl ⟨rfl,?_⟩
  (repeat' (first|with_reducible exact hB|with_reducible refine Below.drew ?_|(with_reducible refine balloc ?_ _)|(with_reducible refine Below.setCell ?_ (by simp <;> omega) _)))
set_option maxRecDepth 100000 in
set_option maxHeartbeats 2000000 in
theorem hene_ok (a:Option Addr) (np c:Nat) (a':Option Addr) (nf c':Nat) (b1 off1 cap1 n:Nat) (D:Int) (f:Nat→Nat→Int × Int) (R:Sp.R) (w:World) (V:Hid (∀ W,Below w.heap.size w W→Calls Tryz.prog 53 #[msv a np c a' nf c',.slice (some ⟨b1,off1,none⟩) n cap1,.int .i64 D] W fun e w'=>e=.returned (.int .i64 0)∧Below W.heap.size W w')) (T:Hid (∀ W,Below w.heap.size w W→Calls Tryz.prog 54 #[msv a np c a' nf c',.int .i64 D,.func (.func 62) #[] #[]] W fun e w'=>∃ g cap,e=.returned (.tuple #[.slice (some ⟨g,0,none⟩) n cap,.int .i64 0])∧TabM w' g n f∧Below W.heap.size W w'))
    (EN:Hid (∀ g cap W,Below w.heap.size w W→TabM W g n f→Calls Tryz.prog 63 #[.slice (some ⟨g,0,none⟩) n cap,.slice (some ⟨b1,off1,none⟩) n cap1] W fun e w'=>e=.returned (spr R)∧Below W.heap.size W w')) :
    Calls Tryz.prog 22 #[msv a np c a' nf c',.slice (some ⟨b1,off1,none⟩) n cap1,.int .i64 D] w fun e w'=>e=.returned (spr R)∧Below w.heap.size w w':=by
  obtain ⟨⟨ru,rv⟩,rz⟩:=R
  have M0:=Lib.hid (mes_alloc (mes_new w a np c a' nf c' 25) (.cells #[.int .i64 0,.int .i64 0] 39))
  have R0:=Lib.hid (pair_new (w.alloc (msc a np c a' nf c' 25)) 0 0 39)
  simp only [World.size_alloc] at R0
  have B0:=Lib.hid (show Below w.heap.size w ((w.alloc (msc a np c a' nf c' 25)).alloc (.cells #[.int .i64 0,.int .i64 0] 39)) from balloc (balloc (Below.refl _ w) _) _)
  obtain ⟨m0,m1,ml⟩:=M0.out
  go_enter Tryz.func22,Tryz.ntmps22
  go_wp2_with fail
  with_reducible refine (V.out _ B0.out).mono ?_
  rintro e w1 ⟨rfl,hb1⟩
  have M1:=Lib.hid (mes_below M0.out hb1)
  have R1:=Lib.hid (pair_below R0.out hb1)
  have B1:=Lib.hid (bstep B0.out hb1)
  clear m0 m1 ml hb1 M0 B0 V R0
  obtain ⟨m0,m1,ml⟩:=M1.out
  go_wp2_with fail
  with_reducible refine (T.out _ B1.out).mono ?_
  rintro e w2 ⟨g,cap,rfl,tg,hb2⟩
  have B2:=Lib.hid (bstep B1.out hb2)
  have R2:=Lib.hid (pair_below R1.out hb2)
  have P2:=Lib.hid (EN.out g cap w2 B2.out tg)
  clear m0 m1 ml hb2 M1 B1 T EN tg R1
  go_wp2_with fail
  with_reducible refine P2.out.mono ?_
  rintro e w3 ⟨rfl,hb3⟩
  obtain ⟨z0,z1,z2,z3,z4⟩:=pair_below R2.out hb3
  have hB:=bstep B2.out hb3
  clear hb3 P2
  go_wp2
  refine bodyPost_ret (v:=spr ((ru,rv),rz)) (by rw [results_cell_tmp rfl];go_simp) rfl ⟨rfl,?_⟩
  (repeat' (first|with_reducible exact hB|with_reducible refine Below.drew ?_|(with_reducible refine balloc ?_ _)|(with_reducible refine Below.setCell ?_ (by simp <;> omega) _)))
set_option maxRecDepth 100000 in
set_option maxHeartbeats 2000000 in
theorem hbw_v (a:Option Addr) (np c:Nat) (a':Option Addr) (nf c':Nat) (b:Option Addr) (n cap:Nat) (D vc:Int) (w:World) (V:Hid (∀ W,Below w.heap.size w W→Calls Tryz.prog 19 #[msv a np c a' nf c',.slice b n cap,.int .i64 D] W fun e w'=>e=.returned (.tuple #[.slice none 0 0,.int .i64 vc])∧Below W.heap.size W w')) (z:(vc != 0)=true):Calls Tryz.prog 24 #[msv a np c a' nf c',.slice b n cap,.int .i64 D] w fun e w'=>e=.returned (.tuple #[.int .i64 0,.int .i64 vc])∧Below w.heap.size w w':=by
  have M0:=Lib.hid (mes_new w a np c a' nf c' 25)
  have B0:=Lib.hid (show Below w.heap.size w (w.alloc (msc a np c a' nf c' 25)) from (Below.refl _ w).alloc (Nat.le_refl _) _)
  obtain ⟨m0,m1,ml⟩:=M0.out
  go_enter Tryz.func24,Tryz.ntmps24
  go_wp2_with fail
  with_reducible refine (V.out _ B0.out).mono ?_
  rintro e w1 ⟨rfl,hb1⟩
  have hB:=bstep B0.out hb1
  clear m0 m1 ml hb1
  go_wp2
  go_ret2
  exact ⟨rfl,by (repeat' (first|with_reducible exact hB|with_reducible refine Below.drew ?_|(with_reducible refine balloc ?_ _)|(with_reducible refine Below.setCell ?_ (by simp <;> omega) _)))⟩
set_option maxRecDepth 100000 in
set_option maxHeartbeats 2000000 in
theorem hbw_ok (a:Option Addr) (np c:Nat) (a':Option Addr) (nf c':Nat) (b1 off1 cap1 n:Nat) (D S r:Int) (L H:Nat→Int) (w:World) (PT:Hid (∀ W,Below w.heap.size w W→Calls Tryz.prog 19 #[msv a np c a' nf c',.slice (some ⟨b1,off1,none⟩) n cap1,.int .i64 D] W fun e w'=>∃ q cap,e=.returned (.tuple #[.slice (some ⟨q,0,none⟩) n cap,.int .i64 0])∧Row w' q 0 n L H∧Below W.heap.size W w')) (SU:Hid (∀ W,Below w.heap.size w W→Calls Tryz.prog 51 #[.slice (some ⟨b1,off1,none⟩) n cap1] W fun e w'=>e=.returned (.int .i64 S)∧Below W.heap.size W w'))
    (LO:Hid (∀ q cap W,Row W q 0 n L H→Calls Tryz.prog 65 #[.int .i64 S,.slice (some ⟨q,0,none⟩) n cap] W fun e w'=>e=.returned (.tuple #[.int .i64 r,.int .i64 0])∧Below W.heap.size W w')) :
    Calls Tryz.prog 24 #[msv a np c a' nf c',.slice (some ⟨b1,off1,none⟩) n cap1,.int .i64 D] w fun e w'=>e=.returned (.tuple #[.int .i64 r,.int .i64 0])∧Below w.heap.size w w':=by
  have M0:=Lib.hid (mes_new w a np c a' nf c' 25)
  have B0:=Lib.hid (show Below w.heap.size w (w.alloc (msc a np c a' nf c' 25)) from (Below.refl _ w).alloc (Nat.le_refl _) _)
  obtain ⟨m0,m1,ml⟩:=M0.out
  go_enter Tryz.func24,Tryz.ntmps24
  go_wp2_with fail
  with_reducible refine (PT.out _ B0.out).mono ?_
  rintro e w1 ⟨q,cap,rfl,rr,hb1⟩
  have W1:=Lib.hid rr
  have B1:=Lib.hid (bstep B0.out hb1)
  have S1:=Lib.hid (SU.out _ B1.out)
  clear m0 m1 ml hb1 rr M0 B0 PT SU
  go_wp2_with fail
  with_reducible refine S1.out.mono ?_
  rintro e w2 ⟨rfl,hb2⟩
  have L2:=Lib.hid (LO.out q cap w2 (row_below W1.out hb2))
  have B2:=Lib.hid (bstep B1.out hb2)
  clear hb2 S1 W1 B1 LO
  go_wp2_with fail
  with_reducible refine L2.out.mono ?_
  rintro e w3 ⟨rfl,hb3⟩
  have hB:=bstep B2.out hb3
  clear hb3 L2
  go_wp2
  go_ret2
  exact ⟨rfl,by (repeat' (first|with_reducible exact hB|with_reducible refine Below.drew ?_|(with_reducible refine balloc ?_ _)|(with_reducible refine Below.setCell ?_ (by simp <;> omega) _)))⟩
set_option maxRecDepth 100000 in
set_option maxHeartbeats 2000000 in
theorem hbv_v (a:Option Addr) (np c:Nat) (a':Option Addr) (nf c':Nat) (b:Option Addr) (n cap:Nat) (D vc:Int) (w:World) (V:Hid (∀ W,Below w.heap.size w W→Calls Tryz.prog 19 #[msv a np c a' nf c',.slice b n cap,.int .i64 D] W fun e w'=>e=.returned (.tuple #[.slice none 0 0,.int .i64 vc])∧Below W.heap.size W w')) (z:(vc != 0)=true):Calls Tryz.prog 26 #[msv a np c a' nf c',.slice b n cap,.int .i64 D] w fun e w'=>e=.returned (.tuple #[.int .i64 0,.int .i64 vc])∧Below w.heap.size w w':=by
  have M0:=Lib.hid (mes_new w a np c a' nf c' 25)
  have B0:=Lib.hid (show Below w.heap.size w (w.alloc (msc a np c a' nf c' 25)) from (Below.refl _ w).alloc (Nat.le_refl _) _)
  obtain ⟨m0,m1,ml⟩:=M0.out
  go_enter Tryz.func26,Tryz.ntmps26
  go_wp2_with fail
  with_reducible refine (V.out _ B0.out).mono ?_
  rintro e w1 ⟨rfl,hb1⟩
  have hB:=bstep B0.out hb1
  clear m0 m1 ml hb1
  go_wp2
  go_ret2
  exact ⟨rfl,by (repeat' (first|with_reducible exact hB|with_reducible refine Below.drew ?_|(with_reducible refine balloc ?_ _)|(with_reducible refine Below.setCell ?_ (by simp <;> omega) _)))⟩
set_option maxRecDepth 100000 in
set_option maxHeartbeats 2000000 in
theorem hbv_ok (a:Option Addr) (np c:Nat) (a':Option Addr) (nf c':Nat) (b1 off1 cap1 n:Nat) (D S r:Int) (L H:Nat→Int) (w:World) (PT:Hid (∀ W,Below w.heap.size w W→Calls Tryz.prog 19 #[msv a np c a' nf c',.slice (some ⟨b1,off1,none⟩) n cap1,.int .i64 D] W fun e w'=>∃ q cap,e=.returned (.tuple #[.slice (some ⟨q,0,none⟩) n cap,.int .i64 0])∧Row w' q 0 n L H∧Below W.heap.size W w')) (SU:Hid (∀ W,Below w.heap.size w W→Calls Tryz.prog 51 #[.slice (some ⟨b1,off1,none⟩) n cap1] W fun e w'=>e=.returned (.int .i64 S)∧Below W.heap.size W w'))
    (LO:Hid (∀ q cap W,Row W q 0 n L H→Calls Tryz.prog 67 #[.int .i64 S,.slice (some ⟨q,0,none⟩) n cap] W fun e w'=>e=.returned (.tuple #[.int .i64 r,.int .i64 0])∧Below W.heap.size W w')) :
    Calls Tryz.prog 26 #[msv a np c a' nf c',.slice (some ⟨b1,off1,none⟩) n cap1,.int .i64 D] w fun e w'=>e=.returned (.tuple #[.int .i64 r,.int .i64 0])∧Below w.heap.size w w':=by
  have M0:=Lib.hid (mes_new w a np c a' nf c' 25)
  have B0:=Lib.hid (show Below w.heap.size w (w.alloc (msc a np c a' nf c' 25)) from (Below.refl _ w).alloc (Nat.le_refl _) _)
  obtain ⟨m0,m1,ml⟩:=M0.out
  go_enter Tryz.func26,Tryz.ntmps26
  go_wp2_with fail
  with_reducible refine (PT.out _ B0.out).mono ?_
  rintro e w1 ⟨q,cap,rfl,rr,hb1⟩
  have W1:=Lib.hid rr
  have B1:=Lib.hid (bstep B0.out hb1)
  have S1:=Lib.hid (SU.out _ B1.out)
  clear m0 m1 ml hb1 rr M0 B0 PT SU
  go_wp2_with fail
  with_reducible refine S1.out.mono ?_
  rintro e w2 ⟨rfl,hb2⟩
  have L2:=Lib.hid (LO.out q cap w2 (row_below W1.out hb2))
  have B2:=Lib.hid (bstep B1.out hb2)
  clear hb2 S1 W1 B1 LO
  go_wp2_with fail
  with_reducible refine L2.out.mono ?_
  rintro e w3 ⟨rfl,hb3⟩
  have hB:=bstep B2.out hb3
  clear hb3 L2
  go_wp2
  go_ret2
  exact ⟨rfl,by (repeat' (first|with_reducible exact hB|with_reducible refine Below.drew ?_|(with_reducible refine balloc ?_ _)|(with_reducible refine Below.setCell ?_ (by simp <;> omega) _)))⟩
theorem pr_cells {w:World} {b:Nat} {x y:Int} (h:Pair w b x y):w.cell? ⟨b,0,none⟩=some (.int .i64 x)∧w.cell? ⟨b,1,none⟩=some (.int .i64 y):=⟨h.1,h.2.1⟩
set_option maxRecDepth 100000 in
set_option maxHeartbeats 2000000 in
theorem hto_v (a:Option Addr) (np c:Nat) (a':Option Addr) (nf c':Nat) (b:Option Addr) (n cap:Nat) (D vc:Int) (w:World) (V:Hid (∀ W,Below w.heap.size w W→Calls Tryz.prog 22 #[msv a np c a' nf c',.slice b n cap,.int .i64 D] W fun e w'=>e=.returned (spr ((0,0),vc))∧Below W.heap.size W w')) (z:(vc != 0)=true):Calls Tryz.prog 28 #[msv a np c a' nf c',.slice b n cap,.int .i64 D] w fun e w'=>e=.returned (.tuple #[.int .i64 0,.int .i64 vc])∧Below w.heap.size w w':=by
  have M0:=Lib.hid (mes_new w a np c a' nf c' 25)
  have B0:=Lib.hid (show Below w.heap.size w (w.alloc (msc a np c a' nf c' 25)) from (Below.refl _ w).alloc (Nat.le_refl _) _)
  obtain ⟨m0,m1,ml⟩:=M0.out
  go_enter Tryz.func28,Tryz.ntmps28
  go_wp2_with fail
  with_reducible refine (V.out _ B0.out).mono ?_
  rintro e w1 ⟨rfl,hb1⟩
  have hB:=balloc (bstep B0.out hb1) (.cells #[.int .i64 0,.int .i64 0] 39)
  clear m0 m1 ml hb1
  go_wp2
  go_ret2
  exact ⟨rfl,by (repeat' (first|with_reducible exact hB|with_reducible refine Below.drew ?_|(with_reducible refine balloc ?_ _)|(with_reducible refine Below.setCell ?_ (by simp <;> omega) _)))⟩
set_option maxRecDepth 100000 in
set_option maxHeartbeats 4000000 in
theorem hto_ok (a:Option Addr) (np c:Nat) (a':Option Addr) (nf c':Nat) (b1 off1 cap1 n:Nat) (D S l h r:Int) (w:World) (PT:Hid (∀ W,Below w.heap.size w W→Calls Tryz.prog 22 #[msv a np c a' nf c',.slice (some ⟨b1,off1,none⟩) n cap1,.int .i64 D] W fun e w'=>e=.returned (spr ((l,h),0))∧Below W.heap.size W w')) (SU:Hid (∀ W,Below w.heap.size w W→Calls Tryz.prog 51 #[.slice (some ⟨b1,off1,none⟩) n cap1] W fun e w'=>e=.returned (.int .i64 S)∧Below W.heap.size W w'))
    (TH:Hid (∀ W,Calls Tryz.prog 68 #[.int .i64 S,.agg #[.int .i64 l,.int .i64 h]] W fun e w'=>e=.returned (.tuple #[.int .i64 r,.int .i64 0])∧Below W.heap.size W w')) :
    Calls Tryz.prog 28 #[msv a np c a' nf c',.slice (some ⟨b1,off1,none⟩) n cap1,.int .i64 D] w fun e w'=>e=.returned (.tuple #[.int .i64 r,.int .i64 0])∧Below w.heap.size w w':=by
  have M0:=Lib.hid (mes_new w a np c a' nf c' 25)
  have B0:=Lib.hid (show Below w.heap.size w (w.alloc (msc a np c a' nf c' 25)) from (Below.refl _ w).alloc (Nat.le_refl _) _)
  obtain ⟨m0,m1,ml⟩:=M0.out
  go_enter Tryz.func28,Tryz.ntmps28
  go_wp2_with fail
  with_reducible refine (PT.out _ B0.out).mono ?_
  rintro e w1 ⟨rfl,hb1⟩
  have B1:=Lib.hid (balloc (bstep B0.out hb1) (.cells #[.int .i64 l,.int .i64 h] 39))
  have P1:=Lib.hid (pair_new w1 l h 39)
  clear m0 m1 ml hb1 M0 B0 PT
  go_wp2
  generalize w1.alloc (.cells #[.int .i64 l,.int .i64 h] 39)=w4 at *
  have i0:Pair w4.drew w1.heap.size l h:=P1.out
  have b0:=Lib.hid (show Below w.heap.size w w4.drew from Below.drew B1.out)
  clear P1 B1
  go_region_held3 (fun w'=>w'.cell? ⟨w1.heap.size,0,none⟩=some (.int .i64 l)∧w'.cell? ⟨w1.heap.size,1,none⟩=some (.int .i64 h))
    (first|(with_reducible exact pr_cells i0)|(with_reducible exact pr_cells i1)|(with_reducible exact pr_cells i2)|fail)
    (first
      | (go_at_call 51;(with_reducible refine (SU.out _ b0.out).mono ?_);rintro e v1 ⟨rfl,hv⟩;have i1:=pair_below i0 hv;have b1:=Lib.hid (bstep b0.out hv);clear hv)
      | (go_at_call 68;(with_reducible refine (TH.out _).mono ?_);rintro e v2 ⟨rfl,hv⟩;have i2:=pair_below i1 hv;have b2:=Lib.hid (bstep b1.out hv);clear hv)
      | fail)
  all_goals
    have hB:=b2.out
    go_wp2
    go_ret2
    exact ⟨rfl,by (repeat' (first|with_reducible exact hB|with_reducible refine Below.drew ?_|(with_reducible refine balloc ?_ _)|(with_reducible refine Below.setCell ?_ (by simp <;> omega) _)))⟩
end Go.Proofs.YtbcjiigmbcfkeaaGreat
