import Derived.Test.YtciimaojoococaaSo64
import Derived.Test.YtciimaojoococaaSoE
import Derived.Test.YtciimaojoococaaSoMd
import Derived.Test.YtciimaojoococaaMeet
namespace Go.Proofs.Ytciimaojoococaa
open Go.ChangeShapes Go.WideShapes Go.RowKit
open Sh
set_option maxRecDepth 100000 in
set_option maxHeartbeats 4000000 in
theorem sums_n (a:Option Addr) (n c:Nat) (x:P3) (s t d:Int) (w:World) (h:(4:Int) < (n:Int)) (K:Hid (∀ W,Calls Try.prog 4 #[] W fun e w'=>e=.returned (.bool true)∧Below W.heap.size W w')):Calls Try.prog 3 #[.slice a n c,earv x s t d] w fun e w'=>e=.returned (.bool true)∧Below w.heap.size w w':=by
  have E0:=Lib.hid (ownE_new w x s t d 26)
  have B0:=Lib.hid (show Below w.heap.size w (w.alloc (earb x s t d 26)) from (Below.refl _ w).alloc (Nat.le_refl _) _)
  go_enter Try.func3,Try.ntmps3
  go_wp2_with fail
  with_reducible refine (K.out _).mono ?_
  rintro e w1 ⟨rfl,hb1⟩
  have hB:=bstep B0.out hb1
  clear hb1
  go_wp2
  go_ret
  exact ⟨rfl,by (repeat' (first | with_reducible exact hB | with_reducible refine Below.drew ?_ | (with_reducible refine balloc ?_ _) | (with_reducible refine Below.setCell ?_ (by simp <;> omega) _)))⟩
set_option maxRecDepth 100000 in
set_option maxHeartbeats 4000000 in
theorem sums_d (a:Option Addr) (n c:Nat) (x:P3) (s t d:Int) (w:World) (h:¬ (4:Int) < (n:Int)) (hd:(1:Int) < d) (K:Hid (∀ W,Calls Try.prog 4 #[] W fun e w'=>e=.returned (.bool true)∧Below W.heap.size W w')):Calls Try.prog 3 #[.slice a n c,earv x s t d] w fun e w'=>e=.returned (.bool true)∧Below w.heap.size w w':=by
  have E0:=Lib.hid (ownE_new w x s t d 26)
  have B0:=Lib.hid (show Below w.heap.size w (w.alloc (earb x s t d 26)) from (Below.refl _ w).alloc (Nat.le_refl _) _)
  go_enter Try.func3,Try.ntmps3
  obtain ⟨⟨h0,h1,h2,h3,h4,h5⟩,el⟩:=E0.out
  go_wp2_with fail
  clear h0 h1 h2 h3 h4 h5 el
  with_reducible refine (K.out _).mono ?_
  rintro e w1 ⟨rfl,hb1⟩
  have hB:=bstep B0.out hb1
  clear hb1
  go_wp2
  go_ret
  exact ⟨rfl,by (repeat' (first | with_reducible exact hB | with_reducible refine Below.drew ?_ | (with_reducible refine balloc ?_ _) | (with_reducible refine Below.setCell ?_ (by simp <;> omega) _)))⟩
set_option maxRecDepth 100000 in
set_option maxHeartbeats 4000000 in
theorem sums_a (a:Option Addr) (n c:Nat) (x:P3) (s t d lt ht e1 k1 l e2:Int) (w:World) (h:¬ (4:Int) < (n:Int)) (hd:¬ (1:Int) < d) (z:(e1 != 0)=true) (TT:Hid (∀ W,Below w.heap.size w W→Calls Try.prog 5 #[.slice a n c,ptv x,.int .i64 d] W fun e w'=>e=.returned (spr ((lt,ht),e1))∧Below W.heap.size W w')) (TI:Hid (∀ W,Below w.heap.size w W→Calls Try.prog 6 #[.slice a n c,ptv x,.int .i64 s] W fun e w'=>e=.returned (.tuple #[.int .i64 k1,.int .i64 l,.int .i64 e2])∧Below W.heap.size W w')) (K:Hid (∀ W,Calls Try.prog 4 #[] W fun e w'=>e=.returned (.bool true)∧Below W.heap.size W w')):Calls Try.prog 3 #[.slice a n c,earv x s t d] w fun e w'=>e=.returned (.bool true)∧Below w.heap.size w w':=by
  have E0:=Lib.hid (ownE_new w x s t d 26)
  have B0:=Lib.hid (show Below w.heap.size w (w.alloc (earb x s t d 26)) from (Below.refl _ w).alloc (Nat.le_refl _) _)
  go_enter Try.func3,Try.ntmps3
  obtain ⟨⟨h0,h1,h2,h3,h4,h5⟩,el⟩:=E0.out
  go_wp2_with fail
  with_reducible refine (TT.out _ B0.out).mono ?_
  rintro e w1 ⟨rfl,hb1⟩
  clear h0 h1 h2 h3 h4 h5 el
  have ZB:=Lib.hid ((Below.refl w1.heap.size w1).alloc (Nat.le_refl _) (.cells #[.int .i64 lt,.int .i64 ht] 29))
  have E1:=Lib.hid (ownE_below (ownE_below E0.out hb1) ZB.out)
  have B1:=Lib.hid (balloc (bstep B0.out hb1) (.cells #[.int .i64 lt,.int .i64 ht] 29))
  have P1:=Lib.hid (pair_new w1 lt ht 29)
  have s0:w.heap.size < w1.heap.size:=by have:=hb1.size;simp at this;omega
  clear hb1 ZB E0 B0
  obtain ⟨⟨h0,h1,h2,h3,h4,h5⟩,el⟩:=E1.out
  go_wp2_with fail
  with_reducible refine (TI.out _ B1.out).mono ?_
  rintro e w2 ⟨rfl,hb2⟩
  clear h0 h1 h2 h3 h4 h5 el
  have E2:=Lib.hid (ownE_below E1.out hb2)
  have P2:=Lib.hid (pair_below P1.out hb2)
  have B2:=Lib.hid (bstep B1.out hb2)
  have s1:w1.heap.size < w2.heap.size:=by have:=hb2.size;simp at this;omega
  clear hb2 E1 P1 B1
  go_wp2_with fail
  with_reducible refine (K.out _).mono ?_
  rintro e w3 ⟨rfl,hb3⟩
  have hB:=bstep B2.out hb3
  clear hb3
  go_wp2
  go_ret
  exact ⟨rfl,by (repeat' (first | with_reducible exact hB | with_reducible refine Below.drew ?_ | (with_reducible refine balloc ?_ _) | (with_reducible refine Below.setCell ?_ (by simp <;> omega) _)))⟩
set_option maxRecDepth 100000 in
set_option maxHeartbeats 4000000 in
theorem sums_b (a:Option Addr) (n c:Nat) (x:P3) (s t d lt ht e1 k1 l e2:Int) (w:World) (h:¬ (4:Int) < (n:Int)) (hd:¬ (1:Int) < d) (z0:(e1 != 0)=false) (z:(e2 != 0)=true) (TT:Hid (∀ W,Below w.heap.size w W→Calls Try.prog 5 #[.slice a n c,ptv x,.int .i64 d] W fun e w'=>e=.returned (spr ((lt,ht),e1))∧Below W.heap.size W w')) (TI:Hid (∀ W,Below w.heap.size w W→Calls Try.prog 6 #[.slice a n c,ptv x,.int .i64 s] W fun e w'=>e=.returned (.tuple #[.int .i64 k1,.int .i64 l,.int .i64 e2])∧Below W.heap.size W w')) (K:Hid (∀ W,Calls Try.prog 4 #[] W fun e w'=>e=.returned (.bool true)∧Below W.heap.size W w')):Calls Try.prog 3 #[.slice a n c,earv x s t d] w fun e w'=>e=.returned (.bool true)∧Below w.heap.size w w':=by
  have E0:=Lib.hid (ownE_new w x s t d 26)
  have B0:=Lib.hid (show Below w.heap.size w (w.alloc (earb x s t d 26)) from (Below.refl _ w).alloc (Nat.le_refl _) _)
  go_enter Try.func3,Try.ntmps3
  obtain ⟨⟨h0,h1,h2,h3,h4,h5⟩,el⟩:=E0.out
  go_wp2_with fail
  with_reducible refine (TT.out _ B0.out).mono ?_
  rintro e w1 ⟨rfl,hb1⟩
  clear h0 h1 h2 h3 h4 h5 el
  have ZB:=Lib.hid ((Below.refl w1.heap.size w1).alloc (Nat.le_refl _) (.cells #[.int .i64 lt,.int .i64 ht] 29))
  have E1:=Lib.hid (ownE_below (ownE_below E0.out hb1) ZB.out)
  have B1:=Lib.hid (balloc (bstep B0.out hb1) (.cells #[.int .i64 lt,.int .i64 ht] 29))
  have P1:=Lib.hid (pair_new w1 lt ht 29)
  have s0:w.heap.size < w1.heap.size:=by have:=hb1.size;simp at this;omega
  clear hb1 ZB E0 B0
  obtain ⟨⟨h0,h1,h2,h3,h4,h5⟩,el⟩:=E1.out
  go_wp2_with fail
  with_reducible refine (TI.out _ B1.out).mono ?_
  rintro e w2 ⟨rfl,hb2⟩
  clear h0 h1 h2 h3 h4 h5 el
  have E2:=Lib.hid (ownE_below E1.out hb2)
  have P2:=Lib.hid (pair_below P1.out hb2)
  have B2:=Lib.hid (bstep B1.out hb2)
  have s1:w1.heap.size < w2.heap.size:=by have:=hb2.size;simp at this;omega
  clear hb2 E1 P1 B1
  go_wp2_with fail
  with_reducible refine (K.out _).mono ?_
  rintro e w3 ⟨rfl,hb3⟩
  have hB:=bstep B2.out hb3
  clear hb3
  go_wp2
  go_ret
  exact ⟨rfl,by (repeat' (first | with_reducible exact hB | with_reducible refine Below.drew ?_ | (with_reducible refine balloc ?_ _) | (with_reducible refine Below.setCell ?_ (by simp <;> omega) _)))⟩
set_option maxRecDepth 100000 in
set_option maxHeartbeats 4000000 in
theorem sums_c (a:Option Addr) (n c:Nat) (x:P3) (s t d lt ht e1 k1 l e2:Int) (w:World) (h:¬ (4:Int) < (n:Int)) (hd:¬ (1:Int) < d) (z0:(e1 != 0)=false) (z1:(e2 != 0)=false) (z:(300:Int) < l) (TT:Hid (∀ W,Below w.heap.size w W→Calls Try.prog 5 #[.slice a n c,ptv x,.int .i64 d] W fun e w'=>e=.returned (spr ((lt,ht),e1))∧Below W.heap.size W w')) (TI:Hid (∀ W,Below w.heap.size w W→Calls Try.prog 6 #[.slice a n c,ptv x,.int .i64 s] W fun e w'=>e=.returned (.tuple #[.int .i64 k1,.int .i64 l,.int .i64 e2])∧Below W.heap.size W w')) (K:Hid (∀ W,Calls Try.prog 4 #[] W fun e w'=>e=.returned (.bool true)∧Below W.heap.size W w')):Calls Try.prog 3 #[.slice a n c,earv x s t d] w fun e w'=>e=.returned (.bool true)∧Below w.heap.size w w':=by
  have E0:=Lib.hid (ownE_new w x s t d 26)
  have B0:=Lib.hid (show Below w.heap.size w (w.alloc (earb x s t d 26)) from (Below.refl _ w).alloc (Nat.le_refl _) _)
  go_enter Try.func3,Try.ntmps3
  obtain ⟨⟨h0,h1,h2,h3,h4,h5⟩,el⟩:=E0.out
  go_wp2_with fail
  with_reducible refine (TT.out _ B0.out).mono ?_
  rintro e w1 ⟨rfl,hb1⟩
  clear h0 h1 h2 h3 h4 h5 el
  have ZB:=Lib.hid ((Below.refl w1.heap.size w1).alloc (Nat.le_refl _) (.cells #[.int .i64 lt,.int .i64 ht] 29))
  have E1:=Lib.hid (ownE_below (ownE_below E0.out hb1) ZB.out)
  have B1:=Lib.hid (balloc (bstep B0.out hb1) (.cells #[.int .i64 lt,.int .i64 ht] 29))
  have P1:=Lib.hid (pair_new w1 lt ht 29)
  have s0:w.heap.size < w1.heap.size:=by have:=hb1.size;simp at this;omega
  clear hb1 ZB E0 B0
  obtain ⟨⟨h0,h1,h2,h3,h4,h5⟩,el⟩:=E1.out
  go_wp2_with fail
  with_reducible refine (TI.out _ B1.out).mono ?_
  rintro e w2 ⟨rfl,hb2⟩
  clear h0 h1 h2 h3 h4 h5 el
  have E2:=Lib.hid (ownE_below E1.out hb2)
  have P2:=Lib.hid (pair_below P1.out hb2)
  have B2:=Lib.hid (bstep B1.out hb2)
  have s1:w1.heap.size < w2.heap.size:=by have:=hb2.size;simp at this;omega
  clear hb2 E1 P1 B1
  go_wp2_with fail
  with_reducible refine (K.out _).mono ?_
  rintro e w3 ⟨rfl,hb3⟩
  have hB:=bstep B2.out hb3
  clear hb3
  go_wp2
  go_ret
  exact ⟨rfl,by (repeat' (first | with_reducible exact hB | with_reducible refine Below.drew ?_ | (with_reducible refine balloc ?_ _) | (with_reducible refine Below.setCell ?_ (by simp <;> omega) _)))⟩
set_option maxRecDepth 100000 in
set_option maxHeartbeats 4000000 in
theorem sums_ok (a:Option Addr) (n c:Nat) (x:P3) (s t d lt ht k1 l:Int) (sl sh se p q:Int) (T:Nat) (g:Nat→Sp.R) (w:World) (h:¬ (4:Int) < (n:Int)) (hd:¬ (1:Int) < d) (hT:l + 1=(T:Int)) (hT2:T≤301) (TT:Hid (∀ W,Below w.heap.size w W→Calls Try.prog 5 #[.slice a n c,ptv x,.int .i64 d] W fun e w'=>e=.returned (spr ((lt,ht),0))∧Below W.heap.size W w')) (TI:Hid (∀ W,Below w.heap.size w W→Calls Try.prog 6 #[.slice a n c,ptv x,.int .i64 s] W fun e w'=>e=.returned (.tuple #[.int .i64 k1,.int .i64 l,.int .i64 0])∧Below W.heap.size W w'))
    (G:Hid (∀ i,i < T→∀ W,Below w.heap.size w W→Calls Try.prog 7 #[.slice a n c,ptv x,.int .i64 s,.int .i64 (i:Nat),.int .i64 d] W fun e w'=>e=.returned (spr (g i))∧Below W.heap.size W w'))
    (SM:Hid (geN g T=0→∀ u W,World.ownsRow W 0 29 2 u T (svs (gsN g T))→Calls Try.prog 8 #[u] W fun e w'=>e=.returned (spr ((sl,sh),se))∧Below W.heap.size W w'))
    (MT:Hid (geN g T=0→se=0→∀ W,Calls Try.prog 9 #[spv sl sh,spv lt ht] W fun e w'=>e=.returned (.tuple #[spv p q,.bool true,.int .i64 0])∧Below W.heap.size W w')) (K:Hid (∀ W,Calls Try.prog 4 #[] W fun e w'=>e=.returned (.bool true)∧Below W.heap.size W w')):Calls Try.prog 3 #[.slice a n c,earv x s t d] w fun e w'=>e=.returned (.bool true)∧Below w.heap.size w w':=by
  obtain ⟨i0,hi,hz0,hz1,hz2⟩:=info_parts infoSp8
  have HI:=Lib.hid hi
  have HZ0:=Lib.hid hz0
  have HZ1:=Lib.hid hz1
  have HZ2:=Lib.hid hz2
  clear hi hz0 hz1 hz2
  have hl:¬ (300:Int) < l:=by omega
  have E0:=Lib.hid (ownE_new w x s t d 26)
  have B0:=Lib.hid (show Below w.heap.size w (w.alloc (earb x s t d 26)) from (Below.refl _ w).alloc (Nat.le_refl _) _)
  go_enter Try.func3,Try.ntmps3
  obtain ⟨⟨h0,h1,h2,h3,h4,h5⟩,el⟩:=E0.out
  go_wp2_with fail
  with_reducible refine (TT.out _ B0.out).mono ?_
  rintro e w1 ⟨rfl,hb1⟩
  clear h0 h1 h2 h3 h4 h5 el
  have ZB:=Lib.hid ((Below.refl w1.heap.size w1).alloc (Nat.le_refl _) (.cells #[.int .i64 lt,.int .i64 ht] 29))
  have E1:=Lib.hid (ownE_below (ownE_below E0.out hb1) ZB.out)
  have B1:=Lib.hid (balloc (bstep B0.out hb1) (.cells #[.int .i64 lt,.int .i64 ht] 29))
  have P1:=Lib.hid (pair_new w1 lt ht 29)
  have s0:w.heap.size < w1.heap.size:=by have:=hb1.size;simp at this;omega
  clear hb1 ZB E0 B0
  obtain ⟨⟨h0,h1,h2,h3,h4,h5⟩,el⟩:=E1.out
  go_wp2_with fail
  with_reducible refine (TI.out _ B1.out).mono ?_
  rintro e w2 ⟨rfl,hb2⟩
  clear h0 h1 h2 h3 h4 h5 el
  have E2:=Lib.hid (ownE_below E1.out hb2)
  have P2:=Lib.hid (pair_below P1.out hb2)
  have B2:=Lib.hid (bstep B1.out hb2)
  have s1:w1.heap.size < w2.heap.size:=by have:=hb2.size;simp at this;omega
  clear hb2 E1 P1 B1
  have l0:w.heap.size < w2.heap.size:=by omega
  go_wp2
  go_loopw [10,11] (fun sv kv wr=>∃ k:Nat,k≤T∧kv=.int .i64 k∧geN g k=0∧wr.ownsRow w2.heap.size 29 2 sv k (svs (gsN g k))∧Below w2.heap.size w2 wr) (fun _ kv _=>T - (intOf kv).toNat)
  case atStart=>exact ⟨0,Nat.zero_le _,rfl,rfl,World.ownsRow_nil _ _ _ _,Below.refl _ _⟩
  case round =>
    obtain ⟨k,hk,rfl,good,how,hbb⟩:=hrel
    have GOOD:=Lib.hid good
    have ROW:=Lib.hid how
    have BB:=Lib.hid hbb
    clear good how hbb
    have szw:=BB.out.size
    have BA:=Lib.hid (B2.out.trans (BB.out.mono B2.out.size))
    by_cases hlt:k < T
    · have hk1:(k:Int)≤l:=by omega
      have EW:=Lib.hid (ownE_in E2.out BB.out l0)
      have GK:=Lib.hid (G.out k hlt)
      have HIT:=Lib.hid (fun h:(g k).2 ≠ 0=>geN_hit hlt GOOD.out h)
      have NEXT:=Lib.hid (fun h:(g k).2=0=>geN_next GOOD.out h)
      have GS:=Lib.hid (show gsN g (k + 1)=gsN g k ++ [(g k).1] from rfl)
      generalize g k=gr at *
      obtain ⟨⟨h0,h1,h2,h3,h4,h5⟩,el⟩:=EW.out
      go_wp2_with fail
      with_reducible refine (GK.out _ BA.out).mono ?_
      rintro e w5 ⟨rfl,hb5⟩
      obtain ⟨⟨u,v⟩,z⟩:=gr
      dsimp only at *
      have BW:=Lib.hid (BB.out.trans (hb5.mono szw))
      have ROWc:=Lib.hid (own_below9 ROW.out hb5)
      have sz5:=BW.out.size
      clear hb5 ROW h0 h1 h2 h3 h4 h5 el EW GK
      obtain ⟨g0,g1,g2,g3,gl⟩:=pair_new w5 u v 29
      by_cases z0:z=0
      · subst z0
        have NX:=Lib.hid (NEXT.out (by first | rfl | trivial))
        clear HIT NEXT
        have ROWd:=ROWc
        clear ROWc
        have ROWc:=Lib.hid (ROWd.out.alloc (.cells #[.int .i64 u,.int .i64 v] 29))
        have hm60:k + 1≤301:=by omega
        go_wp2_with (at_builtin;(refine wpList_append_own _ rfl _ _ 35 rfl w2.heap.size 29 i0 (.agg #[.int .i64 0,.int .i64 0]) 2 16 Try.underlying35 HI.out HZ0.out HZ1.out HZ2.out rfl (by decide) _ k (svs (gsN g k)) rfl (ROWc.out.alloc _) ⟨_,0,none⟩ 1 1 [.int .i64 u,.int .i64 v] rfl rfl (sp2_new' _ _ _ _ _ (by simp)) (by intro u hu;simp at hu;rcases hu with rfl | rfl <;> rfl) (by unfold maxLen;omega) (by omega) (by simp;omega) ?_);intro v' w7 hown' hgrow _;have OW:=Lib.hid hown';have GR:=Lib.hid hgrow;clear hown' hgrow)
        have BG:=Lib.hid (BW.out.trans ((((Below.refl w2.heap.size w5).alloc (by omega) _).alloc (by simp;omega) _).grown GR.out (by simp;omega) (fun gg hg=>(ROWd.out.lt gg hg).1)))
        go_roundw
        case rel=>exact ⟨k + 1,by omega,by go_num,NX.out,by rw [GS.out,← svs_snoc];exact OW.out,BG.out⟩
        case measure=>simp [intOf];omega
      · have z1:(z != 0)=true:=bne_iff_ne.2 z0
        have B5:=Lib.hid (balloc (B2.out.trans (BW.out.mono B2.out.size)) (.cells #[.int .i64 u,.int .i64 v] 29))
        clear HIT NEXT
        go_wp2_with fail
        with_reducible refine (K.out _).mono ?_
        rintro e w6 ⟨rfl,hb6⟩
        have hB:=bstep B5.out hb6
        clear hb6
        go_wp2
        go_ret
        exact ⟨rfl,by (repeat' (first | with_reducible exact hB | with_reducible refine Below.drew ?_ | (with_reducible refine balloc ?_ _) | (with_reducible refine Below.setCell ?_ (by simp <;> omega) _)))⟩
    · obtain rfl:k=T:=by omega
      have hk2:¬ ((k:Int)≤l):=by omega
      have UV:=Lib.hid (own_base9 ROW.out (Nat.zero_le _))
      have SM0:=Lib.hid (SM.out GOOD.out)
      have MT0:=Lib.hid (MT.out GOOD.out)
      have Q4:=Lib.hid (pair_in P2.out BB.out s1)
      clear G HI HZ0 HZ1 HZ2 ROW GOOD SM MT
      go_wp2_with fail
      with_reducible refine (SM0.out _ _ UV.out).mono ?_
      rintro e w5 ⟨rfl,hb5⟩
      have Q5:=Lib.hid (pair_alloc (pair_below Q4.out hb5) (.cells #[.int .i64 sl,.int .i64 sh] 29))
      have S5:=Lib.hid (pair_new w5 sl sh 29)
      have B5:=Lib.hid (balloc (bstep BA.out hb5) (.cells #[.int .i64 sl,.int .i64 sh] 29))
      clear hb5
      by_cases z0:se=0
      · have MT1:=Lib.hid (MT0.out z0)
        subst z0
        obtain ⟨a0,a1,a2,a3,a4⟩:=Q5.out
        obtain ⟨b0,b1,b2,b3,b4⟩:=S5.out
        go_wp2_with fail
        with_reducible refine (MT1.out _).mono ?_
        rintro e w6 ⟨rfl,hb6⟩
        have B6:=Lib.hid (balloc (bstep B5.out hb6) (.cells #[.int .i64 p,.int .i64 q] 29))
        clear hb6 a0 a1 a2 a3 a4 b0 b1 b2 b3 b4
        go_wp2_with fail
        with_reducible refine (K.out _).mono ?_
        rintro e w7 ⟨rfl,hb7⟩
        have hB:=bstep B6.out hb7
        clear hb7
        go_wp2
        go_ret
        exact ⟨rfl,by (repeat' (first | with_reducible exact hB | with_reducible refine Below.drew ?_ | (with_reducible refine balloc ?_ _) | (with_reducible refine Below.setCell ?_ (by simp <;> omega) _)))⟩
      · have z1:(se != 0)=true:=bne_iff_ne.2 z0
        go_wp2_with fail
        with_reducible refine (K.out _).mono ?_
        rintro e w6 ⟨rfl,hb6⟩
        have hB:=bstep B5.out hb6
        clear hb6
        go_wp2
        go_ret
        exact ⟨rfl,by (repeat' (first | with_reducible exact hB | with_reducible refine Below.drew ?_ | (with_reducible refine balloc ?_ _) | (with_reducible refine Below.setCell ?_ (by simp <;> omega) _)))⟩
theorem tot_vld {n:Nat} {Q:Nat→Pu} {x:P3} {d:Int} (h:(totR n Q x d).2=0):Sp.vldB (totR n Q x d).1.1 (totR n Q x d).1.2=true:=by
  unfold totR at h ⊢
  by_cases v:vpcode n Q=0
  · rw [if_pos v] at h ⊢
    by_cases a:akc x d=0
    · rw [if_pos a] at h ⊢
      obtain ⟨e,y⟩:=q8sceR_ok h
      rw [e]
      exact y
    · rw [if_neg a] at h;exact absurd h a
  · rw [if_neg v] at h;exact absurd h v
theorem tk2_nn {n:Nat} {Q:Nat→Pu} {x:P3} {s:Int} (e:tkE n Q x s=0):0≤tk2 n Q x s:=by
  have e9:=e
  unfold tkE at e9
  have z:mcT n Q x s=0:=by
    by_cases z:mcT n Q x s=0
    · exact z
    · rw [if_neg z] at e9;exact absurd e9 z
  rw [if_pos z] at e9
  have n0:n ≠ 0:=fun y=>by rw [if_pos y] at e9;exact absurd e9 (by decide)
  obtain ⟨⟨h16,hp⟩,_⟩:=mcT_ok z
  unfold tk2
  rw [if_pos e]
  have a:=mxf_ge (gT Q x s) (n:=n - 1) (k:=0) (by omega)
  obtain ⟨_,_,⟨b,_⟩,_⟩:=pucode_ok (hp 0 (by omega))
  have g:gT Q x s 0=(Q 0).2.1 + (tkf (farN (Q 0).1 x) s:Nat):=rfl
  omega
theorem sums_walk (a:Option Addr) (n c:Nat) (Q:Nat→Pu) (x:P3) (s t d:Int) (w:World) (hm:n≤maxLen) (hz:(a=none→c=0)∧n≤c) (r:LstU w a n Q):Calls Try.prog 3 #[.slice a n c,earv x s t d] w fun e w'=>e=.returned (.bool true)∧Below w.heap.size w w':=by
  unfold maxLen at hm
  have K:=Lib.hid fun W=>sane_any W
  by_cases h:(4:Int) < (n:Int)
  · exact sums_n a n c x s t d w h K
  by_cases hd:(1:Int) < d
  · exact sums_d a n c x s t d w h hd K
  have TT:=Lib.hid fun W (B:Below w.heap.size w W)=>tot_any a n c Q x d W (lstU_below r B) (by omega)
  have TI:=Lib.hid fun W (B:Below w.heap.size w W)=>tic_any a n c Q x s W (lstU_below r B) (by omega) hz.2
  by_cases z:(totR n Q x d).2=0
  · by_cases z2:tkE n Q x s=0
    · by_cases z3:(300:Int) < tk2 n Q x s
      · exact sums_c a n c x s t d (totR n Q x d).1.1 (totR n Q x d).1.2 (totR n Q x d).2 _ _ _ w h hd (bne_eq_false_iff_eq.2 z) (bne_eq_false_iff_eq.2 z2) z3 TT TI K
      · have nn:=tk2_nn z2
        have hT:tk2 n Q x s + 1=(((tk2 n Q x s + 1).toNat:Nat):Int):=by omega
        obtain ⟨T,eT⟩:∃ T:Nat,(tk2 n Q x s + 1).toNat=T:=⟨_,rfl⟩
        rw [eT] at hT
        obtain ⟨g,eg⟩:∃ g:Nat→Sp.R,g=fun i=>scnR n Q x s (i:Nat) d:=⟨_,rfl⟩
        have et:totR n Q x d=(((totR n Q x d).1.1,(totR n Q x d).1.2),0):=Prod.ext rfl z
        have vt:=tot_vld z
        have TM:=fun sc=>sums_meet (n:=n) (T:=T) (Q:=Q) (x:=x) (s:=s) (d:=d) z z2 (by omega) sc
        obtain ⟨lt,hlt⟩:∃ lt,(totR n Q x d).1.1=lt:=⟨_,rfl⟩
        obtain ⟨ht,hht⟩:∃ ht,(totR n Q x d).1.2=ht:=⟨_,rfl⟩
        rw [hlt,hht] at et vt TM
        rw [et] at TT
        rw [z2] at TI
        have es:geN g T=0→sceR g T=smR8 (fun k=>((gsN g T).getD k (0,0)).1) (fun k=>((gsN g T).getD k (0,0)).2) T:=fun good=>by
          unfold sceR
          rw [if_neg (fun c=>c good)]
        obtain ⟨R,hR⟩:∃ R,smR8 (fun k=>((gsN g T).getD k (0,0)).1) (fun k=>((gsN g T).getD k (0,0)).2) T=R:=⟨_,rfl⟩
        rw [hR] at es
        refine sums_ok a n c x s t d lt ht _ _ R.1.1 R.1.2 R.2 (Sp.mx R.1.1 lt) (Sp.mn R.1.2 ht) T g w h hd hT (by omega) TT TI
          (Lib.hid fun i _ W B=>by rw [eg];exact scn_any a n c Q x s (i:Nat) d W (lstU_below r B) (by omega))
          (Lib.hid fun _ u W ho=>by have q:=sum8_own u T _ W ho (gsN_len _ _) (by omega);rw [hR] at q;exact q)
          (Lib.hid fun good se W=>?_) K
        have e:=es good
        obtain ⟨e1,e2⟩:=q8sceR_ok (g:=g) (n:=T) (by rw [e];exact se)
        have GE:=q8geN_all good
        rw [e] at e1
        rw [e1]
        obtain ⟨c1,c2⟩:=TM (fun i hi=>by have:=GE i hi;rw [eg] at this;exact this)
        rw [eg] at e2 ⊢
        exact meet_yes _ _ _ _ W e2 vt c2 c1
    · exact sums_b a n c x s t d (totR n Q x d).1.1 (totR n Q x d).1.2 (totR n Q x d).2 _ _ _ w h hd (bne_eq_false_iff_eq.2 z) (bne_iff_ne.2 z2) TT TI K
  · exact sums_a a n c x s t d (totR n Q x d).1.1 (totR n Q x d).1.2 (totR n Q x d).2 _ _ _ w h hd (bne_iff_ne.2 z) TT TI K
end Go.Proofs.Ytciimaojoococaa
