import Derived.Test.YtgchcnpgjfoadaaGreatSoIa
import Derived.Test.YtgchcnpgjfoadaaGreatSoMd
namespace Go.Proofs.YtgchcnpgjfoadaaGreat
open Go.ChangeShapes Go.WideShapes Go.RowKit
open Sh
theorem ims_v (a:Option Addr) (n c:Nat) (s:Bool) (vc:Int) (w:World) (V:Hid (∀ W,Below w.heap.size w W→Calls Tryz.prog 27 #[.slice a n c] W fun e w'=>e=.returned (.int .i64 vc)∧Below W.heap.size W w')) (z:(vc != 0)=true):Calls Tryz.prog 43 #[.slice a n c,.bool s] w fun e w'=>e=.returned (.tuple #[.slice none 0 0,.int .i64 vc])∧Below w.heap.size w w':=by
  go_enter Tryz.func43,Tryz.ntmps43
  go_wp2_with fail
  refine (V.out _ (Below.refl _ w)).mono ?_
  rintro e w1 ⟨rfl,hb1⟩
  go_wp2
  go_ret2
  exact ⟨rfl,by (repeat' (first | exact Below.refl _ _ | refine bstep ?_ hb1 | refine Below.setCell ?_ (by simp <;> omega) _ | refine balloc ?_ _ | refine Below.drew ?_ | refine bdrewN ?_ _))⟩
theorem ims_b (a:Option Addr) (n c:Nat) (s:Bool) (w:World) (V:Hid (∀ W,Below w.heap.size w W→Calls Tryz.prog 27 #[.slice a n c] W fun e w'=>e=.returned (.int .i64 0)∧Below W.heap.size W w')) (CT:Hid (∀ W,Below w.heap.size w W→Calls Tryz.prog 67 #[.slice a n c,.func (.func 68) #[] #[]] W fun e w'=>e=.returned (.bool true)∧Below W.heap.size W w')):Calls Tryz.prog 43 #[.slice a n c,.bool s] w fun e w'=>e=.returned (.tuple #[.slice none 0 0,.int .i64 1])∧Below w.heap.size w w':=by
  go_enter Tryz.func43,Tryz.ntmps43
  go_wp2_with fail
  refine (V.out _ (Below.refl _ w)).mono ?_
  rintro e w1 ⟨rfl,hb1⟩
  go_wp2_with fail
  refine (CT.out _ hb1).mono ?_
  rintro e w2 ⟨rfl,hb2⟩
  have hb12:Below w.heap.size w w2:=bstep hb1 hb2
  go_wp2
  go_ret2
  exact ⟨rfl,by (repeat' (first | exact Below.refl _ _ | refine bstep ?_ hb12 | refine Below.setCell ?_ (by simp <;> omega) _ | refine balloc ?_ _ | refine Below.drew ?_ | refine bdrewN ?_ _))⟩
theorem ims_l (a:Option Addr) (n c:Nat) (s:Bool) (w:World) (V:Hid (∀ W,Below w.heap.size w W→Calls Tryz.prog 27 #[.slice a n c] W fun e w'=>e=.returned (.int .i64 0)∧Below W.heap.size W w')) (CT:Hid (∀ W,Below w.heap.size w W→Calls Tryz.prog 67 #[.slice a n c,.func (.func 68) #[] #[]] W fun e w'=>e=.returned (.bool false)∧Below W.heap.size W w')) (h8:8 < n) (hn:n≤16):Calls Tryz.prog 43 #[.slice a n c,.bool s] w fun e w'=>e=.returned (.tuple #[.slice none 0 0,.int .i64 4])∧Below w.heap.size w w':=by
  have h1:(8:Int) < n:=by omega
  have h2:(n:Int)≤16:=by omega
  go_enter Tryz.func43,Tryz.ntmps43
  go_wp2_with fail
  refine (V.out _ (Below.refl _ w)).mono ?_
  rintro e w1 ⟨rfl,hb1⟩
  go_wp2_with fail
  refine (CT.out _ hb1).mono ?_
  rintro e w2 ⟨rfl,hb2⟩
  have hb12:Below w.heap.size w w2:=bstep hb1 hb2
  go_wp2
  go_ret2
  exact ⟨rfl,by (repeat' (first | exact Below.refl _ _ | refine bstep ?_ hb12 | refine Below.setCell ?_ (by simp <;> omega) _ | refine balloc ?_ _ | refine Below.drew ?_ | refine bdrewN ?_ _))⟩
set_option maxRecDepth 100000 in
set_option maxHeartbeats 2000000 in
theorem ims_z (a:Option Addr) (c:Nat) (s:Bool) (w:World) (V:Hid (∀ W,Below w.heap.size w W→Calls Tryz.prog 27 #[.slice a 0 c] W fun e w'=>e=.returned (.int .i64 0)∧Below W.heap.size W w')) (CT:Hid (∀ W,Below w.heap.size w W→Calls Tryz.prog 67 #[.slice a 0 c,.func (.func 68) #[] #[]] W fun e w'=>e=.returned (.bool false)∧Below W.heap.size W w')) (C:Hid (∀ W:World,Below w.heap.size w W→Calls Tryz.prog 69 #[.slice a 0 c] W fun e w'=>∃ v,e=.returned v∧w'.ownsRow W.heap.size 61 11 v 0 []∧Below W.heap.size W w')):Calls Tryz.prog 43 #[.slice a 0 c,.bool s] w fun e w'=>∃ v,e=.returned (.tuple #[v,.int .i64 0])∧w'.ownsRow w.heap.size 61 11 v 0 []∧Below w.heap.size w w':=by
  go_enter Tryz.func43,Tryz.ntmps43
  go_wp2_with fail
  refine (V.out _ (Below.refl _ w)).mono ?_
  rintro e w1 ⟨rfl,hb1⟩
  go_wp2_with fail
  refine (CT.out _ hb1).mono ?_
  rintro e w2 ⟨rfl,hb2⟩
  have hb12:Below w.heap.size w w2:=bstep hb1 hb2
  go_wp2_with fail
  refine (C.out _ hb12).mono ?_
  rintro e w3 ⟨v,rfl,ho,hb3⟩
  have OW:=Lib.hid (own_base9 ho (show w.heap.size≤w2.heap.size from hb12.size))
  clear ho
  go_wp2
  refine wp_loop_rounds 1 ?_
  rw [rounds_succ]
  go_wp2
  go_ret2
  exact ⟨_,rfl,OW.out,by (repeat' (first | exact Below.refl _ _ | refine bstep ?_ hb3 | refine bstep ?_ hb12 | refine Below.setCell ?_ (by simp <;> omega) _ | refine balloc ?_ _ | refine Below.drew ?_ | refine bdrewN ?_ _))⟩
set_option maxRecDepth 100000 in
set_option maxHeartbeats 2000000 in
theorem ims_r (b off n c:Nat) (s:Bool) (Q:Nat→Pu) (w:World) (V:Hid (∀ W,Below w.heap.size w W→Calls Tryz.prog 27 #[.slice (some ⟨b,off,none⟩) n c] W fun e w'=>e=.returned (.int .i64 0)∧Below W.heap.size W w')) (CT:Hid (∀ W,Below w.heap.size w W→Calls Tryz.prog 67 #[.slice (some ⟨b,off,none⟩) n c,.func (.func 68) #[] #[]] W fun e w'=>e=.returned (.bool false)∧Below W.heap.size W w')) (C:Hid (∀ W:World,Below w.heap.size w W→Calls Tryz.prog 69 #[.slice (some ⟨b,off,none⟩) n c] W fun e w'=>∃ v,e=.returned v∧w'.ownsRow W.heap.size 61 11 v n (pucs Q n)∧Below W.heap.size W w')) (r:RowU w b off n Q) (hn:n≤8) (hq:∀ k,k < n→(-4611686018427387904≤(Q k).1.1.2.2∧(Q k).1.1.2.2≤4611686018427387904)∧(-4611686018427387904≤(Q k).1.2.1.2.2∧(Q k).1.2.1.2.2≤4611686018427387904)∧(-4611686018427387904≤(Q k).1.2.2.2.2∧(Q k).1.2.2.2.2≤4611686018427387904)∧-4611686018427387904≤(Q k).2.2∧(Q k).2.2≤4611686018427387904):Calls Tryz.prog 43 #[.slice (some ⟨b,off,none⟩) n c,.bool s] w fun e w'=>∃ v,e=.returned (.tuple #[v,.int .i64 0])∧w'.ownsRow w.heap.size 61 11 v (n + n) (pucs (bth s Q n) (n + n))∧Below w.heap.size w w':=by
  obtain ⟨i0,hi,hz0,hz1,hz2⟩:=info_parts infoPu8
  have HI:=Lib.hid hi
  have HZ0:=Lib.hid hz0
  have HZ1:=Lib.hid hz1
  have HZ2:=Lib.hid hz2
  have HQ:=Lib.hid hq
  have R:=Lib.hid r
  have hbl:=r.1
  have hn':(n:Int)≤8:=by omega
  clear hq hi hz0 hz1 hz2 r
  go_enter Tryz.func43,Tryz.ntmps43
  go_wp2_with fail
  refine (V.out _ (Below.refl _ w)).mono ?_
  rintro e w1 ⟨rfl,hb1⟩
  go_wp2_with fail
  refine (CT.out _ hb1).mono ?_
  rintro e w2 ⟨rfl,hb2⟩
  have hb12:Below w.heap.size w w2:=bstep hb1 hb2
  go_wp2_with fail
  refine (C.out _ hb12).mono ?_
  rintro e w3 ⟨v,rfl,ho,hb3⟩
  have OW:=Lib.hid (show w3.ownsRow w.heap.size 61 11 v (n + 0) (pucs (bth s Q n) (n + 0)) by rw [Nat.add_zero,bth_zero];exact own_base9 ho hb12.size)
  have BB:=Lib.hid (show Below w.heap.size w w3 by (repeat' (first | exact Below.refl _ _ | refine bstep ?_ hb3 | refine bstep ?_ hb12 | refine Below.setCell ?_ (by simp <;> omega) _ | refine balloc ?_ _ | refine Below.drew ?_ | refine bdrewN ?_ _)))
  clear ho hb1 hb2 hb12 hb3
  go_wp2
  go_loopw [7,25] (fun sv kv wr=>∃ k:Nat,k≤n∧kv=.int .i64 k∧wr.ownsRow w.heap.size 61 11 sv (n + k) (pucs (bth s Q n) (n + k))∧Below w.heap.size w wr) (fun _ kv _=>n - (intOf kv).toNat)
  case atStart=>exact ⟨0,Nat.zero_le _,rfl,OW.out,BB.out⟩
  case round =>
    clear OW BB
    obtain ⟨k,hk,rfl,how,hbb⟩:=hrel
    have OW:=Lib.hid how
    have BB:=Lib.hid hbb
    clear how hbb
    by_cases hlt:k < n
    · have hk1:(k:Int) < (n:Int):=by omega
      have r2:=rowU_in R.out BB.out hbl
      obtain ⟨c0,c1,c2,c3,c4,c5,c6,c7,c8,c9,c10⟩:=r2.2 k hlt
      have r5:=r2.1
      clear r2
      obtain ⟨z0,z1,z2,q1,q2⟩:=HQ.out k hlt
      have GS:=Lib.hid (bth_next s Q n k)
      have szw:=BB.out.size
      generalize Q k=q at *
      have IMG:∀ W,Calls Tryz.prog 70 #[puv q,.bool s] W fun e w'=>e=.returned (puv (img s q))∧Below W.heap.size W w':=fun W=>image_any q s W (Lib.hid z0) (Lib.hid z1) (Lib.hid z2) q1 q2
      generalize img s q=q' at *
      have IM:=Lib.hid IMG
      clear IMG z0 z1 z2 q1 q2
      go_wp2_with fail
      refine (IM.out _).mono ?_
      rintro e w4 ⟨rfl,hb4⟩
      have O4:=Lib.hid (own_below9 (World.ownsRow.alloc OW.out _) hb4)
      have B4:=Lib.hid (show Below w.heap.size wr w4 from ((Below.refl w.heap.size wr).alloc szw _).trans (hb4.mono (by simp;omega)))
      have sz4:wr.heap.size≤w4.heap.size:=B4.out.size
      clear hb4 c0 c1 c2 c3 c4 c5 c6 c7 c8 c9 c10
      go_wp2_with (at_builtin;go_loud (refine wpList_append_own _ rfl _ _ 22 rfl w.heap.size 61 i0 (.agg #[.int .i64 0,.int .i64 0,.int .i64 0,.int .i64 0,.int .i64 0,.int .i64 0,.int .i64 0,.int .i64 0,.int .i64 0,.int .i64 0,.int .i64 0]) 11 88 Tryz.underlying22 HI.out HZ0.out HZ1.out HZ2.out rfl (by decide) _ (n + k) (pucs (bth s Q n) (n + k)) rfl (World.ownsRow.alloc O4.out _) ⟨_,0,none⟩ 1 1 (pucl q') rfl rfl (pu_new8' _ _ _ _ (by simp)) (pucl_one _) (by unfold maxLen;omega) (by omega) (by simp;omega) ?_);intro v' w1 hown' hgrow _;have O2:=Lib.hid hown';have GR:=Lib.hid hgrow;clear hown' hgrow)
      have BG:=Lib.hid (BB.out.trans ((B4.out.alloc (by omega) _).grown GR.out (by simp;omega) (fun gg hg=>(OW.out.lt gg hg).1)))
      go_roundw
      case rel=>exact ⟨k + 1,by omega,by go_num,by rw [show n + (k + 1)=n + k + 1 by omega,GS.out];exact O2.out,BG.out⟩
      case measure=>simp [intOf];omega
    · obtain rfl:k=n:=by omega
      go_wp2
      go_ret2
      exact ⟨_,rfl,OW.out,BB.out⟩
end Go.Proofs.YtgchcnpgjfoadaaGreat
namespace Go.Proofs.YtgchcnpgjfoadaaGreat
open Go.ChangeShapes Go.WideShapes Go.RowKit
open Sh
end Go.Proofs.YtgchcnpgjfoadaaGreat
namespace Go.Proofs.YtgchcnpgjfoadaaGreat
open Go.ChangeShapes Go.WideShapes Go.RowKit
open Sh
end Go.Proofs.YtgchcnpgjfoadaaGreat
namespace Go.Proofs.YtgchcnpgjfoadaaGreat
open Go.ChangeShapes Go.WideShapes Go.RowKit
open Sh
end Go.Proofs.YtgchcnpgjfoadaaGreat
namespace Go.Proofs.YtgchcnpgjfoadaaGreat
open Go.ChangeShapes Go.WideShapes Go.RowKit
open Sh
end Go.Proofs.YtgchcnpgjfoadaaGreat
