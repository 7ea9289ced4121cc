import Derived.Test.YtpocbdompamnnaaChRow
import Derived.Test.YtpocbdompamnnaaTr9
namespace Go.Proofs.Ytpocbdompamnnaa
open Go.ChangeShapes Go.WideShapes Go.RowKit
open Sh
set_option maxRecDepth 100000 in
set_option maxHeartbeats 4000000 in
theorem places_any (ob cO n gb K cN k fr to:Nat) (w:World) (hk:k < K) (h1:fr < to) (h2:to≤n) (h3:n≤cO) (hK:K≤1000) (lg:gb < w.heap.size) (c0:w.cell? ⟨gb,k * 8,none⟩=some (.int .i64 (fr:Int))) (c1:w.cell? ⟨gb,k * 8 + 1,none⟩=some (.int .i64 (to:Int))) :
    Calls Try.prog 61 #[.agg #[.slice (some ⟨ob,0,none⟩) n cO,.slice (some ⟨gb,0,none⟩) K cN],.int .i64 (k:Int)] w fun e w'=>e=.returned (.slice (some ⟨ob,fr,none⟩) (to - fr) (cO - fr))∧Below w.heap.size w w':=by
  have SL:=fun W=>tr_slice ob n cO fr to h1 h2 h3 W
  have hk1:(k:Int) < (K:Int):=by omega
  have kb:(K:Int)≤1000:=by omega
  have B0:=Lib.hid (show Below w.heap.size w (w.alloc (.cells #[.slice (some ⟨ob,0,none⟩) n cO,.slice (some ⟨gb,0,none⟩) K cN] 27)) from (Below.refl _ _).alloc (Nat.le_refl _) _)
  go_enter Try.func61,Try.ntmps61
  go_wp2_with fail
  go_quiet (fail)
  go_wp2
  go_ret
  exact ⟨rfl,bdrewN B0.out _⟩
theorem tr_ch10 (w:World) (q:Ch) (t:TypeId) (b:Nat) (h:b=w.heap.size):∀ j u,[.int .i64 q.1.1.1,.int .i64 q.1.1.2.1,.int .i64 q.1.1.2.2,.int .i64 q.1.2.1.1,.int .i64 q.1.2.1.2.1,.int .i64 q.1.2.1.2.2,.int .i64 q.1.2.2.1,.int .i64 q.1.2.2.2.1,.int .i64 q.1.2.2.2.2,.int .i64 q.2][j]?=some u→(w.alloc (.cells #[.int .i64 q.1.1.1,.int .i64 q.1.1.2.1,.int .i64 q.1.1.2.2,.int .i64 q.1.2.1.1,.int .i64 q.1.2.1.2.1,.int .i64 q.1.2.1.2.2,.int .i64 q.1.2.2.1,.int .i64 q.1.2.2.2.1,.int .i64 q.1.2.2.2.2,.int .i64 q.2] t)).cell? ((⟨b,0,none⟩:Addr).add j)=some u:=by
  subst h
  exact cells10 w _ _ _ _ _ _ _ _ _ _ t
theorem ccs_sel (Q:Nat→Ch) (L:List Nat) (j:Nat) (q:Ch) (h:Q (L.getD j 0)=q):ccs (selC Q L) j ++ [.int .i64 q.1.1.1,.int .i64 q.1.1.2.1,.int .i64 q.1.1.2.2,.int .i64 q.1.2.1.1,.int .i64 q.1.2.1.2.1,.int .i64 q.1.2.1.2.2,.int .i64 q.1.2.2.1,.int .i64 q.1.2.2.2.1,.int .i64 q.1.2.2.2.2,.int .i64 q.2]=ccs (selC Q L) (j + 1):=by
  subst h
  rw [ccs_succ]
  rfl
set_option maxRecDepth 100000 in
set_option maxHeartbeats 4000000 in
theorem pick_walk (b off n c ob oo m cc k:Nat) (Q:Nat→Ch) (L:List Nat) (w:World) (hm:L.length=m) (h96:m≤96) (hi:∀ i,i ∈ L→i < n) (rc:RowC w b off n Q) (r:ChR w ob oo L) (vA vB:Value)
    (PLC:Hid (∀ W,Below w.heap.size w W→Calls Try.prog 61 #[.agg #[vA,vB],.int .i64 (k:Int)] W fun e w'=>e=.returned (.slice (some ⟨ob,oo,none⟩) m cc)∧Below W.heap.size W w')) :
    Calls Try.prog 50 #[.slice (some ⟨b,off,none⟩) n c,.agg #[vA,vB],.int .i64 (k:Int)] w fun e w'=>∃ v,e=.returned v∧w'.ownsRow w.heap.size 75 10 v m (ccs (selC Q L) m)∧Below w.heap.size w w':=by
  obtain ⟨i0,hi,hz0,hz1,hz2⟩:=info_parts infoC
  have HI:=Lib.hid hi
  have HZ0:=Lib.hid hz0
  have HZ1:=Lib.hid hz1
  have HZ2:=Lib.hid hz2
  clear hi hz0 hz1 hz2
  have RC:=Lib.hid rc
  have RR:=Lib.hid r
  have hm':(m:Int)≤96:=by omega
  have B0:=Lib.hid (show Below w.heap.size w (w.alloc (.cells #[vA,vB] 27)) from (Below.refl _ _).alloc (Nat.le_refl _) _)
  clear rc r
  go_enter Try.func50,Try.ntmps50
  go_wp2_with fail
  with_reducible refine (PLC.out _ B0.out).mono ?_
  rintro e w1 ⟨rfl,hb1⟩
  have B1:=Lib.hid (bstep B0.out hb1)
  have R1:=Lib.hid (chR_below RR.out B1.out)
  have C1:=Lib.hid (rowC_in RC.out B1.out RC.out.1)
  clear hb1 PLC RR RC B0
  go_wp2
  go_loopw [7,14] (fun sv kv wr=>∃ j:Nat,j≤m∧kv=.int .i64 j∧wr.ownsRow w1.heap.size 75 10 sv j (ccs (selC Q L) j)∧Below w1.heap.size w1 wr) (fun _ kv _=>m - (intOf kv).toNat)
  case atStart=>exact ⟨0,Nat.zero_le _,rfl,World.ownsRow_nil _ _ _ _,Below.refl _ _⟩
  case round =>
    obtain ⟨j,hj,rfl,how,hbb⟩:=hrel
    have OW0:=Lib.hid how
    have BB:=Lib.hid hbb
    have szw:=hbb.size
    clear how hbb
    by_cases hlt:j < m
    · have hj1:(j:Int) < (m:Int):=by omega
      have R2:=chR_below R1.out BB.out
      have k0:=R2.2 j (by omega)
      have lo:=R2.1
      have C2:=rowC_in C1.out BB.out C1.out.1
      have hx:=hi (L.getD j 0) (getD_mem9 (by omega))
      obtain ⟨e0,e1,e2,e3,e4,e5,e6,e7,e8,e9⟩:=C2.2 (L.getD j 0) hx
      have lb:=C2.1
      have NX:=Lib.hid (ccs_sel Q L j (Q (L.getD j 0)) rfl)
      clear R2 C2
      generalize Q (L.getD j 0)=q at *
      generalize L.getD j 0=x at *
      have hxI:(x:Int) < (n:Int):=by omega
      have hx0:(0:Int)≤(x:Int):=by omega
      go_wp2_with (at_builtin;go_loud (refine wpList_append_own _ rfl _ _ 22 rfl w1.heap.size 75 i0 (.agg #[.int .i64 0,.int .i64 0,.int .i64 0,.int .i64 0,.int .i64 0,.int .i64 0,.int .i64 0,.int .i64 0,.int .i64 0,.int .i64 0]) 10 80 Try.underlying22 HI.out HZ0.out HZ1.out HZ2.out rfl (by decide) _ j (ccs (selC Q L) j) rfl (World.ownsRow.alloc OW0.out _) ⟨_,0,none⟩ 1 1 [.int .i64 q.1.1.1,.int .i64 q.1.1.2.1,.int .i64 q.1.1.2.2,.int .i64 q.1.2.1.1,.int .i64 q.1.2.1.2.1,.int .i64 q.1.2.1.2.2,.int .i64 q.1.2.2.1,.int .i64 q.1.2.2.2.1,.int .i64 q.1.2.2.2.2,.int .i64 q.2] rfl rfl (tr_ch10 _ q _ _ (by simp)) (one10 _ _ _ _ _ _ _ _ _ _) (by unfold maxLen;omega) (by omega) (by simp;omega) ?_);intro v' w7 hown' hgrow _;have OW:=Lib.hid hown';have GR:=Lib.hid hgrow;clear hown' hgrow)
      have BG:=Lib.hid ((BB.out.alloc szw _).grown GR.out (by simp;omega) (fun gg hg=>(OW0.out.lt gg hg).1))
      go_roundw
      case rel=>exact ⟨j + 1,by omega,by go_num,by rw [← NX.out];exact OW.out,BG.out⟩
      case measure=>simp [intOf];omega
    · obtain rfl:j=m:=by omega
      have hB:=B1.out.trans (BB.out.mono B1.out.size)
      have how:=tr_own_base OW0.out B1.out.size
      clear BB OW0
      go_wp2
      go_ret
      exact ⟨_,rfl,how,hB⟩
end Go.Proofs.Ytpocbdompamnnaa
