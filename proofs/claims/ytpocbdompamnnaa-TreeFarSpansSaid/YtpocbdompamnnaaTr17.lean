import Derived.RangeFuncNested
import Derived.RangeFuncBound
import Derived.RangeFuncCalls
import Derived.RangeFuncLeaves
import Derived.Shelf.Abstract
import Derived.Shelf.RegionOpen
import Derived.WalkKit
import Derived.OwnWalkIn
import Derived.TacticsInMore
import Derived.LoopNIn
import Derived.LoopIn
import Derived.Test.YtpocbdompamnnaaTr15
namespace Go.Proofs.Ytpocbdompamnnaa
open Go.ChangeShapes Go.WideShapes Go.RowKit
open Sh
open Go.Shelf
attribute [local go_sem] Oper.semAt_some
def bckL (K j:Nat):List Nat:=(List.range j).map fun i=>K - 1 - i
theorem bckL_succ (K j:Nat):bckL K (j + 1)=bckL K j ++ [K - 1 - j]:=by
  unfold bckL
  rw [List.range_succ,List.map_append]
  rfl
theorem bckL_len (K j:Nat):(bckL K j).length=j:=by simp [bckL]
def KpB (n₀ Bs:Nat) (W W':World):Prop:=Below n₀ W W'∧W'.heap[Bs]?=W.heap[Bs]?
theorem kpB_b {n₀ Bs:Nat} {w:World} (hn:n₀≤w.heap.size) (hB:Bs < w.heap.size) (W:World) (l:Nat) (o o':Obj) (hl:w.heap.size≤l) (h:W.heap[l]?=some o) (c:o.isCells=false) (d:o.isWalk=false):KpB n₀ Bs W (W.putObj l o') :=
  ⟨belowK_b hn W l o o' hl h c d,World.putObj_heap_other (by omega)⟩
theorem kpB_t {n₀ Bs:Nat} {A B C:World} (h:KpB n₀ Bs A B) (k:KpB n₀ Bs B C):KpB n₀ Bs A C:=⟨h.1.trans k.1,k.2.trans h.2⟩
theorem rowD_in {w w1:World} {b off n B:Nat} {T:Nat→Ni} (r:RowD w b off n T) (hb:Below B w w1) (lt:b < B):RowD w1 b off n T:=by
  refine ⟨Nat.lt_of_lt_of_le r.1 hb.size,fun k hk=>?_⟩
  have z:=fun o=>hb.cell (p:=⟨b,o,none⟩) lt
  simp only [z]
  exact r.2 k hk
set_option maxRecDepth 100000 in
set_option maxHeartbeats 4000000 in
theorem lstD_in {w w1:World} {A:Option Addr} {n B:Nat} {T:Nat→Ni} (r:LstD w A n T) (hb:Below B w w1) (lt:0 < n→∀ b off,A=some ⟨b,off,none⟩→b < B):LstD w1 A n T:=fun h0=>by
  obtain ⟨b,off,e,r⟩:=r h0
  exact ⟨b,off,e,rowD_in r hb (lt h0 b off e)⟩
abbrev SubK (K:Nat):={k:Nat // k < K}
def vlK {K:Nat} (l:List (SubK K)):List Nat:=l.map fun k=>k.1
theorem vlK_snoc {K:Nat} (l:List (SubK K)) (k:SubK K):vlK (l ++ [k])=vlK l ++ [k.1]:=by simp [vlK]
theorem vlK_len {K:Nat} (l:List (SubK K)):(vlK l).length=l.length:=by simp [vlK]
set_option maxRecDepth 100000 in
set_option maxHeartbeats 4000000 in
theorem back_stops (n:Nat) (Bs K cN n₀:Nat) (A:Option Addr) (T:Nat→Ni) (w:World) (hK:K≤1000) (hl:Bs < w.heap.size) (hb:0 < K→∀ b off,A=some ⟨b,off,none⟩→b < n₀) (hc:w.cell? ⟨Bs,0,none⟩=some (.slice A K cN)) (r:LstD w A K T) :
    SeqStopsK Fence.wide n Try.prog 57 #[.pointer (some ⟨Bs,0,none⟩)] (fun k:SubK K=>#[.int .i64 (k.1:Int),niv (T k.1)]) (KpB n₀ Bs) (fun ys=>vlK ys=bckL K K) (fun _=>True) K w:=fun l J Jx W hW hJ _ hY h0=>by
  have hK':(K:Int)≤1000:=by omega
  have R1:=Lib.hid (lstD_below r hW)
  have C1:=Lib.hid ((hW.cell (p:=⟨Bs,0,none⟩) hl).trans hc)
  have HY:=Lib.hid hY
  have HB:=Lib.hid hb
  clear hY hW hc r hb
  refine callsIn_of_wp Try.func57 rfl trivial ?_ rfl
  simp only [Try.ntmps57,List.size_toArray,List.length_cons,List.length_nil,Nat.reduceAdd,Nat.reduceSub,Array.replicate_succ,Array.replicate_zero,List.push_toArray,List.append_toArray,List.nil_append,List.cons_append]
  have c0:=C1.out
  gi_wp2
  gi_loopw [3] (fun p wr=>∃ j:Nat,∃ pre:List (SubK K),j≤K∧p=.int .i64 ((K:Int) - 1 - (j:Int))∧vlK pre=bckL K j∧J pre wr∧LstD wr A K T∧wr.cell? ⟨Bs,0,none⟩=some (.slice A K cN)) (fun p _=>(intOf p + 1).toNat)
  case atStart=>exact ⟨0,[],Nat.zero_le _,by simp,rfl,h0,R1.out,c0⟩
  case round =>
    obtain ⟨j,pre,hj,rfl,hpre,hJ1,hr,hc⟩:=hrel
    have PR:=Lib.hid hpre
    clear hpre
    by_cases hlt:j < K
    · obtain ⟨k,hk⟩:∃ k,K - 1 - j=k:=⟨_,rfl⟩
      have ek:(K:Int) - 1 - (j:Int)=(k:Int):=by omega
      have kK:(k:Int) < (K:Int):=by omega
      have k0:(0:Int)≤(k:Int):=by omega
      have kn:k < K:=by omega
      obtain ⟨fn,tmps,assign,body,hy,hR⟩:=HY.out pre ⟨k,kn⟩ wr hJ1 (by have z:=congrArg List.length PR.out;rw [vlK_len,bckL_len] at z;omega)
      dsimp only at hy
      have BS:=Lib.hid (show vlK (pre ++ [⟨k,kn⟩])=bckL K (j + 1) by rw [vlK_snoc,PR.out,bckL_succ,hk])
      have RD:=Lib.hid hr
      have CD:=Lib.hid hc
      obtain ⟨b,off,eA,rr⟩:=hr (by omega)
      subst eA
      have hb:=HB.out (by omega) b off rfl
      obtain ⟨e0,e1,e2,e3,e4,e5,e6,e7⟩:=rr.2 k kn
      have lb:=rr.1
      have em:((k:Int) - 1)=(K:Int) - 1 - ((j + 1:Nat):Int):=by omega
      have EM:=Lib.hid em
      have EK:=Lib.hid ek
      have HKJ:=Lib.hid hk
      have HLT:=Lib.hid hlt
      rw [ek]
      clear ek hk em hr rr HY PR hJ1 hlt
      generalize ekk:(⟨k,kn⟩:SubK K)=kk at *
      clear ekk
      generalize T k=x at *
      obtain ⟨x1,x2,x3,x4,⟨x5,x6,x7⟩,x8⟩:=x
      gi_wp2_with ((first | refine ⟨trivial,fun h=>(by cases (show false=true from h)),?_⟩ | refine ⟨fun h=>(by cases (show false=true from h)),?_⟩ | skip);refine hR.mono ?_;clear hR;rintro e W2 (⟨rfl,h1,h2⟩ | ⟨rfl,h1⟩))
      · gi_wp2
        go_roundw
        case rel=>exact ⟨j + 1,_,by have:=HLT.out;omega,by rw [EM.out],BS.out,h1,lstD_in RD.out h2.1 HB.out,(World.cell?_of_block (a:=⟨Bs,0,none⟩) h2.2).trans CD.out⟩
        case measure=>simp [intOf]
      · gi_wp2
        (try simp only [Exit.inBlock,Exit.then])
        refine bodyPost_ret (results_none rfl _ _ _) rfl ?_
        exact ⟨⟨_,rfl⟩,.inr ⟨_,trivial,h1⟩⟩
    · obtain rfl:j=K:=by omega
      have ek:(j:Int) - 1 - (j:Int)=-1:=by omega
      have J1:=Lib.hid hJ1
      rw [ek]
      clear ek hJ1 hr hc HY
      gi_wp2
      go_end0
      exact ⟨⟨_,rfl⟩,.inl ⟨_,PR.out,J1.out⟩⟩
theorem back_any (A:Option Addr) (K cN:Nat) (w:World):Calls Try.prog 33 #[.slice A K cN] w fun e w'=>e=.returned (.func (.func 57) #[] #[.pointer (some ⟨w.heap.size,0,none⟩)])∧w'=w.alloc (.cells #[.slice A K cN] 25):=by
  go_enter Try.func33,Try.ntmps33
  go_wp2
  go_ret
  exact ⟨rfl,rfl⟩
end Go.Proofs.Ytpocbdompamnnaa
