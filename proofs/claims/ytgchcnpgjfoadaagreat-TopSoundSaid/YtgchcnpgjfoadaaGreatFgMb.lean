/-
  What a range over the parts of a panel hands out,where the loop's body asks that each part is small.
  The contract of field.partGroups: the parts of a panel,each as a group.
  The regions of a view's low and high,that draw their order.
  The contracts of a view: low,high,touches.
-/
import Derived.RangeFuncBox
import Derived.RangeFuncCalls
import Derived.Maps.AppendAt
import Derived.Stop.RegionWithIn
import Derived.Test.YtgchcnpgjfoadaaGreatFiCo
import Derived.Test.YtgchcnpgjfoadaaGreatFgMa
namespace Go.Proofs.YtgchcnpgjfoadaaGreat
open Go.ChangeShapes Go.WideShapes Go.RowKit
open Sh
open Go.Shelf
attribute [local go_sem] Oper.semAt_some
set_option maxRecDepth 100000 in
set_option maxHeartbeats 4000000 in
theorem visit_inM (M:Int) (hM:M≤2305843009213693952) (l n₀ N:Nat) (J Jx:List P9→World→Prop) (hJ:∀ s W W',J s W→Below W.heap.size W W'→J s W')
    (hY:∀ m pre x W,J pre W→pre.length < N→BdT M x→YieldAt Fence.wide m Tryz.prog l #[p9v x] W fun e W' =>
      (e=.returned (.bool true)∧J (pre ++ [x]) W'∧Below n₀ W W')∨(e=.returned (.bool false)∧Jx (pre ++ [x]) W')) :
    ∀ (d n:Nat) (D B:Int) (t:P9) (pre:List P9) (W:World),D=(d:Int)→d≤3→BdT B t→2 ^ d * B≤M→n₀≤W.heap.size→J pre W→pre.length + 4 ^ d≤N →
      CallsIn Fence.wide n Tryz.prog 135 #[p9v t,.int .i64 D,.func (.yield l) #[] #[]] W (VisR n₀ J Jx pre (cutP d t) W):=by
  intro d
  induction d with
  | zero =>
    rintro n D B ⟨a,b,c⟩ pre W rfl _ hBt hbt hn h0 hN
    have hB0:Below W.heap.size W (W.alloc (pnc a b c 59)):=(Below.refl _ _).alloc (Nat.le_refl _) _
    obtain ⟨fn,tmps,assign,body,hy,hR⟩:=hY (n - 1) pre (a,b,c) (W.alloc (pnc a b c 59)) (hJ _ _ _ h0 hB0) (by have:=hN;simp at this;omega) (hBt.mono (by simp at hbt;omega))
    have HJ:=Lib.hid hJ
    clear hJ hY h0 hN hBt hbt
    refine callsIn_of_wp Tryz.func135 rfl trivial ?_ rfl
    simp only [Tryz.ntmps135,List.size_toArray,List.length_cons,List.length_nil,Nat.reduceAdd,Nat.reduceSub,Array.replicate_succ,Array.replicate_zero,List.push_toArray,List.append_toArray,List.nil_append,List.cons_append]
    gi_wp2_with ((first | refine ⟨trivial,fun h=>(by cases (show false=true from h)),?_⟩ | refine ⟨fun h=>(by cases (show false=true from h)),?_⟩ | skip);refine hR.mono ?_;clear hR;rintro e W2 (⟨rfl,h1,h2⟩ | ⟨rfl,h1⟩))
    · go_ret
      exact .inl ⟨rfl,h1,(hB0.mono hn).trans h2⟩
    · go_ret
      exact .inr ⟨rfl,_,List.prefix_refl _,h1⟩
  | succ d ih =>
    rintro n D B ⟨a,b,c⟩ pre W hD hd hB hb hn h0 hN
    have p2:(2:Int) ^ (d + 1) * B=2 ^ d * (2 * B):=by rw [Int.pow_succ,Int.mul_assoc]
    have p4:4 ^ (d + 1)=4 * 4 ^ d:=by rw [Nat.pow_succ];omega
    have B60:BdT 1152921504606846976 (a,b,c):=by
      refine hB.mono ?_
      have d3:d=0∨d=1∨d=2:=by omega
      have b0:0≤B:=by have:=hB.1.1;have:=hB.1.2.1;omega
      rcases d3 with rfl | rfl | rfl <;> simp at hb <;> omega
    have QU:=Lib.hid (fun (m:Nat) (W:World)=>(callsIn_wide (n:=m)).2 (show Calls Tryz.prog 145 #[pnv a b c] W fun e w'=>e=.returned (ar4 (qr0 (a,b,c)) (qr1 (a,b,c)) (qr2 (a,b,c)) (qr3 (a,b,c)))∧Below W.heap.size W w' from quarters_any a b c W B60.1 B60.2.1 B60.2.2))
    have IX:=Lib.hid (fun (k:Nat) (h:k < 4) (w:World)=>index_k (a,b,c) h w)
    have IH:=Lib.hid (fun (m k:Nat) (W1:World) (hk:k < 4) (hn1:n₀≤W1.heap.size) (hj:J (pre ++ ckP d (a,b,c) k) W1)=>ih m (D - 1) (2 * B) (qrk (a,b,c) k) (pre ++ ckP d (a,b,c) k) W1 (by omega) (by omega) (qrk_bd hB k) (by omega) hn1 hj (by
      rw [List.length_append,ckP_len d _ (by omega)]
      have:k * 4 ^ d≤3 * 4 ^ d:=Nat.mul_le_mul_right _ (by omega)
      omega))
    have D1:1≤D:=by omega
    have D2:D≤3:=by omega
    have D3:(D == 0)=false:=beq_eq_false_iff_ne.2 (by omega)
    have HJ:=Lib.hid hJ
    have H0:=Lib.hid h0
    have HN:=Lib.hid hn
    clear hJ hY h0 hN ih hD hd hB hb p2 p4 B60 hn
    refine callsIn_of_wp Tryz.func135 rfl trivial ?_ rfl
    simp only [Tryz.ntmps135,List.size_toArray,List.length_cons,List.length_nil,Nat.reduceAdd,Nat.reduceSub,Array.replicate_succ,Array.replicate_zero,List.push_toArray,List.append_toArray,List.nil_append,List.cons_append]
    gi_wp2_with ((first | refine ⟨trivial,fun h=>(by cases (show false=true from h)),?_⟩ | refine ⟨fun h=>(by cases (show false=true from h)),?_⟩ | skip);gi_at_call 145;refine (QU.out _ _).mono ?_;rintro e W1 ⟨rfl,hb1⟩)
    have ST:Hid (J (pre ++ ckP d (a,b,c) 0) W1∧Below n₀ W W1):=by
      have z:=(((Below.refl _ W).alloc (Nat.le_refl _) (pnc a b c 59)).trans (hb1.mono (by simp)))
      exact Lib.hid ⟨by have:=HJ.out _ _ _ H0.out z;simpa [ckP] using this,z.mono HN.out⟩
    clear hb1
    change _ at ST
    gi_loopw [16] (fun kv wr=>∃ k:Nat,k≤4∧kv=.int .i64 k∧J (pre ++ ckP d (a,b,c) k) wr∧Below n₀ W wr) (fun kv _=>4 - (intOf kv).toNat)
    case atStart=>exact ⟨0,by omega,rfl,ST.out⟩
    case round =>
      clear ST
      obtain ⟨k,hk,rfl,hj,hw⟩:=hrel
      by_cases hlt:k < 4
      · have hk1:(k:Int) < 4:=by omega
        have hk0:0≤(k:Int):=by omega
        have ix:=IX.out k hlt
        have sz:n₀≤wr.heap.size:=Nat.le_trans HN.out hw.size
        have R:=Lib.hid (IH.out (n - 1) k (wr.alloc (pnc (qrk (a,b,c) k).1 (qrk (a,b,c) k).2.1 (qrk (a,b,c) k).2.2 59)) hlt (by simp;omega) (HJ.out _ _ _ hj ((Below.refl _ _).alloc (Nat.le_refl _) _)))
        have NX:=Lib.hid (ckP_succ d (a,b,c) hlt)
        have PX:=Lib.hid (fun q h=>ckP_pre d (a,b,c) hlt (q:=q) h)
        have HW:=Lib.hid hw
        have SZ:=Lib.hid sz
        clear hj hw sz IH IX QU
        generalize qrk (a,b,c) k=p at *
        gi_wp2_with ((first | refine ⟨trivial,fun h=>(by cases (show false=true from h)),?_⟩ | refine ⟨fun h=>(by cases (show false=true from h)),?_⟩ | skip);gi_at_call 135;refine R.out.mono ?_;rintro e W2 (⟨rfl,h1,h2⟩ | ⟨rfl,q,hq,h1⟩))
        · go_roundw
          case rel=>exact ⟨k + 1,by omega,by go_num,by rw [NX.out,← List.append_assoc];exact h1,HW.out.trans ((((Below.refl _ _).alloc (Nat.le_refl _) _).mono SZ.out).trans h2)⟩
          case measure=>simp [intOf];omega
        · refine bodyPost_ret (results_tmp rfl _ _ _) rfl ?_
          exact .inr ⟨rfl,_,PX.out q hq,by rw [← List.append_assoc];exact h1⟩
      · obtain rfl:k=4:=by omega
        gi_wp2
        go_ret
        exact .inl ⟨rfl,hj,hw⟩
set_option maxRecDepth 100000 in
set_option maxHeartbeats 1000000 in
theorem parts1_inM (M:Int) (hM:M≤2305843009213693952) (n:Nat) (d:Nat) (D B:Int) (t:P9) (n₀ Bp Bd l:Nat) (J Jx:List P9→World→Prop) (hD:D=(d:Int)) (hd:d≤3) (hB:BdT B t) (hb:2 ^ d * B≤M)
    (HJ:∀ s X Y,J s X→Below X.heap.size X Y→J s Y)
    (HY:∀ m pre x X,J pre X→pre.length < 4 ^ d→BdT M x→YieldAt Fence.wide m Tryz.prog l #[p9v x] X fun e W'=>(e=.returned (.bool true)∧J (pre ++ [x]) W'∧Below n₀ X W')∨(e=.returned (.bool false)∧Jx (pre ++ [x]) W'))
    (W:World) (hn:n₀≤W.heap.size) (hp:Pan W Bp t.1 t.2.1 t.2.2) (hc:W.cell? ⟨Bd,0,none⟩=some (.int .i64 D)) (h0:J [] W) :
    CallsIn Fence.wide n Tryz.prog 134 #[.func (.yield l) #[] #[],.pointer (some ⟨Bp,0,none⟩),.pointer (some ⟨Bd,0,none⟩)] W fun e W'=>(∃ v,e=.returned v) ∧
      ((∃ ys,ys=cutP d t∧J ys W')∨(∃ pre,pre <+: cutP d t∧Jx pre W')):=by
  have V:=Lib.hid (visit_inM M hM l n₀ (4 ^ d) J Jx HJ HY d (n - 1) D B t [] W hD hd hB hb hn h0 (by simp))
  clear HJ HY h0 hb hB hd hD hn
  obtain ⟨a,b,c⟩:=t
  obtain ⟨c0,c1,c2,c3,c4,c5,c6,c7,c8,cl⟩:=hp
  generalize cutP d (a,b,c)=L at *
  refine callsIn_of_wp Tryz.func134 rfl trivial ?_ rfl
  simp only [Tryz.ntmps134,List.size_toArray,List.length_cons,List.length_nil,Nat.reduceAdd,Nat.reduceSub,Array.replicate_succ,Array.replicate_zero,List.push_toArray,List.append_toArray,List.nil_append,List.cons_append]
  gi_wp2_with ((first | refine ⟨trivial,fun h=>(by cases (show false=true from h)),?_⟩ | skip);gi_at_call 135;refine V.out.mono ?_;clear V;rintro e W2 (⟨rfl,h1,h2⟩ | ⟨rfl,q,hq,h1⟩))
  · go_end0
    exact ⟨⟨_,rfl⟩,.inl ⟨_,rfl,h1⟩⟩
  · go_end0
    exact ⟨⟨_,rfl⟩,.inr ⟨q,hq,h1⟩⟩
/-- a panel whose coordinates are at most 512 -/
abbrev T5:={x:P9 // BdT 512 x}
theorem yieldAt_mono9 {m:Nat} {P:Program} {l:Nat} {args:Array Value} {W:World} {R R':Ending→World→Prop} (h:YieldAt Fence.wide m P l args W R) (hr:∀ e w,R e w→R' e w):YieldAt Fence.wide m P l args W R':=by
  obtain ⟨fn,tmps,assign,body,hy,hR⟩:=h
  exact ⟨fn,tmps,assign,body,hy,hR.mono hr⟩
theorem parts_stopsM (n:Nat) (d:Nat) (D B:Int) (t:P9) (n₀ Bp Bd:Nat) (w:World) (hD:D=(d:Int)) (hd:d≤3) (hB:BdT B t) (hb:2 ^ d * B≤512) (hn:n₀≤w.heap.size)
    (hp:Pan w Bp t.1 t.2.1 t.2.2) (hc:w.cell? ⟨Bd,0,none⟩=some (.int .i64 D)) (hl:Bd < w.heap.size) :
    SeqStopsK Fence.wide n Tryz.prog 134 #[.pointer (some ⟨Bp,0,none⟩),.pointer (some ⟨Bd,0,none⟩)] (fun x:T5=>#[p9v x.1]) (Below n₀) (fun ys=>ys.map Subtype.val=cutP d t) (fun pre=>pre.map Subtype.val <+: cutP d t) (4 ^ d) w:=fun l J Jx W hW hJ _ hY h0 =>
  (parts1_inM 512 (by decide) n d D B t n₀ Bp Bd l (fun q W=>∃ ys:List T5,ys.map Subtype.val=q∧J ys W) (fun q W=>∃ ys:List T5,ys.map Subtype.val=q∧Jx ys W) hD hd hB hb
    (fun s X Y h b=>by
      obtain ⟨ys,e,h⟩:=h
      exact ⟨ys,e,hJ ys X Y none h (below_grown9 b) (fun r e=>by cases e)⟩)
    (fun m pre x X hj hlt hx=>by
      obtain ⟨ys,e,hj⟩:=hj
      refine yieldAt_mono9 (yieldAt_any9 m (hY ys ⟨x,hx⟩ X hj (by rw [← e,List.length_map] at hlt;exact hlt))) ?_
      rintro e' w' (⟨h1,h2,h3⟩ | ⟨h1,h2⟩)
      · exact .inl ⟨h1,⟨_,by rw [List.map_append,e];rfl,h2⟩,h3⟩
      · exact .inr ⟨h1,_,by rw [List.map_append,e];rfl,h2⟩)
    W (Nat.le_trans hn hW.size) (pan_below hp hW) ((hW.cell (p:=⟨Bd,0,none⟩) hl).trans hc) ⟨[],rfl,h0⟩).mono fun _ _ ⟨h1,h2⟩=>⟨h1,by
      rcases h2 with ⟨q,e,ys,e',h⟩ | ⟨q,e,ys,e',h⟩
      · exact .inl ⟨ys,e'.trans e,h⟩
      · exact .inr ⟨ys,by show List.map Subtype.val ys <+: cutP d t;rw [e'];exact e,h⟩⟩
end Go.Proofs.YtgchcnpgjfoadaaGreat
namespace Go.Proofs.YtgchcnpgjfoadaaGreat
open Go.ChangeShapes Go.WideShapes Go.RowKit
open Sh
open Go.Shelf
attribute [local go_sem] Oper.semAt_some
theorem tim_one (a:P3):tim 1 a=a:=by
  obtain ⟨x,y,z⟩:=a
  unfold tim
  simp
theorem ptb_grown {W W1:World} {r:Option Nat} {g:Nat} {t:P9} (h:PtB W g t) (hg:W.grownBy W1 r) (hr:∀ q,r=some q→∃ o:Obj,W.heap[q]?=some o∧o.isCells=false):PtB W1 g t:=by
  refine (hg.block g (ptb_lt h) (fun e=>?_)).trans h
  obtain ⟨o,h1,h2⟩:=hr g e.symm
  rw [show W.heap[g]?=_ from h] at h1
  cases h1;cases h2
/-- the cells of groups -/
def gcs1 (g:Nat × P9):List Value:=[.slice (some ⟨g.1,0,none⟩) 3 3,.int .i64 (loN (P3F g.2) 3).1,.int .i64 (loN (P3F g.2) 3).2.1,.int .i64 (loN (P3F g.2) 3).2.2,.int .i64 (hiN (P3F g.2) 3).1,.int .i64 (hiN (P3F g.2) 3).2.1,.int .i64 (hiN (P3F g.2) 3).2.2]
def gcs (l:List (Nat × P9)):List Value:=l.flatMap gcs1
theorem gcs_snoc (l:List (Nat × P9)) (g:Nat × P9):gcs l ++ gcs1 g=gcs (l ++ [g]):=by simp [gcs]
theorem infoG7:(Tryz.prog.info? 143).map (fun i=>(i.zero,i.size,i.bytes))=some (some (.agg #[.slice none 0 0,.int .i64 0,.int .i64 0,.int .i64 0,.int .i64 0,.int .i64 0,.int .i64 0]),7,72):=by kernel_rfl
def ge7 (b:Nat) (lo hi:P3):List Value:=[.slice (some ⟨b,0,none⟩) 3 3,.int .i64 lo.1,.int .i64 lo.2.1,.int .i64 lo.2.2,.int .i64 hi.1,.int .i64 hi.2.1,.int .i64 hi.2.2]
theorem ge7_new (w:World) (b:Nat) (lo hi:P3) (ty:TypeId):∀ j u,(ge7 b lo hi)[j]?=some u→(w.alloc (.cells #[.slice (some ⟨b,0,none⟩) 3 3,.int .i64 lo.1,.int .i64 lo.2.1,.int .i64 lo.2.2,.int .i64 hi.1,.int .i64 hi.2.1,.int .i64 hi.2.2] ty)).cell? ((⟨w.heap.size,0,none⟩:Addr).add j)=some u:=by
  intro j u hu
  have hlt:j < 7:=by
    have:=(List.getElem?_eq_some_iff.1 hu).1
    simpa [ge7] using this
  have:j=0∨j=1∨j=2∨j=3∨j=4∨j=5∨j=6:=by omega
  rcases this with rfl | rfl | rfl | rfl | rfl | rfl | rfl <;> (simp [ge7] at hu;subst hu;simp only [Addr.add];go_simp)
theorem ge7_one (b:Nat) (lo hi:P3):∀ u ∈ ge7 b lo hi,u.oneCell'=true:=by
  intro u h
  simp only [ge7,List.mem_cons,List.not_mem_nil,or_false] at h
  rcases h with h | h | h | h | h | h | h <;> (subst h;rfl)
theorem appG_run (w:World) (base:Nat) (v:Value) (k:Nat) (xs:List Value) (hown:w.ownsRow base 143 7 v k xs) (hbase:base≤w.heap.size) (hk:k≤1000) (b:Nat) (lo hi:P3) (ty:TypeId) :
    ∃ v' w',(Builtin.append_ #[148,148] 148 #[v,.slice (some ⟨w.heap.size,0,none⟩) 1 1]).run Tryz.prog (w.alloc (.cells #[.slice (some ⟨b,0,none⟩) 3 3,.int .i64 lo.1,.int .i64 lo.2.1,.int .i64 lo.2.2,.int .i64 hi.1,.int .i64 hi.2.1,.int .i64 hi.2.2] ty))=.ok v' w'∧w'.ownsRow base 143 7 v' (k + 1) (xs ++ ge7 b lo hi)∧(w.alloc (.cells #[.slice (some ⟨b,0,none⟩) 3 3,.int .i64 lo.1,.int .i64 lo.2.1,.int .i64 lo.2.2,.int .i64 hi.1,.int .i64 hi.2.1,.int .i64 hi.2.2] ty)).grownBy w' v.ownBlock:=by
  obtain ⟨i0,hi0,z1,z2,z3⟩:=info_parts infoG7
  have hu:Tryz.prog.underlying 148=some (.slice 143):=Tryz.underlying148
  obtain ⟨v',w',h1,h2,h3,_⟩:=run_append_own (P:=Tryz.prog) (w.alloc (.cells #[.slice (some ⟨b,0,none⟩) 3 3,.int .i64 lo.1,.int .i64 lo.2.1,.int .i64 lo.2.2,.int .i64 hi.1,.int .i64 hi.2.1,.int .i64 hi.2.2] ty)) base 148 148 143 i0 (.agg #[.slice none 0 0,.int .i64 0,.int .i64 0,.int .i64 0,.int .i64 0,.int .i64 0,.int .i64 0]) 7 72 hu hi0 z1 z2 z3 rfl (by decide) v k xs (hown.alloc _) ⟨w.heap.size,0,none⟩ 1 1 (ge7 b lo hi) rfl (ge7_new w b lo hi ty) (ge7_one b lo hi) (by unfold maxLen;omega) (by omega) (by simp;omega)
  exact ⟨v',w',h1,h2,h3⟩
/-- one more group: all that a round's append gives -/
theorem pg_step (N:Nat) (W w2:World) (v:Value) (k:Nat) (xs:List Value) (hv:Boxed W (N + 1) 148 v) (hrow:W.ownsRow N 143 7 v k xs) (hN:N≤W.heap.size) (hk:k≤1000) (hb:Below W.heap.size W w2) (b:Nat) (lo hi:P3) :
    w2.cell? ⟨N + 1,0,none⟩=some v∧N + 1 < w2.heap.size∧∃ g' cap' w3,(Builtin.append_ #[148,148] 148 #[v,.slice (some ⟨w2.heap.size,0,none⟩) 1 1]).run Tryz.prog (w2.alloc (.cells #[.slice (some ⟨b,0,none⟩) 3 3,.int .i64 lo.1,.int .i64 lo.2.1,.int .i64 lo.2.2,.int .i64 hi.1,.int .i64 hi.2.1,.int .i64 hi.2.2] 143))=.ok (.slice (some ⟨g',0,none⟩) (k + 1) cap') w3 ∧
      w3.cell? ⟨N + 1,0,none⟩=some v∧w3.frozen? ⟨N + 1,0,none⟩=false∧Boxed (w3.setCell ⟨N + 1,0,none⟩ (.slice (some ⟨g',0,none⟩) (k + 1) cap')) (N + 1) 148 (.slice (some ⟨g',0,none⟩) (k + 1) cap') ∧
      (w3.setCell ⟨N + 1,0,none⟩ (.slice (some ⟨g',0,none⟩) (k + 1) cap')).ownsRow N 143 7 (.slice (some ⟨g',0,none⟩) (k + 1) cap') (k + 1) (xs ++ ge7 b lo hi) ∧
      KeepsOthers w2 (w3.setCell ⟨N + 1,0,none⟩ (.slice (some ⟨g',0,none⟩) (k + 1) cap'))∧Below N w2 (w3.setCell ⟨N + 1,0,none⟩ (.slice (some ⟨g',0,none⟩) (k + 1) cap')) ∧
      ∀ q t,PtB w2 q t→PtB (w3.setCell ⟨N + 1,0,none⟩ (.slice (some ⟨g',0,none⟩) (k + 1) cap')) q t:=by
  have hv2:Boxed w2 (N + 1) 148 v:=(hb.block _ hv.lt).trans hv
  have hr2:w2.ownsRow N 143 7 v k xs:=hrow.kept (below_grown9 hb) (by cases v.ownBlock <;> simp)
  have hs:=hb.size
  obtain ⟨v',w3,hrun,hown',hgrow⟩:=appG_run w2 N v k xs hr2 (by omega) hk b lo hi 143
  obtain ⟨g',cap',rfl⟩:=ownsRow_succ hown'
  obtain ⟨hv3,hv4,hr4,hk4,hb4⟩:=hv2.appended (by decide) hr2 (by omega) (Nat.le_succ _) hown' hgrow
  refine ⟨hv2.cell,hv2.lt,g',cap',w3,hrun,hv3.cell,hv3.frozen,hv4,hr4,hk4,hb4,fun q t h=>?_⟩
  have h1:PtB (w2.alloc (.cells #[.slice (some ⟨b,0,none⟩) 3 3,.int .i64 lo.1,.int .i64 lo.2.1,.int .i64 lo.2.2,.int .i64 hi.1,.int .i64 hi.2.1,.int .i64 hi.2.2] 143)) q t:=ptb_below h ((Below.refl _ _).alloc (Nat.le_refl _) _)
  have h2:PtB w3 q t:=by
    refine (hgrow.block q (ptb_lt h1) (fun e=>?_)).trans h1
    rcases hr2.2 with ⟨rfl,_⟩ | ⟨g,cap,cur,rfl,_,hgb,_⟩
    · cases e
    · have eg:q=g:=by simpa [Value.ownBlock] using e
      subst eg
      have h':w2.heap[q]?=_:=h
      rw [hgb] at h'
      simp at h'
  refine ptb_set h2 (fun e=>?_)
  subst e
  have h':w3.heap[N + 1]?=_:=h2
  rw [show w3.heap[N + 1]?=_ from hv3] at h'
  simp at h'
theorem stepG {F:Fence} {n:Nat} {P:Program} {ops:Array Oper} {o:Oper} {a:Act} {w:World} {K:Act→World→Prop} {Q:Exit→Act→World→Prop} {E:Prop}
    (hg:o.guard=none) (s x:Operand) (t:TypeId) (hop:o.op=Op.call { callee:=Callee.builtin Builtin.append,args:=#[s,x],argTypes:=#[t,t] })
    (vs vx v:Value) (w':World) (hs:a.eval s=vs) (hx:a.eval x=vx) (hrun:(Builtin.append_ #[t,t] o.type #[vs,vx]).run P w=.ok v w') (hK:K (a.put o.dst v) w') :
    if Region.wanted o (yielded ops a.tmps)=true then Oper.wpIn F n P o a w K Q else E:=by
  have hw:Region.wanted o (yielded ops a.tmps)=true:=by simp [Region.wanted,hg]
  rw [if_pos hw]
  have hsem:(o.semAt F.round a.eval).run P w=.ok (.value v) w':=by
    cases F.round <;> simp [Oper.semAt,execOp,hop,resolve,invoke,builtin,hs,hx,hrun,Result.andThen]
  refine ⟨fun f h=>?_,?_⟩
  · simp [Oper.about,hop,resolve,Target.leads] at h
  · rw [hsem]
    exact hK
/-- what the loop has: the groups of the parts so far -/
def GsI (base L:Nat) (pre:List T5) (W:World):Prop:=∃ gs:List (Nat × P9),gs.map Prod.snd=pre.map Subtype.val∧(∃ v,Boxed W L 148 v∧W.ownsRow base 143 7 v gs.length (gcs gs)∧True)∧∀ g,g ∈ gs→PtB W g.1 g.2
theorem gsi_own (base L B:Nat):OwnFrom B (GsI base L):=by
  rintro pre W W' row ⟨gs,h1,h2,h3⟩ hg hr
  exact ⟨gs,h1,holdsRow_own (β:=Unit) base L 148 143 7 (fun _=>gs.length) (fun _=>gcs gs) (fun _ _=>True) () W W' row h2 hg (fun r e=>(hr r e).2),fun g hgs=>ptb_grown (h3 g hgs) hg (fun r e=>(hr r e).2)⟩
/-- the end of a round -/
theorem pg_end {N B:Nat} {w W w2 W4:World} {v':Value} {gs:List (Nat × P9)} {pre:List T5} {g:Nat} {t:P9} {ht:BdT 512 t} {lo hi:P3} {a:Act}
    (hgs:gs.map Prod.snd=pre.map Subtype.val) (hbW:Below W.heap.size W w2) (hB:Below N w W) (hN:N≤W.heap.size) (hpt:∀ q,q ∈ gs→PtB W q.1 q.2) (hpb:PtB w2 g t) (hlo:loN (P3F t) 3=lo) (hhi:hiN (P3F t) 3=hi)
    (hv4:Boxed W4 (N + 1) 148 v') (hr4:W4.ownsRow N 143 7 v' (gs.length + 1) (gcs gs ++ ge7 g lo hi)) (hk4:KeepsOthers w2 W4) (hb4:Below N w2 W4) (hp4:∀ q t,PtB w2 q t→PtB W4 q t) :
    ownPostG B (Below N) (fun pre W=>GsI N (N + 1) pre W∧Below N w W) (fun _ _ _=>False) (pre ++ [⟨t,ht⟩]) W .normal a W4:=by
  have e:gcs1 (g,t)=ge7 g lo hi:=by simp only [gcs1,ge7,hlo,hhi]
  refine ⟨((KeepsOthers.of_grownBy (below_grown9 hbW) (fun j o e=>by cases e)).trans hk4).from _,(hbW.mono hN).trans hb4,⟨gs ++ [(g,t)],by rw [List.map_append,List.map_append,hgs];rfl,⟨_,hv4,by rw [List.length_append,← gcs_snoc,e];exact hr4,trivial⟩,fun q hq=>?_⟩,(hB.trans (hbW.mono hN)).trans hb4⟩
  rcases List.mem_append.1 hq with h | h
  · exact hp4 _ _ (ptb_below (hpt q h) hbW)
  · simp at h
    subst h
    exact hp4 _ _ hpb
set_option maxRecDepth 100000 in
set_option maxHeartbeats 4000000 in
theorem pgroups_in (n:Nat) (hn:3≤n) (a b c:P3) (D:Int) (w:World) (hB:BdT 64 (a,b,c)) (h0:0≤D) (h3:D≤3) :
    CallsIn Fence.wide n Tryz.prog 104 #[pnv a b c,.int .i64 D] w fun e W'=>∃ v gs,e=.returned v∧gs.map Prod.snd=cutP D.toNat (a,b,c)∧W'.ownsRow w.heap.size 143 7 v gs.length (gcs gs)∧(∀ g,g ∈ gs→PtB W' g.1 g.2)∧Below w.heap.size w W':=by
  have h1:1≤n:=by omega
  have hd:D.toNat=0∨D.toNat=1∨D.toNat=2∨D.toNat=3:=by omega
  have PTC:=Lib.hid (fun (m:Nat) (W:World)=>(callsIn_wide (n:=m)).2 (parts_any (a,b,c) D W))
  obtain ⟨i0,hi,hz0,hz1,hz2⟩:=info_parts infoG7
  refine callsIn_of_wp_marks Tryz.func104 rfl trivial ?_ rfl
  simp only [Tryz.ntmps104,List.size_toArray,List.length_cons,List.length_nil,Nat.reduceAdd,Nat.reduceSub,Array.replicate_succ,Array.replicate_zero,List.push_toArray,List.append_toArray,List.nil_append,List.cons_append]
  gi_wp2_with (refine ⟨trivial,?_⟩;gi_at_call 113;refine (PTC.out _ _).mono ?_;rintro e W2 ⟨rfl,rfl⟩)
  obtain ⟨W0,hW0⟩:∃ W0,((w.alloc (pnc a b c 59)).alloc (.cells #[.slice none 0 0] 148))=W0:=⟨_,rfl⟩
  have s0:W0.heap.size=w.heap.size + 1 + 1:=by rw [← hW0];simp
  have B0:Below w.heap.size w W0:=by rw [← hW0];exact ((Below.refl _ w).alloc (Nat.le_refl _) _).alloc (by simp) _
  have bO:Boxed W0 (w.heap.size + 1) 148 (.slice none 0 0):=by
    rw [← hW0]
    have:=Boxed.new (w.alloc (pnc a b c 59)) 148 (.slice none 0 0)
    rwa [World.size_alloc] at this
  have P1:=pan_alloc (pan_new W0 a b c 59) (.cells #[.int .i64 D] 3)
  have c1:((W0.alloc (pnc a b c 59)).alloc (.cells #[.int .i64 D] 3)).cell? ⟨w.heap.size + 1 + 1 + 1,0,none⟩=some (.int .i64 D):=by rw [← s0];go_simp
  have bO1:=(bO.alloc (pnc a b c 59)).alloc (.cells #[.int .i64 D] 3)
  have B1:Below w.heap.size w ((W0.alloc (pnc a b c 59)).alloc (.cells #[.int .i64 D] 3)):=(B0.alloc B0.size _).alloc (by simp;omega) _
  have s1:((W0.alloc (pnc a b c 59)).alloc (.cells #[.int .i64 D] 3)).heap.size=w.heap.size + 1 + 1 + 1 + 1:=by simp [s0]
  rw [hW0]
  rw [s0] at P1
  generalize (W0.alloc (pnc a b c 59)).alloc (.cells #[.int .i64 D] 3)=W1 at *
  clear hW0 bO B0
  have hseq:=parts_stopsM (n - 1) D.toNat D 64 (a,b,c) w.heap.size (w.heap.size + 1 + 1) (w.heap.size + 1 + 1 + 1) W1 (by omega) (by omega) hB (by rcases hd with e | e | e | e <;> rw [e] <;> decide) (by omega) P1 c1 (by omega)
  refine wpIn_rangeFunc_ownH rfl h1 (gf:=134) (lb:=#[.pointer (some ⟨w.heap.size + 1 + 1,0,none⟩),.pointer (some ⟨w.heap.size + 1 + 1 + 1,0,none⟩)]) rfl trivial (enters_of Tryz.func134 (by kernel_rfl) rfl) hseq belowK_t (belowK_b (by omega)) (Below.refl _ W1) (fun _=>rfl)
    (fun pre W=>GsI w.heap.size (w.heap.size + 1) pre W∧Below w.heap.size w W)
    (fun _ _ _=>False)
    (OwnFrom.and (gsi_own _ _ _) (ownFrom_below (Nat.le_refl _) (by omega)))
    (fun _ _ _ _ _ hs _ _=>hs)
    ⟨⟨[],rfl,⟨_,bO1,World.ownsRow_nil _ _ _ _,trivial⟩,by simp⟩,B1⟩
    (fun x a' W=>∃ Bx,w.heap.size + 1 < Bx∧BxP W Bx x.1∧a'={ tmps:=#[pnv a b c,.int .i64 D,.pointer (some ⟨w.heap.size,0,none⟩),undef,.slice none 0 0,.pointer (some ⟨w.heap.size + 1,0,none⟩),.pointer (some ⟨Bx,0,none⟩),pnv a b c,.int .i64 D,.func (.func 134) #[] #[.pointer (some ⟨w.heap.size + 1 + 1,0,none⟩),.pointer (some ⟨w.heap.size + 1 + 1 + 1,0,none⟩)],p9v x.1,undef,undef,undef,undef,undef,undef],defers:=[] })
    (fun x a'=>by
      rintro _ X Y row ⟨Bx,hx,hb,rfl⟩ hg hr
      exact ⟨Bx,hx,bxp_own Bx x.1 () X Y row hb hg (fun r e=>(hr r e).2),rfl⟩) ?assign ?body ?done ?stop
  case assign =>
    rintro l pre x W K ⟨hG,hB⟩ hK
    have hL:w.heap.size + 1 < W.heap.size:=by obtain ⟨_,_,⟨_,h,_⟩,_⟩:=hG;exact h.lt
    gi_wp2
    exact hK _ _ ((KeepsOthers.alloc _ _).from _) ((Below.refl _ W).alloc hB.size _) ⟨(gsi_own _ _ 0).alloc _ hG,hB.alloc hB.size _⟩ ⟨W.heap.size,hL,World.alloc_heap_new W _,rfl⟩
  case body =>
    rintro l pre x a' W hl ⟨r,hr⟩ ⟨⟨gs,hgs,⟨v,hv,hrow,_⟩,hpt⟩,hB⟩ ⟨Bx,hBx,hX,rfl⟩ hlt
    have hc:=hv.cell
    obtain ⟨⟨xa,xb,xc⟩,hx5⟩:=x
    have x0:Pan W Bx xa xb xc:=by
      have hX':W.heap[Bx]?=_:=hX
      refine ⟨?_,?_,?_,?_,?_,?_,?_,?_,?_,(Array.getElem?_eq_some_iff.1 hX').1⟩ <;> simp [World.cell?,hX']
    obtain ⟨c0,c1,c2,c3,c4,c5,c6,c7,c8,cl⟩:=x0
    have CC:=Lib.hid (fun (m:Nat) (W:World)=>(callsIn_wide (n:=m)).2 (corners_any xa xb xc 1 W (by rw [tim_one];exact hx5.1.mono (by decide)) (by rw [tim_one];exact hx5.2.1.mono (by decide)) (by rw [tim_one];exact hx5.2.2.mono (by decide))))
    simp only [tim_one] at CC
    generalize hlo:loN (P3F (xa,xb,xc)) 3=lo at *
    generalize hhi:hiN (P3F (xa,xb,xc)) 3=hi' at *
    gi_wp2_with fail
    have hk9:gs.length≤1000:=by
      have e1:gs.length=pre.length:=by have:=congrArg List.length hgs;simpa using this
      have e2:pre.length < 4 ^ 3:=Nat.lt_of_lt_of_le hlt (Nat.pow_le_pow_right (by decide) (by omega))
      have e3:(4:Nat) ^ 3=64:=rfl
      omega
    have ST:=Lib.hid (fun (w2:World) (hb:Below W.heap.size W w2) (b:Nat)=>pg_step w.heap.size W w2 v gs.length (gcs gs) hv hrow hB.size hk9 hb b lo hi')
    refine wpIn_region_any (by kernel_rfl) ?_
    change wpAnyIn _ _ _ _ _ _ _ _ _ (World.drew _)
    refine wpAnyIn_ready (rs:=[0,1]) (by kernel_rfl) (by simp) ?_
    refine AllReadyIn.cons rfl (fun K hK=>?_) ?_
    · go_simp
      refine hK _ _ ?_;clear hK K
      refine wpAnyIn_ready (rs:=[1]) (by kernel_rfl) (by simp) ?_
      refine AllReadyIn.cons rfl (fun K hK=>?_) AllReadyIn.nil
      go_simp
      refine hK _ _ ?_;clear hK K
      refine wpAnyIn_ready (rs:=[2]) (by kernel_rfl) (by simp) ?_
      refine AllReadyIn.cons rfl (fun K hK=>?_) AllReadyIn.nil
      go_simp
      refine ⟨trivial,fun h=>(by cases (show false=true from h)),?_⟩;gi_at_call 127;refine ((CC.out _ _).inRound l).mono ?_;rintro e w2 ⟨g,rfl,hg,hpb,hb2⟩;obtain ⟨hc2,hl2,g',cap',w3,hrun,hc3,hf3,hv4,hr4,hk4,hb4,hp4⟩:=ST.out w2 (Below.trans (Below.drew (Below.refl W.heap.size W)) hb2) g;have ne2:¬ (w2.heap.size=w.heap.size + 1):=(by omega)
      dsimp only
      refine hK _ _ ?_;clear hK K
      refine wpAnyIn_ready (rs:=[3]) (by kernel_rfl) (by simp) ?_
      refine AllReadyIn.cons rfl (fun K hK=>?_) AllReadyIn.nil
      go_simp
      refine hK _ _ ?_;clear hK K
      refine wpAnyIn_ready (rs:=[4]) (by kernel_rfl) (by simp) ?_
      refine AllReadyIn.cons rfl (fun K hK=>?_) AllReadyIn.nil
      refine stepG rfl (.tmp 11) (.tmp 14) 148 rfl v (.slice (some ⟨w2.heap.size,0,none⟩) 1 1) (.slice (some ⟨g',0,none⟩) (gs.length + 1) cap') w3 rfl rfl hrun ?_
      refine hK _ _ ?_;clear hK K
      refine wpAnyIn_ready (rs:=[5]) (by kernel_rfl) (by simp) ?_
      refine AllReadyIn.cons rfl (fun K hK=>?_) AllReadyIn.nil
      go_simp
      refine hK _ _ ?_;clear hK K
      refine wpAnyIn_done (by kernel_rfl) ?_ _
      have hbW:Below W.heap.size W w2:=Below.trans (Below.drew (Below.refl W.heap.size W)) hb2
      exact pg_end (a:=⟨#[],[]⟩) hgs hbW hB hB.size hpt hpb hlo hhi hv4 hr4 hk4 hb4 hp4
    refine AllReadyIn.cons rfl (fun K hK=>?_) AllReadyIn.nil
    go_simp
    refine hK _ _ ?_;clear hK K
    refine wpAnyIn_ready (rs:=[0,2]) (by kernel_rfl) (by simp) ?_
    refine AllReadyIn.cons rfl (fun K hK=>?_) ?_
    · go_simp
      refine hK _ _ ?_;clear hK K
      refine wpAnyIn_ready (rs:=[2]) (by kernel_rfl) (by simp) ?_
      refine AllReadyIn.cons rfl (fun K hK=>?_) AllReadyIn.nil
      go_simp
      refine ⟨trivial,fun h=>(by cases (show false=true from h)),?_⟩;gi_at_call 127;refine ((CC.out _ _).inRound l).mono ?_;rintro e w2 ⟨g,rfl,hg,hpb,hb2⟩;obtain ⟨hc2,hl2,g',cap',w3,hrun,hc3,hf3,hv4,hr4,hk4,hb4,hp4⟩:=ST.out w2 (Below.trans (Below.drew (Below.refl W.heap.size W)) hb2) g;have ne2:¬ (w2.heap.size=w.heap.size + 1):=(by omega)
      dsimp only
      refine hK _ _ ?_;clear hK K
      refine wpAnyIn_ready (rs:=[3]) (by kernel_rfl) (by simp) ?_
      refine AllReadyIn.cons rfl (fun K hK=>?_) AllReadyIn.nil
      go_simp
      refine hK _ _ ?_;clear hK K
      refine wpAnyIn_ready (rs:=[4]) (by kernel_rfl) (by simp) ?_
      refine AllReadyIn.cons rfl (fun K hK=>?_) AllReadyIn.nil
      refine stepG rfl (.tmp 11) (.tmp 14) 148 rfl v (.slice (some ⟨w2.heap.size,0,none⟩) 1 1) (.slice (some ⟨g',0,none⟩) (gs.length + 1) cap') w3 rfl rfl hrun ?_
      refine hK _ _ ?_;clear hK K
      refine wpAnyIn_ready (rs:=[5]) (by kernel_rfl) (by simp) ?_
      refine AllReadyIn.cons rfl (fun K hK=>?_) AllReadyIn.nil
      go_simp
      refine hK _ _ ?_;clear hK K
      refine wpAnyIn_done (by kernel_rfl) ?_ _
      have hbW:Below W.heap.size W w2:=Below.trans (Below.drew (Below.refl W.heap.size W)) hb2
      exact pg_end (a:=⟨#[],[]⟩) hgs hbW hB hB.size hpt hpb hlo hhi hv4 hr4 hk4 hb4 hp4
    refine AllReadyIn.cons rfl (fun K hK=>?_) AllReadyIn.nil
    go_simp
    refine ⟨trivial,fun h=>(by cases (show false=true from h)),?_⟩;gi_at_call 127;refine ((CC.out _ _).inRound l).mono ?_;rintro e w2 ⟨g,rfl,hg,hpb,hb2⟩;obtain ⟨hc2,hl2,g',cap',w3,hrun,hc3,hf3,hv4,hr4,hk4,hb4,hp4⟩:=ST.out w2 (Below.trans (Below.drew (Below.refl W.heap.size W)) hb2) g;have ne2:¬ (w2.heap.size=w.heap.size + 1):=(by omega)
    dsimp only
    refine hK _ _ ?_;clear hK K
    refine wpAnyIn_ready (rs:=[0,3]) (by kernel_rfl) (by simp) ?_
    refine AllReadyIn.cons rfl (fun K hK=>?_) ?_
    · go_simp
      refine hK _ _ ?_;clear hK K
      refine wpAnyIn_ready (rs:=[3]) (by kernel_rfl) (by simp) ?_
      refine AllReadyIn.cons rfl (fun K hK=>?_) AllReadyIn.nil
      go_simp
      refine hK _ _ ?_;clear hK K
      refine wpAnyIn_ready (rs:=[4]) (by kernel_rfl) (by simp) ?_
      refine AllReadyIn.cons rfl (fun K hK=>?_) AllReadyIn.nil
      refine stepG rfl (.tmp 11) (.tmp 14) 148 rfl v (.slice (some ⟨w2.heap.size,0,none⟩) 1 1) (.slice (some ⟨g',0,none⟩) (gs.length + 1) cap') w3 rfl rfl hrun ?_
      refine hK _ _ ?_;clear hK K
      refine wpAnyIn_ready (rs:=[5]) (by kernel_rfl) (by simp) ?_
      refine AllReadyIn.cons rfl (fun K hK=>?_) AllReadyIn.nil
      go_simp
      refine hK _ _ ?_;clear hK K
      refine wpAnyIn_done (by kernel_rfl) ?_ _
      have hbW:Below W.heap.size W w2:=Below.trans (Below.drew (Below.refl W.heap.size W)) hb2
      exact pg_end (a:=⟨#[],[]⟩) hgs hbW hB hB.size hpt hpb hlo hhi hv4 hr4 hk4 hb4 hp4
    refine AllReadyIn.cons rfl (fun K hK=>?_) AllReadyIn.nil
    go_simp
    refine hK _ _ ?_;clear hK K
    refine wpAnyIn_ready (rs:=[0]) (by kernel_rfl) (by simp) ?_
    refine AllReadyIn.cons rfl (fun K hK=>?_) AllReadyIn.nil
    go_simp
    refine hK _ _ ?_;clear hK K
    refine wpAnyIn_ready (rs:=[4]) (by kernel_rfl) (by simp) ?_
    refine AllReadyIn.cons rfl (fun K hK=>?_) AllReadyIn.nil
    refine stepG rfl (.tmp 11) (.tmp 14) 148 rfl v (.slice (some ⟨w2.heap.size,0,none⟩) 1 1) (.slice (some ⟨g',0,none⟩) (gs.length + 1) cap') w3 rfl rfl hrun ?_
    refine hK _ _ ?_;clear hK K
    refine wpAnyIn_ready (rs:=[5]) (by kernel_rfl) (by simp) ?_
    refine AllReadyIn.cons rfl (fun K hK=>?_) AllReadyIn.nil
    go_simp
    refine hK _ _ ?_;clear hK K
    refine wpAnyIn_done (by kernel_rfl) ?_ _
    have hbW:Below W.heap.size W w2:=Below.trans (Below.drew (Below.refl W.heap.size W)) hb2
    exact pg_end (a:=⟨#[],[]⟩) hgs hbW hB hB.size hpt hpb hlo hhi hv4 hr4 hk4 hb4 hp4
  case done =>
    rintro D' ys W hD hS ⟨⟨gs,hgs,⟨v,hv,hrow,_⟩,hpt⟩,hB⟩ hK
    have hc:=hv.cell
    gi_wp2
    refine ⟨by simp,.inl ⟨_,_,rfl,run_takeDeferred hK,?_⟩⟩
    exact ⟨_,results_tmp rfl _ _ _,v,gs,rfl,hgs.trans hS,ownsRow_putObj hrow _ hK rfl,fun q hq=>ptb_grown (hpt q hq) (grownBy_putObj' W D' _) (fun r e=>by cases e;exact ⟨_,hK,rfl⟩),hB.trans (belowK_b (w:=w) (Nat.le_refl _) W D' _ _ (by omega) hK rfl rfl)⟩
  case stop =>
    rintro D c pre W _ _ h _
    exact h.elim
end Go.Proofs.YtgchcnpgjfoadaaGreat
namespace Go.Proofs.YtgchcnpgjfoadaaGreat
open Go.ChangeShapes Go.WideShapes Go.RowKit
open Sh
/-- a block of the call's own behind an alloc of a region, whatever it holds -/
def QX {α:Type} (OW:World→Nat→α→Prop) (l:Array Bool) (W:World) (x:Value) (k s N:Nat) (t:α):Prop :=
  (l.getD s false=true→l.getD k false=true)∧(l.getD k false=true→∃ b v,x=.pointer (some ⟨b,0,none⟩)∧N≤b∧OW W b v∧(l.getD s false=true→v=t))
theorem QX.nought {α:Type} {OW:World→Nat→α→Prop} {n:Nat} {W:World} {x:Value} {k s N:Nat} {t:α}:QX OW (Array.replicate n false) W x k s N t:=⟨fun h=>(rep_no h).elim,fun h=>(rep_no h).elim⟩
theorem QX.keep {α:Type} {OW:World→Nat→α→Prop} {l:Array Bool} {W W':World} {x:Value} {i k s N:Nat} {t:α} (h:QX OW l W x k s N t) (ne:i ≠ k) (ns:i ≠ s) (tr:∀ b v,OW W b v→OW W' b v):QX OW (l.setIfInBounds i true) W' x k s N t :=
  ⟨fun e=>gs_t ne (h.1 (gs ns e)),fun e=>by
    obtain ⟨b,v,h1,h2,h3,h4⟩:=h.2 (gs ne e)
    exact ⟨b,v,h1,h2,tr b v h3,fun e'=>h4 (gs ns e')⟩⟩
theorem QX.made {α:Type} {OW:World→Nat→α→Prop} {l:Array Bool} {W W':World} {x:Value} {k s N:Nat} {t v:α} (h:QX OW l W x k s N t) (ne:k ≠ s) (hl:k < l.size) (hk:l.getD k true=false) (hN:N≤W.heap.size) (o:OW W' W.heap.size v):QX OW (l.setIfInBounds k true) W' (.pointer (some ⟨W.heap.size,0,none⟩)) k s N t :=
  ⟨fun _=>gs_i hl,fun _=>⟨_,v,rfl,hN,o,fun e=>by
    have z:=h.1 (gs ne e)
    rw [Array.getD_eq_getD_getElem?,Array.getElem?_eq_getElem hl] at z hk
    rw [show l[k]=true from z] at hk
    cases hk⟩⟩
theorem QX.put {α:Type} {OW:World→Nat→α→Prop} {l:Array Bool} {W':World} {x:Value} {k s N b:Nat} {t:α} (ne:s ≠ k) (hk:l.getD k false=true) (hx:x=.pointer (some ⟨b,0,none⟩)) (hN:N≤b) (o:OW W' b t):QX OW (l.setIfInBounds s true) W' x k s N t :=
  ⟨fun _=>gs_t ne hk,fun _=>⟨b,t,hx,hN,o,fun _=>rfl⟩⟩
def OwP (w:World) (b:Nat) (p:Int × Int):Prop:=w.cell? ⟨b,0,none⟩=some (.int .i64 p.1)∧w.cell? ⟨b,1,none⟩=some (.int .i64 p.2)∧w.frozen? ⟨b,0,none⟩=false∧w.frozen? ⟨b,1,none⟩=false∧b < w.heap.size
theorem owp_new (w:World) (p:Int × Int) (t:TypeId):OwP (w.alloc (.cells #[.int .i64 p.1,.int .i64 p.2] t)) w.heap.size p:=⟨by go_simp,by go_simp,by go_simp,by go_simp,by simp⟩
theorem owp_below {w w1:World} {b:Nat} {p:Int × Int} (h:OwP w b p) (hb:Below w.heap.size w w1):OwP w1 b p:=by
  obtain ⟨h1,h2,h3,h4,h5⟩:=h
  exact ⟨(hb.cell (p:=⟨b,0,none⟩) h5).trans h1,(hb.cell (p:=⟨b,1,none⟩) h5).trans h2,(hb.frozen (p:=⟨b,0,none⟩) h5).trans h3,(hb.frozen (p:=⟨b,1,none⟩) h5).trans h4,Nat.lt_of_lt_of_le h5 hb.size⟩
theorem owp_alloc {w:World} {b:Nat} {p:Int × Int} (h:OwP w b p) (o:Obj):OwP (w.alloc o) b p:=owp_below h ((Below.refl _ _).alloc (Nat.le_refl _) _)
theorem owp_put {w:World} {b:Nat} {v:Int × Int} (h:OwP w b v) (p:Int × Int):OwP ((w.setCell ⟨b,0,none⟩ (.int .i64 p.1)).setCell ⟨b,1,none⟩ (.int .i64 p.2)) b p:=by
  obtain ⟨h1,h2,h3,h4,h5⟩:=h
  exact ⟨by go_simp,by go_simp,by go_simp,by go_simp,by simpa using h5⟩
theorem below_set2 {N:Nat} {w:World} {b:Nat} (x y:Value) (h:N≤b):Below N w ((w.setCell ⟨b,0,none⟩ x).setCell ⟨b,1,none⟩ y):=((Below.refl _ _).setCell h _).setCell h _
def floiOps : Array Oper := #[{ dst := some 8, op := Op.fieldAddr 147 (Operand.tmp 2) 2, type := 0, pos := "view.go:26", after := #[], guard := none }, { dst := some 9, op := Op.load 139 (Operand.tmp 8), type := 139, pos := "view.go:26", after := #[{ on := 0, ground := Ground.data }], guard := none }, { dst := some 10, op := Op.load 143 (Operand.tmp 3), type := 143, pos := "view.go:26", after := #[], guard := none }, { dst := some 11, op := Op.fieldAddr 147 (Operand.tmp 2) 0, type := 0, pos := "view.go:26", after := #[], guard := none }, { dst := some 12, op := Op.load 143 (Operand.tmp 11), type := 143, pos := "view.go:26", after := #[{ on := 3, ground := Ground.data }], guard := none }, { dst := some 13, op := Op.call { callee := Callee.value (Operand.func 131), args := #[Operand.tmp 10, Operand.tmp 12], argTypes := #[143, 143] }, type := 3, pos := "view.go:26", after := #[{ on := 2, ground := Ground.data }, { on := 4, ground := Ground.data }], guard := none }, { dst := some 14, op := Op.fieldAddr 147 (Operand.tmp 2) 1, type := 0, pos := "view.go:26", after := #[], guard := none }, { dst := some 15, op := Op.load 3 (Operand.tmp 14), type := 3, pos := "view.go:26", after := #[{ on := 6, ground := Ground.data }], guard := none }, { dst := some 16, op := Op.call { callee := Callee.value (Operand.tmp 9), args := #[Operand.tmp 13, Operand.tmp 15], argTypes := #[3, 3] }, type := 35, pos := "view.go:26", after := #[{ on := 1, ground := Ground.data }, { on := 5, ground := Ground.data }, { on := 7, ground := Ground.data }, { on := 5, ground := Ground.chain }], guard := none }, { dst := some 7, op := Op.move (Operand.tmp 16), type := 35, pos := "view.go:26", after := #[{ on := 8, ground := Ground.data }], guard := none }, { dst := some 17, op := Op.extract (Operand.tmp 7) 0, type := 34, pos := "view.go:26", after := #[{ on := 9, ground := Ground.data }], guard := none }, { dst := some 18, op := Op.extract (Operand.tmp 7) 1, type := 27, pos := "view.go:26", after := #[{ on := 9, ground := Ground.data }, { on := 13, ground := Ground.gcOnly Departure.lateStores }], guard := none }, { dst := some 5, op := Op.alloc 34, type := 0, pos := "view.go:26", after := #[], guard := none }, { dst := none, op := Op.store 34 (Operand.tmp 5) (Operand.tmp 17), type := 0, pos := "view.go:26", after := #[{ on := 12, ground := Ground.data }, { on := 10, ground := Ground.data }, { on := 8, ground := Ground.chain }, { on := 0, ground := Ground.phase }, { on := 1, ground := Ground.phase }, { on := 2, ground := Ground.phase }, { on := 3, ground := Ground.phase }, { on := 4, ground := Ground.phase }, { on := 5, ground := Ground.phase }, { on := 6, ground := Ground.phase }, { on := 7, ground := Ground.phase }, { on := 8, ground := Ground.phase }, { on := 9, ground := Ground.phase }, { on := 10, ground := Ground.phase }, { on := 11, ground := Ground.textOnly Departure.lateStores }, { on := 12, ground := Ground.phase }], guard := none }, { dst := some 6, op := Op.assign (Operand.tmp 18), type := 27, pos := "view.go:26", after := #[{ on := 11, ground := Ground.data }, { on := 13, ground := Ground.chain }, { on := 0, ground := Ground.phase }, { on := 1, ground := Ground.phase }, { on := 2, ground := Ground.phase }, { on := 3, ground := Ground.phase }, { on := 4, ground := Ground.phase }, { on := 5, ground := Ground.phase }, { on := 6, ground := Ground.phase }, { on := 7, ground := Ground.phase }, { on := 8, ground := Ground.phase }, { on := 9, ground := Ground.phase }, { on := 10, ground := Ground.phase }, { on := 11, ground := Ground.phase }, { on := 12, ground := Ground.phase }, { on := 13, ground := Ground.phase }], guard := none }]
def floiT (x:Nat) (y:Nat) (y0 y1 y19 y20:Value) (X:Nat→Value):Array Value:=#[y0,y1,.pointer (some ⟨x,0,none⟩),.pointer (some ⟨y,0,none⟩),.int .i64 0,X 5,X 6,X 7,X 8,X 9,X 10,X 11,X 12,X 13,X 14,X 15,X 16,X 17,X 18,y19,y20]
theorem floiT_eq (x:Nat) (y:Nat) (y0 y1 y19 y20:Value) (X:Nat→Value):floiT x y y0 y1 y19 y20 X=#[y0,y1,.pointer (some ⟨x,0,none⟩),.pointer (some ⟨y,0,none⟩),.int .i64 0,X 5,X 6,X 7,X 8,X 9,X 10,X 11,X 12,X 13,X 14,X 15,X 16,X 17,X 18,y19,y20]:=rfl
def floiI (G:World→Prop) (N:Nat) (x y b n c d m e:Nat) (al ah bl bh:P3) (sc f:Int) (r:Sp.R) (y0 y1 y19 y20:Value) (l:Array Bool) (A:Act) (W:World):Prop :=
  l.size=15∧∃ X:Nat→Value,A={ tmps:=floiT x y y0 y1 y19 y20 X,defers:=[] }∧N≤W.heap.size∧G W∧PV l 0 (X 8) (.pointer (some ⟨x,8,none⟩))∧PV l 1 (X 9) (.func (.func 76) #[] #[])∧PV l 2 (X 10) (grv b n c al ah)∧PV l 3 (X 11) (.pointer (some ⟨x,0,none⟩))∧PV l 4 (X 12) (grv d m e bl bh)∧PV l 5 (X 13) (.int .i64 f)∧PV l 6 (X 14) (.pointer (some ⟨x,7,none⟩))∧PV l 7 (X 15) (.int .i64 sc)∧PV l 8 (X 16) (spr r)∧PV l 9 (X 7) (spr r)∧PV l 10 (X 17) (.agg #[.int .i64 r.1.1,.int .i64 r.1.2])∧PV l 11 (X 18) (.int .i64 r.2)∧PV l 14 (X 6) (.int .i64 r.2)∧QX OwP l W (X 5) 12 13 N (r.1)
set_option maxRecDepth 100000 in
set_option maxHeartbeats 4000000 in
theorem floi_steps (G:World→Prop) (N:Nat) (x y b n c d m e:Nat) (al ah bl bh:P3) (sc f:Int) (r:Sp.R) (y0 y1 y19 y20:Value) (Q:Exit→Act→World→Prop) (GC:Hid (∀ W:World,G W→W.cell? ⟨x,0,none⟩=some (.slice (some ⟨d,0,none⟩) m e)∧W.cell? ⟨x,1,none⟩=some (.int .i64 bl.1)∧W.cell? ⟨x,2,none⟩=some (.int .i64 bl.2.1)∧W.cell? ⟨x,3,none⟩=some (.int .i64 bl.2.2)∧W.cell? ⟨x,4,none⟩=some (.int .i64 bh.1)∧W.cell? ⟨x,5,none⟩=some (.int .i64 bh.2.1)∧W.cell? ⟨x,6,none⟩=some (.int .i64 bh.2.2)∧W.cell? ⟨x,7,none⟩=some (.int .i64 sc)∧W.cell? ⟨x,8,none⟩=some (.func (.func 76) #[] #[])∧W.cell? ⟨y,0,none⟩=some (.slice (some ⟨b,0,none⟩) n c)∧W.cell? ⟨y,1,none⟩=some (.int .i64 al.1)∧W.cell? ⟨y,2,none⟩=some (.int .i64 al.2.1)∧W.cell? ⟨y,3,none⟩=some (.int .i64 al.2.2)∧W.cell? ⟨y,4,none⟩=some (.int .i64 ah.1)∧W.cell? ⟨y,5,none⟩=some (.int .i64 ah.2.1)∧W.cell? ⟨y,6,none⟩=some (.int .i64 ah.2.2))) (FC:Hid (∀ W,G W→Calls Tryz.prog 131 #[grv b n c al ah,grv d m e bl bh] W fun e w'=>e=.returned (.int .i64 f)∧Below W.heap.size W w')) (KC:Hid (∀ W,Calls Tryz.prog 76 #[.int .i64 f,.int .i64 sc] W fun e w'=>e=.returned (spr r)∧Below W.heap.size W w')) (GI:Hid (∀ W W':World,Below N W W'→G W→G W')) :
    allOps (fun i o=>∀ (l:Array Bool) (A:Act) (W:World),floiI G N x y b n c d m e al ah bl bh sc f r y0 y1 y19 y20 l A W→l.getD i true=false→(∀ e ∈ o.after,Region.binds .any e=true→l.getD e.on false=true)→∀ K':Act→World→Prop,(∀ A' W',floiI G N x y b n c d m e al ah bl bh sc f r y0 y1 y19 y20 (l.setIfInBounds i true) A' W'→K' A' W')→if Region.wanted o (yielded floiOps A.tmps)=true then Oper.wp Tryz.prog o A W K' Q else K' (A.put o.dst undef) W) 0 floiOps.toList:=by
  simp only [floiOps,allOps]
  refine ⟨?_,?_,?_,?_,?_,?_,?_,?_,?_,?_,?_,?_,?_,?_,?_,trivial⟩
  · rintro l A W ⟨hl,X,rfl,hN,g,F⟩ h1 hp K hK
    rw [floiT_eq]
    have g':=Lib.hid g
    have F':=Lib.hid F;clear F g
    have hN':=Lib.hid hN;clear hN;have hl':=Lib.hid hl;clear hl;have h1':=Lib.hid h1;clear h1;have hp':=Lib.hid hp;clear hp;have hK':=Lib.hid hK;clear hK
    go_simp
    have hK:=hK'.out;have hN:=hN'.out;have hl:=hl'.out;have h1:=h1'.out
    obtain ⟨p0,p1,p2,p3,p4,p5,p6,p7,p8,p9,p10,p11,p14,qa0⟩:=F'.out
    have g:=g'.out
    refine hK _ _ ⟨by simpa using hl,(upd X 8 (.pointer (some ⟨x,8,none⟩))),rfl,hN,g,PV.made rfl,p1.k,p2.k,p3.k,p4.k,p5.k,p6.k,p7.k,p8.k,p9.k,p10.k,p11.k,p14.k,qa0.keep (by decide) (by decide) (fun _ _ h=>h)⟩
  · rintro l A W ⟨hl,X,rfl,hN,g,F⟩ h1 hp K hK
    have e0:=F.1 (hp ⟨0,.data⟩ (by simp) rfl)
    obtain ⟨c0,c1,c2,c3,c4,c5,c6,v7,v8,d0,d1,d2,d3,d4,d5,d6⟩:=GC.out W g
    rw [floiT_eq]
    have g':=Lib.hid g
    have F':=Lib.hid F;clear F g
    have hN':=Lib.hid hN;clear hN;have hl':=Lib.hid hl;clear hl;have h1':=Lib.hid h1;clear h1;have hp':=Lib.hid hp;clear hp;have hK':=Lib.hid hK;clear hK
    go_simp
    have hK:=hK'.out;have hN:=hN'.out;have hl:=hl'.out;have h1:=h1'.out
    obtain ⟨p0,p1,p2,p3,p4,p5,p6,p7,p8,p9,p10,p11,p14,qa0⟩:=F'.out
    have g:=g'.out
    refine hK _ _ ⟨by simpa using hl,(upd (upd X 8 (.pointer (some ⟨x,8,none⟩))) 9 (.func (.func 76) #[] #[])),rfl,hN,g,PV.made rfl,PV.made rfl,p2.k,p3.k,p4.k,p5.k,p6.k,p7.k,p8.k,p9.k,p10.k,p11.k,p14.k,qa0.keep (by decide) (by decide) (fun _ _ h=>h)⟩
  · rintro l A W ⟨hl,X,rfl,hN,g,F⟩ h1 hp K hK
    obtain ⟨c0,c1,c2,c3,c4,c5,c6,v7,v8,d0,d1,d2,d3,d4,d5,d6⟩:=GC.out W g
    rw [floiT_eq]
    have g':=Lib.hid g
    have F':=Lib.hid F;clear F g
    have hN':=Lib.hid hN;clear hN;have hl':=Lib.hid hl;clear hl;have h1':=Lib.hid h1;clear h1;have hp':=Lib.hid hp;clear hp;have hK':=Lib.hid hK;clear hK
    go_simp
    have hK:=hK'.out;have hN:=hN'.out;have hl:=hl'.out;have h1:=h1'.out
    obtain ⟨p0,p1,p2,p3,p4,p5,p6,p7,p8,p9,p10,p11,p14,qa0⟩:=F'.out
    have g:=g'.out
    refine hK _ _ ⟨by simpa using hl,(upd X 10 (grv b n c al ah)),rfl,hN,g,p0.k,p1.k,PV.made rfl,p3.k,p4.k,p5.k,p6.k,p7.k,p8.k,p9.k,p10.k,p11.k,p14.k,qa0.keep (by decide) (by decide) (fun _ _ h=>h)⟩
  · rintro l A W ⟨hl,X,rfl,hN,g,F⟩ h1 hp K hK
    rw [floiT_eq]
    have g':=Lib.hid g
    have F':=Lib.hid F;clear F g
    have hN':=Lib.hid hN;clear hN;have hl':=Lib.hid hl;clear hl;have h1':=Lib.hid h1;clear h1;have hp':=Lib.hid hp;clear hp;have hK':=Lib.hid hK;clear hK
    go_simp
    have hK:=hK'.out;have hN:=hN'.out;have hl:=hl'.out;have h1:=h1'.out
    obtain ⟨p0,p1,p2,p3,p4,p5,p6,p7,p8,p9,p10,p11,p14,qa0⟩:=F'.out
    have g:=g'.out
    refine hK _ _ ⟨by simpa using hl,(upd X 11 (.pointer (some ⟨x,0,none⟩))),rfl,hN,g,p0.k,p1.k,p2.k,PV.made rfl,p4.k,p5.k,p6.k,p7.k,p8.k,p9.k,p10.k,p11.k,p14.k,qa0.keep (by decide) (by decide) (fun _ _ h=>h)⟩
  · rintro l A W ⟨hl,X,rfl,hN,g,F⟩ h1 hp K hK
    have e3:=F.2.2.2.1 (hp ⟨3,.data⟩ (by simp) rfl)
    obtain ⟨c0,c1,c2,c3,c4,c5,c6,v7,v8,d0,d1,d2,d3,d4,d5,d6⟩:=GC.out W g
    rw [floiT_eq]
    have g':=Lib.hid g
    have F':=Lib.hid F;clear F g
    have hN':=Lib.hid hN;clear hN;have hl':=Lib.hid hl;clear hl;have h1':=Lib.hid h1;clear h1;have hp':=Lib.hid hp;clear hp;have hK':=Lib.hid hK;clear hK
    go_simp
    have hK:=hK'.out;have hN:=hN'.out;have hl:=hl'.out;have h1:=h1'.out
    obtain ⟨p0,p1,p2,p3,p4,p5,p6,p7,p8,p9,p10,p11,p14,qa0⟩:=F'.out
    have g:=g'.out
    refine hK _ _ ⟨by simpa using hl,(upd (upd X 11 (.pointer (some ⟨x,0,none⟩))) 12 (grv d m e bl bh)),rfl,hN,g,p0.k,p1.k,p2.k,PV.made rfl,PV.made rfl,p5.k,p6.k,p7.k,p8.k,p9.k,p10.k,p11.k,p14.k,qa0.keep (by decide) (by decide) (fun _ _ h=>h)⟩
  · rintro l A W ⟨hl,X,rfl,hN,g,F⟩ h1 hp K hK
    have e2:=F.2.2.1 (hp ⟨2,.data⟩ (by simp) rfl)
    have e4:=F.2.2.2.2.1 (hp ⟨4,.data⟩ (by simp) rfl)
    rw [floiT_eq]
    have g':=Lib.hid g
    have F':=Lib.hid F;clear F g
    have hN':=Lib.hid hN;clear hN;have hl':=Lib.hid hl;clear hl;have h1':=Lib.hid h1;clear h1;have hp':=Lib.hid hp;clear hp;have hK':=Lib.hid hK;clear hK
    go_simp
    go_at_call 131
    refine (FC.out W g'.out).mono ?_
    rintro e W1 ⟨rfl,hb⟩
    (try dsimp only)
    have hK:=hK'.out;have hN:=hN'.out;have hl:=hl'.out;have h1:=h1'.out
    obtain ⟨p0,p1,p2,p3,p4,p5,p6,p7,p8,p9,p10,p11,p14,qa0⟩:=F'.out
    have g:=g'.out
    refine hK _ _ ⟨by simpa using hl,(upd (upd (upd X 10 (grv b n c al ah)) 12 (grv d m e bl bh)) 13 (.int .i64 f)),rfl,Nat.le_trans hN hb.size,GI.out _ _ (hb.mono hN) g,p0.k,p1.k,PV.made rfl,p3.k,PV.made rfl,PV.made rfl,p6.k,p7.k,p8.k,p9.k,p10.k,p11.k,p14.k,qa0.keep (by decide) (by decide) (fun _ _ h=>owp_below h hb)⟩
  · rintro l A W ⟨hl,X,rfl,hN,g,F⟩ h1 hp K hK
    rw [floiT_eq]
    have g':=Lib.hid g
    have F':=Lib.hid F;clear F g
    have hN':=Lib.hid hN;clear hN;have hl':=Lib.hid hl;clear hl;have h1':=Lib.hid h1;clear h1;have hp':=Lib.hid hp;clear hp;have hK':=Lib.hid hK;clear hK
    go_simp
    have hK:=hK'.out;have hN:=hN'.out;have hl:=hl'.out;have h1:=h1'.out
    obtain ⟨p0,p1,p2,p3,p4,p5,p6,p7,p8,p9,p10,p11,p14,qa0⟩:=F'.out
    have g:=g'.out
    refine hK _ _ ⟨by simpa using hl,(upd X 14 (.pointer (some ⟨x,7,none⟩))),rfl,hN,g,p0.k,p1.k,p2.k,p3.k,p4.k,p5.k,PV.made rfl,p7.k,p8.k,p9.k,p10.k,p11.k,p14.k,qa0.keep (by decide) (by decide) (fun _ _ h=>h)⟩
  · rintro l A W ⟨hl,X,rfl,hN,g,F⟩ h1 hp K hK
    have e6:=F.2.2.2.2.2.2.1 (hp ⟨6,.data⟩ (by simp) rfl)
    obtain ⟨c0,c1,c2,c3,c4,c5,c6,v7,v8,d0,d1,d2,d3,d4,d5,d6⟩:=GC.out W g
    rw [floiT_eq]
    have g':=Lib.hid g
    have F':=Lib.hid F;clear F g
    have hN':=Lib.hid hN;clear hN;have hl':=Lib.hid hl;clear hl;have h1':=Lib.hid h1;clear h1;have hp':=Lib.hid hp;clear hp;have hK':=Lib.hid hK;clear hK
    go_simp
    have hK:=hK'.out;have hN:=hN'.out;have hl:=hl'.out;have h1:=h1'.out
    obtain ⟨p0,p1,p2,p3,p4,p5,p6,p7,p8,p9,p10,p11,p14,qa0⟩:=F'.out
    have g:=g'.out
    refine hK _ _ ⟨by simpa using hl,(upd (upd X 14 (.pointer (some ⟨x,7,none⟩))) 15 (.int .i64 sc)),rfl,hN,g,p0.k,p1.k,p2.k,p3.k,p4.k,p5.k,PV.made rfl,PV.made rfl,p8.k,p9.k,p10.k,p11.k,p14.k,qa0.keep (by decide) (by decide) (fun _ _ h=>h)⟩
  · rintro l A W ⟨hl,X,rfl,hN,g,F⟩ h1 hp K hK
    have e1:=F.2.1 (hp ⟨1,.data⟩ (by simp) rfl)
    have e5:=F.2.2.2.2.2.1 (hp ⟨5,.data⟩ (by simp) rfl)
    have e7:=F.2.2.2.2.2.2.2.1 (hp ⟨7,.data⟩ (by simp) rfl)
    rw [floiT_eq]
    have g':=Lib.hid g
    have F':=Lib.hid F;clear F g
    have hN':=Lib.hid hN;clear hN;have hl':=Lib.hid hl;clear hl;have h1':=Lib.hid h1;clear h1;have hp':=Lib.hid hp;clear hp;have hK':=Lib.hid hK;clear hK
    go_simp
    go_at_call 76
    refine (KC.out W).mono ?_
    rintro e W1 ⟨rfl,hb⟩
    (try dsimp only)
    have hK:=hK'.out;have hN:=hN'.out;have hl:=hl'.out;have h1:=h1'.out
    obtain ⟨p0,p1,p2,p3,p4,p5,p6,p7,p8,p9,p10,p11,p14,qa0⟩:=F'.out
    have g:=g'.out
    refine hK _ _ ⟨by simpa using hl,(upd (upd (upd (upd X 9 (.func (.func 76) #[] #[])) 13 (.int .i64 f)) 15 (.int .i64 sc)) 16 (spr r)),rfl,Nat.le_trans hN hb.size,GI.out _ _ (hb.mono hN) g,p0.k,PV.made rfl,p2.k,p3.k,p4.k,PV.made rfl,p6.k,PV.made rfl,PV.made rfl,p9.k,p10.k,p11.k,p14.k,qa0.keep (by decide) (by decide) (fun _ _ h=>owp_below h hb)⟩
  · rintro l A W ⟨hl,X,rfl,hN,g,F⟩ h1 hp K hK
    have e8:=F.2.2.2.2.2.2.2.2.1 (hp ⟨8,.data⟩ (by simp) rfl)
    rw [floiT_eq]
    have g':=Lib.hid g
    have F':=Lib.hid F;clear F g
    have hN':=Lib.hid hN;clear hN;have hl':=Lib.hid hl;clear hl;have h1':=Lib.hid h1;clear h1;have hp':=Lib.hid hp;clear hp;have hK':=Lib.hid hK;clear hK
    go_simp
    have hK:=hK'.out;have hN:=hN'.out;have hl:=hl'.out;have h1:=h1'.out
    obtain ⟨p0,p1,p2,p3,p4,p5,p6,p7,p8,p9,p10,p11,p14,qa0⟩:=F'.out
    have g:=g'.out
    refine hK _ _ ⟨by simpa using hl,(upd (upd X 16 (spr r)) 7 (spr r)),rfl,hN,g,p0.k,p1.k,p2.k,p3.k,p4.k,p5.k,p6.k,p7.k,PV.made rfl,PV.made rfl,p10.k,p11.k,p14.k,qa0.keep (by decide) (by decide) (fun _ _ h=>h)⟩
  · rintro l A W ⟨hl,X,rfl,hN,g,F⟩ h1 hp K hK
    have e9:=F.2.2.2.2.2.2.2.2.2.1 (hp ⟨9,.data⟩ (by simp) rfl)
    rw [floiT_eq]
    have g':=Lib.hid g
    have F':=Lib.hid F;clear F g
    have hN':=Lib.hid hN;clear hN;have hl':=Lib.hid hl;clear hl;have h1':=Lib.hid h1;clear h1;have hp':=Lib.hid hp;clear hp;have hK':=Lib.hid hK;clear hK
    go_simp
    have hK:=hK'.out;have hN:=hN'.out;have hl:=hl'.out;have h1:=h1'.out
    obtain ⟨p0,p1,p2,p3,p4,p5,p6,p7,p8,p9,p10,p11,p14,qa0⟩:=F'.out
    have g:=g'.out
    refine hK _ _ ⟨by simpa using hl,(upd (upd X 7 (spr r)) 17 (.agg #[.int .i64 r.1.1,.int .i64 r.1.2])),rfl,hN,g,p0.k,p1.k,p2.k,p3.k,p4.k,p5.k,p6.k,p7.k,p8.k,PV.made rfl,PV.made rfl,p11.k,p14.k,qa0.keep (by decide) (by decide) (fun _ _ h=>h)⟩
  · rintro l A W ⟨hl,X,rfl,hN,g,F⟩ h1 hp K hK
    have e9:=F.2.2.2.2.2.2.2.2.2.1 (hp ⟨9,.data⟩ (by simp) rfl)
    rw [floiT_eq]
    have g':=Lib.hid g
    have F':=Lib.hid F;clear F g
    have hN':=Lib.hid hN;clear hN;have hl':=Lib.hid hl;clear hl;have h1':=Lib.hid h1;clear h1;have hp':=Lib.hid hp;clear hp;have hK':=Lib.hid hK;clear hK
    go_simp
    have hK:=hK'.out;have hN:=hN'.out;have hl:=hl'.out;have h1:=h1'.out
    obtain ⟨p0,p1,p2,p3,p4,p5,p6,p7,p8,p9,p10,p11,p14,qa0⟩:=F'.out
    have g:=g'.out
    refine hK _ _ ⟨by simpa using hl,(upd (upd X 7 (spr r)) 18 (.int .i64 r.2)),rfl,hN,g,p0.k,p1.k,p2.k,p3.k,p4.k,p5.k,p6.k,p7.k,p8.k,PV.made rfl,p10.k,PV.made rfl,p14.k,qa0.keep (by decide) (by decide) (fun _ _ h=>h)⟩
  · rintro l A W ⟨hl,X,rfl,hN,g,F⟩ h1 hp K hK
    rw [floiT_eq]
    have g':=Lib.hid g
    have F':=Lib.hid F;clear F g
    have hN':=Lib.hid hN;clear hN;have hl':=Lib.hid hl;clear hl;have h1':=Lib.hid h1;clear h1;have hp':=Lib.hid hp;clear hp;have hK':=Lib.hid hK;clear hK
    go_simp
    have hK:=hK'.out;have hN:=hN'.out;have hl:=hl'.out;have h1:=h1'.out
    obtain ⟨p0,p1,p2,p3,p4,p5,p6,p7,p8,p9,p10,p11,p14,qa0⟩:=F'.out
    have g:=g'.out
    refine hK _ _ ⟨by simpa using hl,(upd X 5 (.pointer (some ⟨W.heap.size,0,none⟩))),rfl,(by simp;omega),GI.out _ _ (((Below.refl _ W).alloc (Nat.le_refl _) _).mono hN) g,p0.k,p1.k,p2.k,p3.k,p4.k,p5.k,p6.k,p7.k,p8.k,p9.k,p10.k,p11.k,p14.k,qa0.made (by decide) (by rw [hl];decide) h1 hN (owp_new W (0,0) _)⟩
  · rintro l A W ⟨hl,X,rfl,hN,g,F⟩ h1 hp K hK
    have la:=hp ⟨12,.data⟩ (by simp) rfl
    have e10:=F.2.2.2.2.2.2.2.2.2.2.1 (hp ⟨10,.data⟩ (by simp) rfl)
    obtain ⟨b',v',e2,hb',ow,_⟩:=F.2.2.2.2.2.2.2.2.2.2.2.2.2.2 la
    obtain ⟨o0,o1,o2,o3,o4⟩:=id ow
    rw [floiT_eq]
    have g':=Lib.hid g
    have F':=Lib.hid F;clear F g
    have hN':=Lib.hid hN;clear hN;have hl':=Lib.hid hl;clear hl;have h1':=Lib.hid h1;clear h1;have hp':=Lib.hid hp;clear hp;have hK':=Lib.hid hK;clear hK
    have la':=Lib.hid la;clear la;have hb'':=Lib.hid hb';clear hb';have ow':=Lib.hid ow;clear ow
    go_simp
    have hK:=hK'.out;have hN:=hN'.out;have hl:=hl'.out;have h1:=h1'.out
    obtain ⟨p0,p1,p2,p3,p4,p5,p6,p7,p8,p9,p10,p11,p14,qa0⟩:=F'.out
    have g:=g'.out
    have la:=la'.out;have hb':=hb''.out;have ow:=ow'.out
    refine hK _ _ ⟨by simpa using hl,(upd (upd X 17 (.agg #[.int .i64 r.1.1,.int .i64 r.1.2])) 5 (.pointer (some ⟨b',0,none⟩))),rfl,(by simpa using hN),GI.out _ _ (below_set2 _ _ hb') g,p0.k,p1.k,p2.k,p3.k,p4.k,p5.k,p6.k,p7.k,p8.k,p9.k,PV.made rfl,p11.k,p14.k,QX.put (by decide) la rfl hb' (owp_put ow r.1)⟩
  · rintro l A W ⟨hl,X,rfl,hN,g,F⟩ h1 hp K hK
    have e11:=F.2.2.2.2.2.2.2.2.2.2.2.1 (hp ⟨11,.data⟩ (by simp) rfl)
    rw [floiT_eq]
    have g':=Lib.hid g
    have F':=Lib.hid F;clear F g
    have hN':=Lib.hid hN;clear hN;have hl':=Lib.hid hl;clear hl;have h1':=Lib.hid h1;clear h1;have hp':=Lib.hid hp;clear hp;have hK':=Lib.hid hK;clear hK
    go_simp
    have hK:=hK'.out;have hN:=hN'.out;have hl:=hl'.out;have h1:=h1'.out
    obtain ⟨p0,p1,p2,p3,p4,p5,p6,p7,p8,p9,p10,p11,p14,qa0⟩:=F'.out
    have g:=g'.out
    refine hK _ _ ⟨by simpa using hl,(upd (upd X 18 (.int .i64 r.2)) 6 (.int .i64 r.2)),rfl,hN,g,p0.k,p1.k,p2.k,p3.k,p4.k,p5.k,p6.k,p7.k,p8.k,p9.k,p10.k,PV.made rfl,PV.made rfl,qa0.keep (by decide) (by decide) (fun _ _ h=>h)⟩
set_option maxRecDepth 100000 in
set_option maxHeartbeats 4000000 in
theorem floi_reg (G:World→Prop) (N:Nat) (x y b n c d m e:Nat) (al ah bl bh:P3) (sc f:Int) (r:Sp.R) {y0 y1 y19 y20 x5 x6 x7 x8 x9 x10 x11 x12 x13 x14 x15 x16 x17 x18:Value} {W:World} {Q:Exit→Act→World→Prop} (GC:Hid (∀ W:World,G W→W.cell? ⟨x,0,none⟩=some (.slice (some ⟨d,0,none⟩) m e)∧W.cell? ⟨x,1,none⟩=some (.int .i64 bl.1)∧W.cell? ⟨x,2,none⟩=some (.int .i64 bl.2.1)∧W.cell? ⟨x,3,none⟩=some (.int .i64 bl.2.2)∧W.cell? ⟨x,4,none⟩=some (.int .i64 bh.1)∧W.cell? ⟨x,5,none⟩=some (.int .i64 bh.2.1)∧W.cell? ⟨x,6,none⟩=some (.int .i64 bh.2.2)∧W.cell? ⟨x,7,none⟩=some (.int .i64 sc)∧W.cell? ⟨x,8,none⟩=some (.func (.func 76) #[] #[])∧W.cell? ⟨y,0,none⟩=some (.slice (some ⟨b,0,none⟩) n c)∧W.cell? ⟨y,1,none⟩=some (.int .i64 al.1)∧W.cell? ⟨y,2,none⟩=some (.int .i64 al.2.1)∧W.cell? ⟨y,3,none⟩=some (.int .i64 al.2.2)∧W.cell? ⟨y,4,none⟩=some (.int .i64 ah.1)∧W.cell? ⟨y,5,none⟩=some (.int .i64 ah.2.1)∧W.cell? ⟨y,6,none⟩=some (.int .i64 ah.2.2))) (FC:Hid (∀ W,G W→Calls Tryz.prog 131 #[grv b n c al ah,grv d m e bl bh] W fun e w'=>e=.returned (.int .i64 f)∧Below W.heap.size W w')) (KC:Hid (∀ W,Calls Tryz.prog 76 #[.int .i64 f,.int .i64 sc] W fun e w'=>e=.returned (spr r)∧Below W.heap.size W w')) (GI:Hid (∀ W W':World,Below N W W'→G W→G W')) (hN:N≤W.heap.size) (g0:G W.drew)
    (hK:∀ (x6 x7 x8 x9 x10 x11 x12 x13 x14 x15 x16 x17 x18:Value) (b0:Nat) (W':World),N≤W'.heap.size→G W'→N≤b0→OwP W' b0 (r.1)→Q .normal { tmps:=#[y0,y1,.pointer (some ⟨x,0,none⟩),.pointer (some ⟨y,0,none⟩),.int .i64 0,.pointer (some ⟨b0,0,none⟩),x6,x7,x8,x9,x10,x11,x12,x13,x14,x15,x16,x17,x18,y19,y20],defers:=[] } W') :
    Code.wp Tryz.prog (.region 1 floiOps true) Q { tmps:=#[y0,y1,.pointer (some ⟨x,0,none⟩),.pointer (some ⟨y,0,none⟩),.int .i64 0,x5,x6,x7,x8,x9,x10,x11,x12,x13,x14,x15,x16,x17,x18,y19,y20],defers:=[] } W:=by
  refine wp_region_inv (floiI G N x y b n c d m e al ah bl bh sc f r y0 y1 y19 y20) (by kernel_rfl) ?_ (floi_steps G N x y b n c d m e al ah bl bh sc f r y0 y1 y19 y20 Q GC FC KC GI) ?_
  · exact ⟨by simp [floiOps],fun i=>(#[undef,undef,undef,undef,undef,x5,x6,x7,x8,x9,x10,x11,x12,x13,x14,x15,x16,x17,x18,undef,undef]:Array Value).getD i undef,rfl,hN,g0,PV.nought,PV.nought,PV.nought,PV.nought,PV.nought,PV.nought,PV.nought,PV.nought,PV.nought,PV.nought,PV.nought,PV.nought,PV.nought,QX.nought⟩
  · rintro l A W ⟨hl,X,rfl,hN,g,p0,p1,p2,p3,p4,p5,p6,p7,p8,p9,p10,p11,p14,qa0⟩ hr
    unfold floiOps at hr
    have l0:=ready_end hr 0 (by rw [hl];decide) rfl (fun e he hbn=>by
      simp at he
      (try (repeat (rcases he with rfl | he;· first | assumption | exact absurd hbn (by decide))))
      (try (first | exact he.elim | (subst he;first | assumption | exact absurd hbn (by decide)))))
    have l1:=ready_end hr 1 (by rw [hl];decide) rfl (fun e he hbn=>by
      simp at he
      (try (repeat (rcases he with rfl | he;· first | assumption | exact absurd hbn (by decide))))
      (try (first | exact he.elim | (subst he;first | assumption | exact absurd hbn (by decide)))))
    have l2:=ready_end hr 2 (by rw [hl];decide) rfl (fun e he hbn=>by
      simp at he
      (try (repeat (rcases he with rfl | he;· first | assumption | exact absurd hbn (by decide))))
      (try (first | exact he.elim | (subst he;first | assumption | exact absurd hbn (by decide)))))
    have l3:=ready_end hr 3 (by rw [hl];decide) rfl (fun e he hbn=>by
      simp at he
      (try (repeat (rcases he with rfl | he;· first | assumption | exact absurd hbn (by decide))))
      (try (first | exact he.elim | (subst he;first | assumption | exact absurd hbn (by decide)))))
    have l4:=ready_end hr 4 (by rw [hl];decide) rfl (fun e he hbn=>by
      simp at he
      (try (repeat (rcases he with rfl | he;· first | assumption | exact absurd hbn (by decide))))
      (try (first | exact he.elim | (subst he;first | assumption | exact absurd hbn (by decide)))))
    have l5:=ready_end hr 5 (by rw [hl];decide) rfl (fun e he hbn=>by
      simp at he
      (try (repeat (rcases he with rfl | he;· first | assumption | exact absurd hbn (by decide))))
      (try (first | exact he.elim | (subst he;first | assumption | exact absurd hbn (by decide)))))
    have l6:=ready_end hr 6 (by rw [hl];decide) rfl (fun e he hbn=>by
      simp at he
      (try (repeat (rcases he with rfl | he;· first | assumption | exact absurd hbn (by decide))))
      (try (first | exact he.elim | (subst he;first | assumption | exact absurd hbn (by decide)))))
    have l7:=ready_end hr 7 (by rw [hl];decide) rfl (fun e he hbn=>by
      simp at he
      (try (repeat (rcases he with rfl | he;· first | assumption | exact absurd hbn (by decide))))
      (try (first | exact he.elim | (subst he;first | assumption | exact absurd hbn (by decide)))))
    have l8:=ready_end hr 8 (by rw [hl];decide) rfl (fun e he hbn=>by
      simp at he
      (try (repeat (rcases he with rfl | he;· first | assumption | exact absurd hbn (by decide))))
      (try (first | exact he.elim | (subst he;first | assumption | exact absurd hbn (by decide)))))
    have l9:=ready_end hr 9 (by rw [hl];decide) rfl (fun e he hbn=>by
      simp at he
      (try (repeat (rcases he with rfl | he;· first | assumption | exact absurd hbn (by decide))))
      (try (first | exact he.elim | (subst he;first | assumption | exact absurd hbn (by decide)))))
    have l10:=ready_end hr 10 (by rw [hl];decide) rfl (fun e he hbn=>by
      simp at he
      (try (repeat (rcases he with rfl | he;· first | assumption | exact absurd hbn (by decide))))
      (try (first | exact he.elim | (subst he;first | assumption | exact absurd hbn (by decide)))))
    have l11:=ready_end hr 11 (by rw [hl];decide) rfl (fun e he hbn=>by
      simp at he
      (try (repeat (rcases he with rfl | he;· first | assumption | exact absurd hbn (by decide))))
      (try (first | exact he.elim | (subst he;first | assumption | exact absurd hbn (by decide)))))
    have l12:=ready_end hr 12 (by rw [hl];decide) rfl (fun e he hbn=>by
      simp at he
      (try (repeat (rcases he with rfl | he;· first | assumption | exact absurd hbn (by decide))))
      (try (first | exact he.elim | (subst he;first | assumption | exact absurd hbn (by decide)))))
    have l13:=ready_end hr 13 (by rw [hl];decide) rfl (fun e he hbn=>by
      simp at he
      (try (repeat (rcases he with rfl | he;· first | assumption | exact absurd hbn (by decide))))
      (try (first | exact he.elim | (subst he;first | assumption | exact absurd hbn (by decide)))))
    have l14:=ready_end hr 14 (by rw [hl];decide) rfl (fun e he hbn=>by
      simp at he
      (try (repeat (rcases he with rfl | he;· first | assumption | exact absurd hbn (by decide))))
      (try (first | exact he.elim | (subst he;first | assumption | exact absurd hbn (by decide)))))
    obtain ⟨b0,v0,e0x,n0,o0,t0⟩:=qa0.2 l12
    obtain rfl:=t0 l13
    have z:=hK (X 6) (X 7) (X 8) (X 9) (X 10) (X 11) (X 12) (X 13) (X 14) (X 15) (X 16) (X 17) (X 18) b0 W hN g n0 o0
    rw [← e0x] at z
    exact z
def fhiiOps : Array Oper := #[{ dst := some 8, op := Op.fieldAddr 147 (Operand.tmp 2) 2, type := 0, pos := "view.go:32", after := #[], guard := none }, { dst := some 9, op := Op.load 139 (Operand.tmp 8), type := 139, pos := "view.go:32", after := #[{ on := 0, ground := Ground.data }], guard := none }, { dst := some 10, op := Op.load 143 (Operand.tmp 3), type := 143, pos := "view.go:32", after := #[], guard := none }, { dst := some 11, op := Op.fieldAddr 147 (Operand.tmp 2) 0, type := 0, pos := "view.go:32", after := #[], guard := none }, { dst := some 12, op := Op.load 143 (Operand.tmp 11), type := 143, pos := "view.go:32", after := #[{ on := 3, ground := Ground.data }], guard := none }, { dst := some 13, op := Op.call { callee := Callee.value (Operand.func 129), args := #[Operand.tmp 10, Operand.tmp 12], argTypes := #[143, 143] }, type := 3, pos := "view.go:32", after := #[{ on := 2, ground := Ground.data }, { on := 4, ground := Ground.data }], guard := none }, { dst := some 14, op := Op.fieldAddr 147 (Operand.tmp 2) 1, type := 0, pos := "view.go:32", after := #[], guard := none }, { dst := some 15, op := Op.load 3 (Operand.tmp 14), type := 3, pos := "view.go:32", after := #[{ on := 6, ground := Ground.data }], guard := none }, { dst := some 16, op := Op.call { callee := Callee.value (Operand.tmp 9), args := #[Operand.tmp 13, Operand.tmp 15], argTypes := #[3, 3] }, type := 35, pos := "view.go:32", after := #[{ on := 1, ground := Ground.data }, { on := 5, ground := Ground.data }, { on := 7, ground := Ground.data }, { on := 5, ground := Ground.chain }], guard := none }, { dst := some 7, op := Op.move (Operand.tmp 16), type := 35, pos := "view.go:32", after := #[{ on := 8, ground := Ground.data }], guard := none }, { dst := some 17, op := Op.extract (Operand.tmp 7) 0, type := 34, pos := "view.go:32", after := #[{ on := 9, ground := Ground.data }], guard := none }, { dst := some 18, op := Op.extract (Operand.tmp 7) 1, type := 27, pos := "view.go:32", after := #[{ on := 9, ground := Ground.data }, { on := 13, ground := Ground.gcOnly Departure.lateStores }], guard := none }, { dst := some 5, op := Op.alloc 34, type := 0, pos := "view.go:32", after := #[], guard := none }, { dst := none, op := Op.store 34 (Operand.tmp 5) (Operand.tmp 17), type := 0, pos := "view.go:32", after := #[{ on := 12, ground := Ground.data }, { on := 10, ground := Ground.data }, { on := 8, ground := Ground.chain }, { on := 0, ground := Ground.phase }, { on := 1, ground := Ground.phase }, { on := 2, ground := Ground.phase }, { on := 3, ground := Ground.phase }, { on := 4, ground := Ground.phase }, { on := 5, ground := Ground.phase }, { on := 6, ground := Ground.phase }, { on := 7, ground := Ground.phase }, { on := 8, ground := Ground.phase }, { on := 9, ground := Ground.phase }, { on := 10, ground := Ground.phase }, { on := 11, ground := Ground.textOnly Departure.lateStores }, { on := 12, ground := Ground.phase }], guard := none }, { dst := some 6, op := Op.assign (Operand.tmp 18), type := 27, pos := "view.go:32", after := #[{ on := 11, ground := Ground.data }, { on := 13, ground := Ground.chain }, { on := 0, ground := Ground.phase }, { on := 1, ground := Ground.phase }, { on := 2, ground := Ground.phase }, { on := 3, ground := Ground.phase }, { on := 4, ground := Ground.phase }, { on := 5, ground := Ground.phase }, { on := 6, ground := Ground.phase }, { on := 7, ground := Ground.phase }, { on := 8, ground := Ground.phase }, { on := 9, ground := Ground.phase }, { on := 10, ground := Ground.phase }, { on := 11, ground := Ground.phase }, { on := 12, ground := Ground.phase }, { on := 13, ground := Ground.phase }], guard := none }]
def fhiiT (x:Nat) (y:Nat) (y0 y1 y19 y20:Value) (X:Nat→Value):Array Value:=#[y0,y1,.pointer (some ⟨x,0,none⟩),.pointer (some ⟨y,0,none⟩),.int .i64 0,X 5,X 6,X 7,X 8,X 9,X 10,X 11,X 12,X 13,X 14,X 15,X 16,X 17,X 18,y19,y20]
theorem fhiiT_eq (x:Nat) (y:Nat) (y0 y1 y19 y20:Value) (X:Nat→Value):fhiiT x y y0 y1 y19 y20 X=#[y0,y1,.pointer (some ⟨x,0,none⟩),.pointer (some ⟨y,0,none⟩),.int .i64 0,X 5,X 6,X 7,X 8,X 9,X 10,X 11,X 12,X 13,X 14,X 15,X 16,X 17,X 18,y19,y20]:=rfl
def fhiiI (G:World→Prop) (N:Nat) (x y b n c d m e:Nat) (al ah bl bh:P3) (sc f:Int) (r:Sp.R) (y0 y1 y19 y20:Value) (l:Array Bool) (A:Act) (W:World):Prop :=
  l.size=15∧∃ X:Nat→Value,A={ tmps:=fhiiT x y y0 y1 y19 y20 X,defers:=[] }∧N≤W.heap.size∧G W∧PV l 0 (X 8) (.pointer (some ⟨x,8,none⟩))∧PV l 1 (X 9) (.func (.func 76) #[] #[])∧PV l 2 (X 10) (grv b n c al ah)∧PV l 3 (X 11) (.pointer (some ⟨x,0,none⟩))∧PV l 4 (X 12) (grv d m e bl bh)∧PV l 5 (X 13) (.int .i64 f)∧PV l 6 (X 14) (.pointer (some ⟨x,7,none⟩))∧PV l 7 (X 15) (.int .i64 sc)∧PV l 8 (X 16) (spr r)∧PV l 9 (X 7) (spr r)∧PV l 10 (X 17) (.agg #[.int .i64 r.1.1,.int .i64 r.1.2])∧PV l 11 (X 18) (.int .i64 r.2)∧PV l 14 (X 6) (.int .i64 r.2)∧QX OwP l W (X 5) 12 13 N (r.1)
set_option maxRecDepth 100000 in
set_option maxHeartbeats 4000000 in
theorem fhii_steps (G:World→Prop) (N:Nat) (x y b n c d m e:Nat) (al ah bl bh:P3) (sc f:Int) (r:Sp.R) (y0 y1 y19 y20:Value) (Q:Exit→Act→World→Prop) (GC:Hid (∀ W:World,G W→W.cell? ⟨x,0,none⟩=some (.slice (some ⟨d,0,none⟩) m e)∧W.cell? ⟨x,1,none⟩=some (.int .i64 bl.1)∧W.cell? ⟨x,2,none⟩=some (.int .i64 bl.2.1)∧W.cell? ⟨x,3,none⟩=some (.int .i64 bl.2.2)∧W.cell? ⟨x,4,none⟩=some (.int .i64 bh.1)∧W.cell? ⟨x,5,none⟩=some (.int .i64 bh.2.1)∧W.cell? ⟨x,6,none⟩=some (.int .i64 bh.2.2)∧W.cell? ⟨x,7,none⟩=some (.int .i64 sc)∧W.cell? ⟨x,8,none⟩=some (.func (.func 76) #[] #[])∧W.cell? ⟨y,0,none⟩=some (.slice (some ⟨b,0,none⟩) n c)∧W.cell? ⟨y,1,none⟩=some (.int .i64 al.1)∧W.cell? ⟨y,2,none⟩=some (.int .i64 al.2.1)∧W.cell? ⟨y,3,none⟩=some (.int .i64 al.2.2)∧W.cell? ⟨y,4,none⟩=some (.int .i64 ah.1)∧W.cell? ⟨y,5,none⟩=some (.int .i64 ah.2.1)∧W.cell? ⟨y,6,none⟩=some (.int .i64 ah.2.2))) (FC:Hid (∀ W,G W→Calls Tryz.prog 129 #[grv b n c al ah,grv d m e bl bh] W fun e w'=>e=.returned (.int .i64 f)∧Below W.heap.size W w')) (KC:Hid (∀ W,Calls Tryz.prog 76 #[.int .i64 f,.int .i64 sc] W fun e w'=>e=.returned (spr r)∧Below W.heap.size W w')) (GI:Hid (∀ W W':World,Below N W W'→G W→G W')) :
    allOps (fun i o=>∀ (l:Array Bool) (A:Act) (W:World),fhiiI G N x y b n c d m e al ah bl bh sc f r y0 y1 y19 y20 l A W→l.getD i true=false→(∀ e ∈ o.after,Region.binds .any e=true→l.getD e.on false=true)→∀ K':Act→World→Prop,(∀ A' W',fhiiI G N x y b n c d m e al ah bl bh sc f r y0 y1 y19 y20 (l.setIfInBounds i true) A' W'→K' A' W')→if Region.wanted o (yielded fhiiOps A.tmps)=true then Oper.wp Tryz.prog o A W K' Q else K' (A.put o.dst undef) W) 0 fhiiOps.toList:=by
  simp only [fhiiOps,allOps]
  refine ⟨?_,?_,?_,?_,?_,?_,?_,?_,?_,?_,?_,?_,?_,?_,?_,trivial⟩
  · rintro l A W ⟨hl,X,rfl,hN,g,F⟩ h1 hp K hK
    rw [fhiiT_eq]
    have g':=Lib.hid g
    have F':=Lib.hid F;clear F g
    have hN':=Lib.hid hN;clear hN;have hl':=Lib.hid hl;clear hl;have h1':=Lib.hid h1;clear h1;have hp':=Lib.hid hp;clear hp;have hK':=Lib.hid hK;clear hK
    go_simp
    have hK:=hK'.out;have hN:=hN'.out;have hl:=hl'.out;have h1:=h1'.out
    obtain ⟨p0,p1,p2,p3,p4,p5,p6,p7,p8,p9,p10,p11,p14,qa0⟩:=F'.out
    have g:=g'.out
    refine hK _ _ ⟨by simpa using hl,(upd X 8 (.pointer (some ⟨x,8,none⟩))),rfl,hN,g,PV.made rfl,p1.k,p2.k,p3.k,p4.k,p5.k,p6.k,p7.k,p8.k,p9.k,p10.k,p11.k,p14.k,qa0.keep (by decide) (by decide) (fun _ _ h=>h)⟩
  · rintro l A W ⟨hl,X,rfl,hN,g,F⟩ h1 hp K hK
    have e0:=F.1 (hp ⟨0,.data⟩ (by simp) rfl)
    obtain ⟨c0,c1,c2,c3,c4,c5,c6,v7,v8,d0,d1,d2,d3,d4,d5,d6⟩:=GC.out W g
    rw [fhiiT_eq]
    have g':=Lib.hid g
    have F':=Lib.hid F;clear F g
    have hN':=Lib.hid hN;clear hN;have hl':=Lib.hid hl;clear hl;have h1':=Lib.hid h1;clear h1;have hp':=Lib.hid hp;clear hp;have hK':=Lib.hid hK;clear hK
    go_simp
    have hK:=hK'.out;have hN:=hN'.out;have hl:=hl'.out;have h1:=h1'.out
    obtain ⟨p0,p1,p2,p3,p4,p5,p6,p7,p8,p9,p10,p11,p14,qa0⟩:=F'.out
    have g:=g'.out
    refine hK _ _ ⟨by simpa using hl,(upd (upd X 8 (.pointer (some ⟨x,8,none⟩))) 9 (.func (.func 76) #[] #[])),rfl,hN,g,PV.made rfl,PV.made rfl,p2.k,p3.k,p4.k,p5.k,p6.k,p7.k,p8.k,p9.k,p10.k,p11.k,p14.k,qa0.keep (by decide) (by decide) (fun _ _ h=>h)⟩
  · rintro l A W ⟨hl,X,rfl,hN,g,F⟩ h1 hp K hK
    obtain ⟨c0,c1,c2,c3,c4,c5,c6,v7,v8,d0,d1,d2,d3,d4,d5,d6⟩:=GC.out W g
    rw [fhiiT_eq]
    have g':=Lib.hid g
    have F':=Lib.hid F;clear F g
    have hN':=Lib.hid hN;clear hN;have hl':=Lib.hid hl;clear hl;have h1':=Lib.hid h1;clear h1;have hp':=Lib.hid hp;clear hp;have hK':=Lib.hid hK;clear hK
    go_simp
    have hK:=hK'.out;have hN:=hN'.out;have hl:=hl'.out;have h1:=h1'.out
    obtain ⟨p0,p1,p2,p3,p4,p5,p6,p7,p8,p9,p10,p11,p14,qa0⟩:=F'.out
    have g:=g'.out
    refine hK _ _ ⟨by simpa using hl,(upd X 10 (grv b n c al ah)),rfl,hN,g,p0.k,p1.k,PV.made rfl,p3.k,p4.k,p5.k,p6.k,p7.k,p8.k,p9.k,p10.k,p11.k,p14.k,qa0.keep (by decide) (by decide) (fun _ _ h=>h)⟩
  · rintro l A W ⟨hl,X,rfl,hN,g,F⟩ h1 hp K hK
    rw [fhiiT_eq]
    have g':=Lib.hid g
    have F':=Lib.hid F;clear F g
    have hN':=Lib.hid hN;clear hN;have hl':=Lib.hid hl;clear hl;have h1':=Lib.hid h1;clear h1;have hp':=Lib.hid hp;clear hp;have hK':=Lib.hid hK;clear hK
    go_simp
    have hK:=hK'.out;have hN:=hN'.out;have hl:=hl'.out;have h1:=h1'.out
    obtain ⟨p0,p1,p2,p3,p4,p5,p6,p7,p8,p9,p10,p11,p14,qa0⟩:=F'.out
    have g:=g'.out
    refine hK _ _ ⟨by simpa using hl,(upd X 11 (.pointer (some ⟨x,0,none⟩))),rfl,hN,g,p0.k,p1.k,p2.k,PV.made rfl,p4.k,p5.k,p6.k,p7.k,p8.k,p9.k,p10.k,p11.k,p14.k,qa0.keep (by decide) (by decide) (fun _ _ h=>h)⟩
  · rintro l A W ⟨hl,X,rfl,hN,g,F⟩ h1 hp K hK
    have e3:=F.2.2.2.1 (hp ⟨3,.data⟩ (by simp) rfl)
    obtain ⟨c0,c1,c2,c3,c4,c5,c6,v7,v8,d0,d1,d2,d3,d4,d5,d6⟩:=GC.out W g
    rw [fhiiT_eq]
    have g':=Lib.hid g
    have F':=Lib.hid F;clear F g
    have hN':=Lib.hid hN;clear hN;have hl':=Lib.hid hl;clear hl;have h1':=Lib.hid h1;clear h1;have hp':=Lib.hid hp;clear hp;have hK':=Lib.hid hK;clear hK
    go_simp
    have hK:=hK'.out;have hN:=hN'.out;have hl:=hl'.out;have h1:=h1'.out
    obtain ⟨p0,p1,p2,p3,p4,p5,p6,p7,p8,p9,p10,p11,p14,qa0⟩:=F'.out
    have g:=g'.out
    refine hK _ _ ⟨by simpa using hl,(upd (upd X 11 (.pointer (some ⟨x,0,none⟩))) 12 (grv d m e bl bh)),rfl,hN,g,p0.k,p1.k,p2.k,PV.made rfl,PV.made rfl,p5.k,p6.k,p7.k,p8.k,p9.k,p10.k,p11.k,p14.k,qa0.keep (by decide) (by decide) (fun _ _ h=>h)⟩
  · rintro l A W ⟨hl,X,rfl,hN,g,F⟩ h1 hp K hK
    have e2:=F.2.2.1 (hp ⟨2,.data⟩ (by simp) rfl)
    have e4:=F.2.2.2.2.1 (hp ⟨4,.data⟩ (by simp) rfl)
    rw [fhiiT_eq]
    have g':=Lib.hid g
    have F':=Lib.hid F;clear F g
    have hN':=Lib.hid hN;clear hN;have hl':=Lib.hid hl;clear hl;have h1':=Lib.hid h1;clear h1;have hp':=Lib.hid hp;clear hp;have hK':=Lib.hid hK;clear hK
    go_simp
    go_at_call 129
    refine (FC.out W g'.out).mono ?_
    rintro e W1 ⟨rfl,hb⟩
    (try dsimp only)
    have hK:=hK'.out;have hN:=hN'.out;have hl:=hl'.out;have h1:=h1'.out
    obtain ⟨p0,p1,p2,p3,p4,p5,p6,p7,p8,p9,p10,p11,p14,qa0⟩:=F'.out
    have g:=g'.out
    refine hK _ _ ⟨by simpa using hl,(upd (upd (upd X 10 (grv b n c al ah)) 12 (grv d m e bl bh)) 13 (.int .i64 f)),rfl,Nat.le_trans hN hb.size,GI.out _ _ (hb.mono hN) g,p0.k,p1.k,PV.made rfl,p3.k,PV.made rfl,PV.made rfl,p6.k,p7.k,p8.k,p9.k,p10.k,p11.k,p14.k,qa0.keep (by decide) (by decide) (fun _ _ h=>owp_below h hb)⟩
  · rintro l A W ⟨hl,X,rfl,hN,g,F⟩ h1 hp K hK
    rw [fhiiT_eq]
    have g':=Lib.hid g
    have F':=Lib.hid F;clear F g
    have hN':=Lib.hid hN;clear hN;have hl':=Lib.hid hl;clear hl;have h1':=Lib.hid h1;clear h1;have hp':=Lib.hid hp;clear hp;have hK':=Lib.hid hK;clear hK
    go_simp
    have hK:=hK'.out;have hN:=hN'.out;have hl:=hl'.out;have h1:=h1'.out
    obtain ⟨p0,p1,p2,p3,p4,p5,p6,p7,p8,p9,p10,p11,p14,qa0⟩:=F'.out
    have g:=g'.out
    refine hK _ _ ⟨by simpa using hl,(upd X 14 (.pointer (some ⟨x,7,none⟩))),rfl,hN,g,p0.k,p1.k,p2.k,p3.k,p4.k,p5.k,PV.made rfl,p7.k,p8.k,p9.k,p10.k,p11.k,p14.k,qa0.keep (by decide) (by decide) (fun _ _ h=>h)⟩
  · rintro l A W ⟨hl,X,rfl,hN,g,F⟩ h1 hp K hK
    have e6:=F.2.2.2.2.2.2.1 (hp ⟨6,.data⟩ (by simp) rfl)
    obtain ⟨c0,c1,c2,c3,c4,c5,c6,v7,v8,d0,d1,d2,d3,d4,d5,d6⟩:=GC.out W g
    rw [fhiiT_eq]
    have g':=Lib.hid g
    have F':=Lib.hid F;clear F g
    have hN':=Lib.hid hN;clear hN;have hl':=Lib.hid hl;clear hl;have h1':=Lib.hid h1;clear h1;have hp':=Lib.hid hp;clear hp;have hK':=Lib.hid hK;clear hK
    go_simp
    have hK:=hK'.out;have hN:=hN'.out;have hl:=hl'.out;have h1:=h1'.out
    obtain ⟨p0,p1,p2,p3,p4,p5,p6,p7,p8,p9,p10,p11,p14,qa0⟩:=F'.out
    have g:=g'.out
    refine hK _ _ ⟨by simpa using hl,(upd (upd X 14 (.pointer (some ⟨x,7,none⟩))) 15 (.int .i64 sc)),rfl,hN,g,p0.k,p1.k,p2.k,p3.k,p4.k,p5.k,PV.made rfl,PV.made rfl,p8.k,p9.k,p10.k,p11.k,p14.k,qa0.keep (by decide) (by decide) (fun _ _ h=>h)⟩
  · rintro l A W ⟨hl,X,rfl,hN,g,F⟩ h1 hp K hK
    have e1:=F.2.1 (hp ⟨1,.data⟩ (by simp) rfl)
    have e5:=F.2.2.2.2.2.1 (hp ⟨5,.data⟩ (by simp) rfl)
    have e7:=F.2.2.2.2.2.2.2.1 (hp ⟨7,.data⟩ (by simp) rfl)
    rw [fhiiT_eq]
    have g':=Lib.hid g
    have F':=Lib.hid F;clear F g
    have hN':=Lib.hid hN;clear hN;have hl':=Lib.hid hl;clear hl;have h1':=Lib.hid h1;clear h1;have hp':=Lib.hid hp;clear hp;have hK':=Lib.hid hK;clear hK
    go_simp
    go_at_call 76
    refine (KC.out W).mono ?_
    rintro e W1 ⟨rfl,hb⟩
    (try dsimp only)
    have hK:=hK'.out;have hN:=hN'.out;have hl:=hl'.out;have h1:=h1'.out
    obtain ⟨p0,p1,p2,p3,p4,p5,p6,p7,p8,p9,p10,p11,p14,qa0⟩:=F'.out
    have g:=g'.out
    refine hK _ _ ⟨by simpa using hl,(upd (upd (upd (upd X 9 (.func (.func 76) #[] #[])) 13 (.int .i64 f)) 15 (.int .i64 sc)) 16 (spr r)),rfl,Nat.le_trans hN hb.size,GI.out _ _ (hb.mono hN) g,p0.k,PV.made rfl,p2.k,p3.k,p4.k,PV.made rfl,p6.k,PV.made rfl,PV.made rfl,p9.k,p10.k,p11.k,p14.k,qa0.keep (by decide) (by decide) (fun _ _ h=>owp_below h hb)⟩
  · rintro l A W ⟨hl,X,rfl,hN,g,F⟩ h1 hp K hK
    have e8:=F.2.2.2.2.2.2.2.2.1 (hp ⟨8,.data⟩ (by simp) rfl)
    rw [fhiiT_eq]
    have g':=Lib.hid g
    have F':=Lib.hid F;clear F g
    have hN':=Lib.hid hN;clear hN;have hl':=Lib.hid hl;clear hl;have h1':=Lib.hid h1;clear h1;have hp':=Lib.hid hp;clear hp;have hK':=Lib.hid hK;clear hK
    go_simp
    have hK:=hK'.out;have hN:=hN'.out;have hl:=hl'.out;have h1:=h1'.out
    obtain ⟨p0,p1,p2,p3,p4,p5,p6,p7,p8,p9,p10,p11,p14,qa0⟩:=F'.out
    have g:=g'.out
    refine hK _ _ ⟨by simpa using hl,(upd (upd X 16 (spr r)) 7 (spr r)),rfl,hN,g,p0.k,p1.k,p2.k,p3.k,p4.k,p5.k,p6.k,p7.k,PV.made rfl,PV.made rfl,p10.k,p11.k,p14.k,qa0.keep (by decide) (by decide) (fun _ _ h=>h)⟩
  · rintro l A W ⟨hl,X,rfl,hN,g,F⟩ h1 hp K hK
    have e9:=F.2.2.2.2.2.2.2.2.2.1 (hp ⟨9,.data⟩ (by simp) rfl)
    rw [fhiiT_eq]
    have g':=Lib.hid g
    have F':=Lib.hid F;clear F g
    have hN':=Lib.hid hN;clear hN;have hl':=Lib.hid hl;clear hl;have h1':=Lib.hid h1;clear h1;have hp':=Lib.hid hp;clear hp;have hK':=Lib.hid hK;clear hK
    go_simp
    have hK:=hK'.out;have hN:=hN'.out;have hl:=hl'.out;have h1:=h1'.out
    obtain ⟨p0,p1,p2,p3,p4,p5,p6,p7,p8,p9,p10,p11,p14,qa0⟩:=F'.out
    have g:=g'.out
    refine hK _ _ ⟨by simpa using hl,(upd (upd X 7 (spr r)) 17 (.agg #[.int .i64 r.1.1,.int .i64 r.1.2])),rfl,hN,g,p0.k,p1.k,p2.k,p3.k,p4.k,p5.k,p6.k,p7.k,p8.k,PV.made rfl,PV.made rfl,p11.k,p14.k,qa0.keep (by decide) (by decide) (fun _ _ h=>h)⟩
  · rintro l A W ⟨hl,X,rfl,hN,g,F⟩ h1 hp K hK
    have e9:=F.2.2.2.2.2.2.2.2.2.1 (hp ⟨9,.data⟩ (by simp) rfl)
    rw [fhiiT_eq]
    have g':=Lib.hid g
    have F':=Lib.hid F;clear F g
    have hN':=Lib.hid hN;clear hN;have hl':=Lib.hid hl;clear hl;have h1':=Lib.hid h1;clear h1;have hp':=Lib.hid hp;clear hp;have hK':=Lib.hid hK;clear hK
    go_simp
    have hK:=hK'.out;have hN:=hN'.out;have hl:=hl'.out;have h1:=h1'.out
    obtain ⟨p0,p1,p2,p3,p4,p5,p6,p7,p8,p9,p10,p11,p14,qa0⟩:=F'.out
    have g:=g'.out
    refine hK _ _ ⟨by simpa using hl,(upd (upd X 7 (spr r)) 18 (.int .i64 r.2)),rfl,hN,g,p0.k,p1.k,p2.k,p3.k,p4.k,p5.k,p6.k,p7.k,p8.k,PV.made rfl,p10.k,PV.made rfl,p14.k,qa0.keep (by decide) (by decide) (fun _ _ h=>h)⟩
  · rintro l A W ⟨hl,X,rfl,hN,g,F⟩ h1 hp K hK
    rw [fhiiT_eq]
    have g':=Lib.hid g
    have F':=Lib.hid F;clear F g
    have hN':=Lib.hid hN;clear hN;have hl':=Lib.hid hl;clear hl;have h1':=Lib.hid h1;clear h1;have hp':=Lib.hid hp;clear hp;have hK':=Lib.hid hK;clear hK
    go_simp
    have hK:=hK'.out;have hN:=hN'.out;have hl:=hl'.out;have h1:=h1'.out
    obtain ⟨p0,p1,p2,p3,p4,p5,p6,p7,p8,p9,p10,p11,p14,qa0⟩:=F'.out
    have g:=g'.out
    refine hK _ _ ⟨by simpa using hl,(upd X 5 (.pointer (some ⟨W.heap.size,0,none⟩))),rfl,(by simp;omega),GI.out _ _ (((Below.refl _ W).alloc (Nat.le_refl _) _).mono hN) g,p0.k,p1.k,p2.k,p3.k,p4.k,p5.k,p6.k,p7.k,p8.k,p9.k,p10.k,p11.k,p14.k,qa0.made (by decide) (by rw [hl];decide) h1 hN (owp_new W (0,0) _)⟩
  · rintro l A W ⟨hl,X,rfl,hN,g,F⟩ h1 hp K hK
    have la:=hp ⟨12,.data⟩ (by simp) rfl
    have e10:=F.2.2.2.2.2.2.2.2.2.2.1 (hp ⟨10,.data⟩ (by simp) rfl)
    obtain ⟨b',v',e2,hb',ow,_⟩:=F.2.2.2.2.2.2.2.2.2.2.2.2.2.2 la
    obtain ⟨o0,o1,o2,o3,o4⟩:=id ow
    rw [fhiiT_eq]
    have g':=Lib.hid g
    have F':=Lib.hid F;clear F g
    have hN':=Lib.hid hN;clear hN;have hl':=Lib.hid hl;clear hl;have h1':=Lib.hid h1;clear h1;have hp':=Lib.hid hp;clear hp;have hK':=Lib.hid hK;clear hK
    have la':=Lib.hid la;clear la;have hb'':=Lib.hid hb';clear hb';have ow':=Lib.hid ow;clear ow
    go_simp
    have hK:=hK'.out;have hN:=hN'.out;have hl:=hl'.out;have h1:=h1'.out
    obtain ⟨p0,p1,p2,p3,p4,p5,p6,p7,p8,p9,p10,p11,p14,qa0⟩:=F'.out
    have g:=g'.out
    have la:=la'.out;have hb':=hb''.out;have ow:=ow'.out
    refine hK _ _ ⟨by simpa using hl,(upd (upd X 17 (.agg #[.int .i64 r.1.1,.int .i64 r.1.2])) 5 (.pointer (some ⟨b',0,none⟩))),rfl,(by simpa using hN),GI.out _ _ (below_set2 _ _ hb') g,p0.k,p1.k,p2.k,p3.k,p4.k,p5.k,p6.k,p7.k,p8.k,p9.k,PV.made rfl,p11.k,p14.k,QX.put (by decide) la rfl hb' (owp_put ow r.1)⟩
  · rintro l A W ⟨hl,X,rfl,hN,g,F⟩ h1 hp K hK
    have e11:=F.2.2.2.2.2.2.2.2.2.2.2.1 (hp ⟨11,.data⟩ (by simp) rfl)
    rw [fhiiT_eq]
    have g':=Lib.hid g
    have F':=Lib.hid F;clear F g
    have hN':=Lib.hid hN;clear hN;have hl':=Lib.hid hl;clear hl;have h1':=Lib.hid h1;clear h1;have hp':=Lib.hid hp;clear hp;have hK':=Lib.hid hK;clear hK
    go_simp
    have hK:=hK'.out;have hN:=hN'.out;have hl:=hl'.out;have h1:=h1'.out
    obtain ⟨p0,p1,p2,p3,p4,p5,p6,p7,p8,p9,p10,p11,p14,qa0⟩:=F'.out
    have g:=g'.out
    refine hK _ _ ⟨by simpa using hl,(upd (upd X 18 (.int .i64 r.2)) 6 (.int .i64 r.2)),rfl,hN,g,p0.k,p1.k,p2.k,p3.k,p4.k,p5.k,p6.k,p7.k,p8.k,p9.k,p10.k,PV.made rfl,PV.made rfl,qa0.keep (by decide) (by decide) (fun _ _ h=>h)⟩
set_option maxRecDepth 100000 in
set_option maxHeartbeats 4000000 in
theorem fhii_reg (G:World→Prop) (N:Nat) (x y b n c d m e:Nat) (al ah bl bh:P3) (sc f:Int) (r:Sp.R) {y0 y1 y19 y20 x5 x6 x7 x8 x9 x10 x11 x12 x13 x14 x15 x16 x17 x18:Value} {W:World} {Q:Exit→Act→World→Prop} (GC:Hid (∀ W:World,G W→W.cell? ⟨x,0,none⟩=some (.slice (some ⟨d,0,none⟩) m e)∧W.cell? ⟨x,1,none⟩=some (.int .i64 bl.1)∧W.cell? ⟨x,2,none⟩=some (.int .i64 bl.2.1)∧W.cell? ⟨x,3,none⟩=some (.int .i64 bl.2.2)∧W.cell? ⟨x,4,none⟩=some (.int .i64 bh.1)∧W.cell? ⟨x,5,none⟩=some (.int .i64 bh.2.1)∧W.cell? ⟨x,6,none⟩=some (.int .i64 bh.2.2)∧W.cell? ⟨x,7,none⟩=some (.int .i64 sc)∧W.cell? ⟨x,8,none⟩=some (.func (.func 76) #[] #[])∧W.cell? ⟨y,0,none⟩=some (.slice (some ⟨b,0,none⟩) n c)∧W.cell? ⟨y,1,none⟩=some (.int .i64 al.1)∧W.cell? ⟨y,2,none⟩=some (.int .i64 al.2.1)∧W.cell? ⟨y,3,none⟩=some (.int .i64 al.2.2)∧W.cell? ⟨y,4,none⟩=some (.int .i64 ah.1)∧W.cell? ⟨y,5,none⟩=some (.int .i64 ah.2.1)∧W.cell? ⟨y,6,none⟩=some (.int .i64 ah.2.2))) (FC:Hid (∀ W,G W→Calls Tryz.prog 129 #[grv b n c al ah,grv d m e bl bh] W fun e w'=>e=.returned (.int .i64 f)∧Below W.heap.size W w')) (KC:Hid (∀ W,Calls Tryz.prog 76 #[.int .i64 f,.int .i64 sc] W fun e w'=>e=.returned (spr r)∧Below W.heap.size W w')) (GI:Hid (∀ W W':World,Below N W W'→G W→G W')) (hN:N≤W.heap.size) (g0:G W.drew)
    (hK:∀ (x6 x7 x8 x9 x10 x11 x12 x13 x14 x15 x16 x17 x18:Value) (b0:Nat) (W':World),N≤W'.heap.size→G W'→N≤b0→OwP W' b0 (r.1)→Q .normal { tmps:=#[y0,y1,.pointer (some ⟨x,0,none⟩),.pointer (some ⟨y,0,none⟩),.int .i64 0,.pointer (some ⟨b0,0,none⟩),x6,x7,x8,x9,x10,x11,x12,x13,x14,x15,x16,x17,x18,y19,y20],defers:=[] } W') :
    Code.wp Tryz.prog (.region 1 fhiiOps true) Q { tmps:=#[y0,y1,.pointer (some ⟨x,0,none⟩),.pointer (some ⟨y,0,none⟩),.int .i64 0,x5,x6,x7,x8,x9,x10,x11,x12,x13,x14,x15,x16,x17,x18,y19,y20],defers:=[] } W:=by
  refine wp_region_inv (fhiiI G N x y b n c d m e al ah bl bh sc f r y0 y1 y19 y20) (by kernel_rfl) ?_ (fhii_steps G N x y b n c d m e al ah bl bh sc f r y0 y1 y19 y20 Q GC FC KC GI) ?_
  · exact ⟨by simp [fhiiOps],fun i=>(#[undef,undef,undef,undef,undef,x5,x6,x7,x8,x9,x10,x11,x12,x13,x14,x15,x16,x17,x18,undef,undef]:Array Value).getD i undef,rfl,hN,g0,PV.nought,PV.nought,PV.nought,PV.nought,PV.nought,PV.nought,PV.nought,PV.nought,PV.nought,PV.nought,PV.nought,PV.nought,PV.nought,QX.nought⟩
  · rintro l A W ⟨hl,X,rfl,hN,g,p0,p1,p2,p3,p4,p5,p6,p7,p8,p9,p10,p11,p14,qa0⟩ hr
    unfold fhiiOps at hr
    have l0:=ready_end hr 0 (by rw [hl];decide) rfl (fun e he hbn=>by
      simp at he
      (try (repeat (rcases he with rfl | he;· first | assumption | exact absurd hbn (by decide))))
      (try (first | exact he.elim | (subst he;first | assumption | exact absurd hbn (by decide)))))
    have l1:=ready_end hr 1 (by rw [hl];decide) rfl (fun e he hbn=>by
      simp at he
      (try (repeat (rcases he with rfl | he;· first | assumption | exact absurd hbn (by decide))))
      (try (first | exact he.elim | (subst he;first | assumption | exact absurd hbn (by decide)))))
    have l2:=ready_end hr 2 (by rw [hl];decide) rfl (fun e he hbn=>by
      simp at he
      (try (repeat (rcases he with rfl | he;· first | assumption | exact absurd hbn (by decide))))
      (try (first | exact he.elim | (subst he;first | assumption | exact absurd hbn (by decide)))))
    have l3:=ready_end hr 3 (by rw [hl];decide) rfl (fun e he hbn=>by
      simp at he
      (try (repeat (rcases he with rfl | he;· first | assumption | exact absurd hbn (by decide))))
      (try (first | exact he.elim | (subst he;first | assumption | exact absurd hbn (by decide)))))
    have l4:=ready_end hr 4 (by rw [hl];decide) rfl (fun e he hbn=>by
      simp at he
      (try (repeat (rcases he with rfl | he;· first | assumption | exact absurd hbn (by decide))))
      (try (first | exact he.elim | (subst he;first | assumption | exact absurd hbn (by decide)))))
    have l5:=ready_end hr 5 (by rw [hl];decide) rfl (fun e he hbn=>by
      simp at he
      (try (repeat (rcases he with rfl | he;· first | assumption | exact absurd hbn (by decide))))
      (try (first | exact he.elim | (subst he;first | assumption | exact absurd hbn (by decide)))))
    have l6:=ready_end hr 6 (by rw [hl];decide) rfl (fun e he hbn=>by
      simp at he
      (try (repeat (rcases he with rfl | he;· first | assumption | exact absurd hbn (by decide))))
      (try (first | exact he.elim | (subst he;first | assumption | exact absurd hbn (by decide)))))
    have l7:=ready_end hr 7 (by rw [hl];decide) rfl (fun e he hbn=>by
      simp at he
      (try (repeat (rcases he with rfl | he;· first | assumption | exact absurd hbn (by decide))))
      (try (first | exact he.elim | (subst he;first | assumption | exact absurd hbn (by decide)))))
    have l8:=ready_end hr 8 (by rw [hl];decide) rfl (fun e he hbn=>by
      simp at he
      (try (repeat (rcases he with rfl | he;· first | assumption | exact absurd hbn (by decide))))
      (try (first | exact he.elim | (subst he;first | assumption | exact absurd hbn (by decide)))))
    have l9:=ready_end hr 9 (by rw [hl];decide) rfl (fun e he hbn=>by
      simp at he
      (try (repeat (rcases he with rfl | he;· first | assumption | exact absurd hbn (by decide))))
      (try (first | exact he.elim | (subst he;first | assumption | exact absurd hbn (by decide)))))
    have l10:=ready_end hr 10 (by rw [hl];decide) rfl (fun e he hbn=>by
      simp at he
      (try (repeat (rcases he with rfl | he;· first | assumption | exact absurd hbn (by decide))))
      (try (first | exact he.elim | (subst he;first | assumption | exact absurd hbn (by decide)))))
    have l11:=ready_end hr 11 (by rw [hl];decide) rfl (fun e he hbn=>by
      simp at he
      (try (repeat (rcases he with rfl | he;· first | assumption | exact absurd hbn (by decide))))
      (try (first | exact he.elim | (subst he;first | assumption | exact absurd hbn (by decide)))))
    have l12:=ready_end hr 12 (by rw [hl];decide) rfl (fun e he hbn=>by
      simp at he
      (try (repeat (rcases he with rfl | he;· first | assumption | exact absurd hbn (by decide))))
      (try (first | exact he.elim | (subst he;first | assumption | exact absurd hbn (by decide)))))
    have l13:=ready_end hr 13 (by rw [hl];decide) rfl (fun e he hbn=>by
      simp at he
      (try (repeat (rcases he with rfl | he;· first | assumption | exact absurd hbn (by decide))))
      (try (first | exact he.elim | (subst he;first | assumption | exact absurd hbn (by decide)))))
    have l14:=ready_end hr 14 (by rw [hl];decide) rfl (fun e he hbn=>by
      simp at he
      (try (repeat (rcases he with rfl | he;· first | assumption | exact absurd hbn (by decide))))
      (try (first | exact he.elim | (subst he;first | assumption | exact absurd hbn (by decide)))))
    obtain ⟨b0,v0,e0x,n0,o0,t0⟩:=qa0.2 l12
    obtain rfl:=t0 l13
    have z:=hK (X 6) (X 7) (X 8) (X 9) (X 10) (X 11) (X 12) (X 13) (X 14) (X 15) (X 16) (X 17) (X 18) b0 W hN g n0 o0
    rw [← e0x] at z
    exact z
end Go.Proofs.YtgchcnpgjfoadaaGreat
namespace Go.Proofs.YtgchcnpgjfoadaaGreat
open Go.ChangeShapes Go.WideShapes Go.RowKit
open Sh
/-- a view as a value, and as a block -/
abbrev vwv (d m e:Nat) (bl bh:P3) (sc:Int) (kv:Value):Value:=.agg #[.slice (some ⟨d,0,none⟩) m e,.int .i64 bl.1,.int .i64 bl.2.1,.int .i64 bl.2.2,.int .i64 bh.1,.int .i64 bh.2.1,.int .i64 bh.2.2,.int .i64 sc,kv]
abbrev vwb (d m e:Nat) (bl bh:P3) (sc:Int) (kv:Value) (t:TypeId):Obj:=.cells #[.slice (some ⟨d,0,none⟩) m e,.int .i64 bl.1,.int .i64 bl.2.1,.int .i64 bl.2.2,.int .i64 bh.1,.int .i64 bh.2.1,.int .i64 bh.2.2,.int .i64 sc,kv] t
def VwP (w:World) (x d m e:Nat) (bl bh:P3) (sc:Int) (kv:Value):Prop:=(w.cell? ⟨x,0,none⟩=some (.slice (some ⟨d,0,none⟩) m e)∧w.cell? ⟨x,1,none⟩=some (.int .i64 bl.1)∧w.cell? ⟨x,2,none⟩=some (.int .i64 bl.2.1)∧w.cell? ⟨x,3,none⟩=some (.int .i64 bl.2.2)∧w.cell? ⟨x,4,none⟩=some (.int .i64 bh.1)∧w.cell? ⟨x,5,none⟩=some (.int .i64 bh.2.1)∧w.cell? ⟨x,6,none⟩=some (.int .i64 bh.2.2)∧w.cell? ⟨x,7,none⟩=some (.int .i64 sc)∧w.cell? ⟨x,8,none⟩=some kv)∧x < w.heap.size
theorem vwp_new (w:World) (d m e:Nat) (bl bh:P3) (sc:Int) (kv:Value) (t:TypeId):VwP (w.alloc (vwb d m e bl bh sc kv t)) w.heap.size d m e bl bh sc kv :=
  ⟨⟨by go_simp,by go_simp,by go_simp,by go_simp,by go_simp,by go_simp,by go_simp,by go_simp,by go_simp⟩,by simp⟩
theorem vwp_in {w w1:World} {N x d m e:Nat} {bl bh:P3} {sc:Int} {kv:Value} (h:VwP w x d m e bl bh sc kv) (hb:Below N w w1) (hq:x < N):VwP w1 x d m e bl bh sc kv:=by
  obtain ⟨⟨h0,h1,h2,h3,h4,h5,h6,h7,h8⟩,h9⟩:=h
  exact ⟨⟨(hb.cell (p:=⟨x,0,none⟩) hq).trans h0,(hb.cell (p:=⟨x,1,none⟩) hq).trans h1,(hb.cell (p:=⟨x,2,none⟩) hq).trans h2,(hb.cell (p:=⟨x,3,none⟩) hq).trans h3,(hb.cell (p:=⟨x,4,none⟩) hq).trans h4,(hb.cell (p:=⟨x,5,none⟩) hq).trans h5,(hb.cell (p:=⟨x,6,none⟩) hq).trans h6,(hb.cell (p:=⟨x,7,none⟩) hq).trans h7,(hb.cell (p:=⟨x,8,none⟩) hq).trans h8⟩,Nat.lt_of_lt_of_le h9 hb.size⟩
theorem vwp_alloc {w:World} {x d m e:Nat} {bl bh:P3} {sc:Int} {kv:Value} (h:VwP w x d m e bl bh sc kv) (o:Obj):VwP (w.alloc o) x d m e bl bh sc kv:=vwp_in h ((Below.refl w.heap.size _).alloc (Nat.le_refl _) _) h.2
theorem vwp_drew {w:World} {x d m e:Nat} {bl bh:P3} {sc:Int} {kv:Value} (h:VwP w x d m e bl bh sc kv):VwP w.drew x d m e bl bh sc kv:=h
set_option maxRecDepth 100000 in
set_option maxHeartbeats 2000000 in
theorem floi_any (b n c d m e:Nat) (al ah bl bh:P3) (sc:Int) (r:Sp.R) (w:World) (P Q:Nat→P3) (rp:RwG w b n P) (rq:RwG w d m Q) (hn:n≤1000) (hm:m≤1000) (hb:∀ i,i < n→∀ j,j < m→BdP 1000000 (sub (P i) (Q j))) (KC:Hid (∀ W,Calls Tryz.prog 76 #[.int .i64 (fG P Q m n),.int .i64 sc] W fun e w'=>e=.returned (spr r)∧Below W.heap.size W w')) :
    Calls Tryz.prog 108 #[vwv d m e bl bh sc (.func (.func 76) #[] #[]),grv b n c al ah] w fun e w'=>e=.returned (.int .i64 r.1.1)∧Below w.heap.size w w':=by
  have FC:=Lib.hid (fun (W:World) (B:Below w.heap.size w W)=>ffar_any b n c d m e al ah bl bh P Q W (rwg_below rp B) (rwg_below rq B) hn hm hb)
  clear rp rq hb
  generalize fG P Q m n=f at *
  have X0:=Lib.hid (vwp_alloc (vwp_new w d m e bl bh sc (.func (.func 76) #[] #[]) 147) (grb b n c al ah 143))
  have Y0:=Lib.hid (grp_new (w.alloc (vwb d m e bl bh sc (.func (.func 76) #[] #[]) 147)) b n c al ah 143)
  simp only [World.size_alloc] at Y0
  have B0:=Lib.hid (show Below w.heap.size w ((w.alloc (vwb d m e bl bh sc (.func (.func 76) #[] #[]) 147)).alloc (grb b n c al ah 143)) by (repeat' (first | exact Below.refl _ _ | refine Below.setCell ?_ (by simp <;> omega) _ | refine balloc ?_ _ | refine Below.drew ?_ | refine bdrewN ?_ _)))
  go_enter Tryz.func108,Tryz.ntmps108
  go_wp2_with fail
  generalize hW:(w.alloc (vwb d m e bl bh sc (.func (.func 76) #[] #[]) 147)).alloc (grb b n c al ah 143)=W0 at *
  have hS:W0.heap.size=w.heap.size + 1 + 1:=by rw [← hW];simp
  clear hW
  refine floi_reg (fun W=>(VwP W w.heap.size d m e bl bh sc (.func (.func 76) #[] #[])∧Grp W (w.heap.size + 1) b n c al ah)∧Below w.heap.size w W) (w.heap.size + 1 + 1) w.heap.size (w.heap.size + 1) b n c d m e al ah bl bh sc f r (Lib.hid fun W h=>by obtain ⟨⟨h1,h2⟩,_⟩:=h;obtain ⟨⟨k0,k1,k2,k3,k4,k5,k6,k7,k8⟩,_⟩:=h1;obtain ⟨k',_⟩:=h2;exact ⟨k0,k1,k2,k3,k4,k5,k6,k7,k8,k'⟩) (Lib.hid fun W h=>FC.out W h.2) KC (Lib.hid fun W W' hb h=>⟨⟨vwp_in h.1.1 hb (by omega),grp_in h.1.2 hb (by omega)⟩,Below.trans h.2 (hb.mono (by omega))⟩) (by omega) ⟨⟨vwp_drew X0.out,grp_drew Y0.out⟩,Below.drew B0.out⟩ ?_
  intros
  rename_i k0 W1 kN kG kb kO
  obtain ⟨o0,o1,o2,o3,o4⟩:=id kO
  have kB:=kG.2
  go_wp2
  go_ret
  exact ⟨rfl,by first | exact kB | (repeat' (first | exact Below.refl _ _ | refine bstep ?_ kB | refine Below.setCell ?_ (by simp <;> omega) _ | refine balloc ?_ _ | refine Below.drew ?_ | refine bdrewN ?_ _))⟩
set_option maxRecDepth 100000 in
set_option maxHeartbeats 2000000 in
theorem fhii_any (b n c d m e:Nat) (al ah bl bh:P3) (sc:Int) (r:Sp.R) (w:World) (h1:BdP 1000000 al) (h2:BdP 1000000 ah) (h3:BdP 1000000 bl) (h4:BdP 1000000 bh) (KC:Hid (∀ W,Calls Tryz.prog 76 #[.int .i64 (nG al ah bl bh),.int .i64 sc] W fun e w'=>e=.returned (spr r)∧Below W.heap.size W w')) :
    Calls Tryz.prog 109 #[vwv d m e bl bh sc (.func (.func 76) #[] #[]),grv b n c al ah] w fun e w'=>e=.returned (.int .i64 r.1.2)∧Below w.heap.size w w':=by
  have FC:=Lib.hid (fun (W:World) (_:Below w.heap.size w W)=>fnear_any b n c d m e al ah bl bh W h1 h2 h3 h4)
  clear h1 h2 h3 h4
  generalize nG al ah bl bh=f at *
  have X0:=Lib.hid (vwp_alloc (vwp_new w d m e bl bh sc (.func (.func 76) #[] #[]) 147) (grb b n c al ah 143))
  have Y0:=Lib.hid (grp_new (w.alloc (vwb d m e bl bh sc (.func (.func 76) #[] #[]) 147)) b n c al ah 143)
  simp only [World.size_alloc] at Y0
  have B0:=Lib.hid (show Below w.heap.size w ((w.alloc (vwb d m e bl bh sc (.func (.func 76) #[] #[]) 147)).alloc (grb b n c al ah 143)) by (repeat' (first | exact Below.refl _ _ | refine Below.setCell ?_ (by simp <;> omega) _ | refine balloc ?_ _ | refine Below.drew ?_ | refine bdrewN ?_ _)))
  go_enter Tryz.func109,Tryz.ntmps109
  go_wp2_with fail
  generalize hW:(w.alloc (vwb d m e bl bh sc (.func (.func 76) #[] #[]) 147)).alloc (grb b n c al ah 143)=W0 at *
  have hS:W0.heap.size=w.heap.size + 1 + 1:=by rw [← hW];simp
  clear hW
  refine fhii_reg (fun W=>(VwP W w.heap.size d m e bl bh sc (.func (.func 76) #[] #[])∧Grp W (w.heap.size + 1) b n c al ah)∧Below w.heap.size w W) (w.heap.size + 1 + 1) w.heap.size (w.heap.size + 1) b n c d m e al ah bl bh sc f r (Lib.hid fun W h=>by obtain ⟨⟨h1,h2⟩,_⟩:=h;obtain ⟨⟨k0,k1,k2,k3,k4,k5,k6,k7,k8⟩,_⟩:=h1;obtain ⟨k',_⟩:=h2;exact ⟨k0,k1,k2,k3,k4,k5,k6,k7,k8,k'⟩) (Lib.hid fun W h=>FC.out W h.2) KC (Lib.hid fun W W' hb h=>⟨⟨vwp_in h.1.1 hb (by omega),grp_in h.1.2 hb (by omega)⟩,Below.trans h.2 (hb.mono (by omega))⟩) (by omega) ⟨⟨vwp_drew X0.out,grp_drew Y0.out⟩,Below.drew B0.out⟩ ?_
  intros
  rename_i k0 W1 kN kG kb kO
  obtain ⟨o0,o1,o2,o3,o4⟩:=id kO
  have kB:=kG.2
  go_wp2
  go_ret
  exact ⟨rfl,by first | exact kB | (repeat' (first | exact Below.refl _ _ | refine bstep ?_ kB | refine Below.setCell ?_ (by simp <;> omega) _ | refine balloc ?_ _ | refine Below.drew ?_ | refine bdrewN ?_ _))⟩
theorem ftouch_any (b n c d m e:Nat) (al ah bl bh:P3) (sc:Int) (kv:Value) (w:World) (h1:BdP 1000000 al) (h2:BdP 1000000 ah) (h3:BdP 1000000 bl) (h4:BdP 1000000 bh) :
    Calls Tryz.prog 106 #[vwv d m e bl bh sc kv,grv b n c al ah] w fun e w'=>e=.returned (.bool (nG al ah bl bh == 0))∧Below w.heap.size w w':=by
  have FC:=Lib.hid (fun (W:World)=>fnear_any b n c d m e al ah bl bh W h1 h2 h3 h4)
  clear h1 h2 h3 h4
  generalize nG al ah bl bh=f at *
  have X0:=Lib.hid (vwp_alloc (vwp_new w d m e bl bh sc (kv) 147) (grb b n c al ah 143))
  have Y0:=Lib.hid (grp_new (w.alloc (vwb d m e bl bh sc (kv) 147)) b n c al ah 143)
  simp only [World.size_alloc] at Y0
  have B0:=Lib.hid (show Below w.heap.size w ((w.alloc (vwb d m e bl bh sc (kv) 147)).alloc (grb b n c al ah 143)) by (repeat' (first | exact Below.refl _ _ | refine Below.setCell ?_ (by simp <;> omega) _ | refine balloc ?_ _ | refine Below.drew ?_ | refine bdrewN ?_ _)))
  obtain ⟨⟨k0,k1,k2,k3,k4,k5,k6,k7,k8⟩,_⟩:=X0.out
  obtain ⟨⟨g0,g1,g2,g3,g4,g5,g6⟩,_⟩:=Y0.out
  go_enter Tryz.func106,Tryz.ntmps106
  go_wp2_with fail
  with_reducible refine (FC.out _).mono ?_
  rintro e w2 ⟨rfl,hb⟩
  go_wp2
  go_ret
  exact ⟨rfl,by (repeat' (first | exact Below.refl _ _ | refine bstep ?_ hb | refine Below.setCell ?_ (by simp <;> omega) _ | refine balloc ?_ _ | refine Below.drew ?_ | refine bdrewN ?_ _))⟩
end Go.Proofs.YtgchcnpgjfoadaaGreat
