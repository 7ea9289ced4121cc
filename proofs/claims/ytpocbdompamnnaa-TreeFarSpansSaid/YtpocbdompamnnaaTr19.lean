import Derived.RangeFuncNested
import Derived.RangeFuncBound
import Derived.RangeFuncCalls
import Derived.RangeFuncLeaves
import Derived.RangeFuncBox
import Derived.Shelf.Abstract
import Derived.Shelf.RegionOpen
import Derived.WalkKit
import Derived.OwnWalkIn
import Derived.TacticsInMore
import Derived.LoopNIn
import Derived.LoopIn
import Derived.Test.YtpocbdompamnnaaTr20
namespace Go.Proofs.Ytpocbdompamnnaa
open Go.ChangeShapes Go.WideShapes Go.RowKit
open Sh
open Go.Shelf
attribute [local go_sem] Oper.semAt_some
attribute [local go_sem 1000000] run_min_mn run_max_mx
def BxN (W:World) (B:Nat) (x:Ni):Prop:=W.heap[B]?=some (nib x 44)
theorem bxN_own (B:Nat) (x:Ni):Go.Own (fun (_:Unit) W=>BxN W B x):=fun s X Y row hs hg hrow=>by
  have hl:B < X.heap.size:=(Array.getElem?_eq_some_iff.1 (show X.heap[B]?=_ from hs)).1
  exact (hg.block B hl (fun e'=>by obtain ⟨o,ho,hc⟩:=hrow B e'.symm;rw [show X.heap[B]?=_ from hs] at ho;cases ho;cases hc)).trans hs
def HgI (w:World) (n₀ Bs bh K:Nat) (T:Nat→Ni) (pre:List (SubK K)) (W:World):Prop:=TbH W n₀ K (hgF K T (vlK pre))∧Boxed W bh 24 (.slice (some ⟨n₀,0,none⟩) K K)∧Bs < W.heap.size∧Below w.heap.size w W
theorem hgI_own (w:World) (n₀ Bs bh K C:Nat) (T:Nat→Ni) (hC:w.heap.size≤C):OwnFrom C (HgI w n₀ Bs bh K T):=fun _ X Y row hs hg hr =>
  ⟨tbH_own n₀ K C _ X Y row hs.1 hg hr,boxed_own bh 24 (fun (_:Unit)=>.slice (some ⟨n₀,0,none⟩) K K) () X Y row hs.2.1 hg (fun r e=>(hr r e).2),Nat.lt_of_lt_of_le hs.2.2.1 hg.size,
    ownFrom_below (n₀:=w.heap.size) (B:=C) (Nat.le_refl _) hC () X Y row hs.2.2.2 hg hr⟩
set_option maxRecDepth 100000 in
set_option maxHeartbeats 4000000 in
theorem height_any (A B:Option Addr) (n cO K cN:Nat) (T:Nat→Ni) (w:World) (r:LstD w B K T) (hK:K≤1000):Calls Try.prog 15 #[.agg #[.slice A n cO,.slice B K cN]] w fun e w'=>e=.returned (.int .i64 (hgt K T))∧Below w.heap.size w w':=by
  have hK':(K:Int)≤1000:=by omega
  have KH:=hK
  have BA:=Lib.hid (fun (m:Nat) (W:World)=>(callsIn_wide (n:=m)).2 (back_any B K cN W))
  have IR:=Lib.hid (fun (m:Nat) (k lo hi:Int) (W:World)=>(callsIn_wide (n:=m)).2 (tir_any k lo hi W))
  have t0:(w.alloc (.cells #[.slice A n cO,.slice B K cN] 27)).cell? ⟨w.heap.size,0,none⟩=some (.slice A n cO):=by go_simp
  have t1:(w.alloc (.cells #[.slice A n cO,.slice B K cN] 27)).cell? ⟨w.heap.size,1,none⟩=some (.slice B K cN):=by go_simp
  obtain ⟨w1,hw1⟩:∃ w1,w.alloc (.cells #[.slice A n cO,.slice B K cN] 27)=w1:=⟨_,rfl⟩
  rw [hw1] at t0 t1
  have s1:w1.heap.size=w.heap.size + 1:=by rw [← hw1];simp
  have B1:Below w.heap.size w w1:=by rw [← hw1];exact (Below.refl _ _).alloc (Nat.le_refl _) _
  obtain ⟨w2,hmk,hT,hg⟩:=tbH_make w1 K (by omega)
  rw [s1] at hmk hT
  have B2:Below w1.heap.size w1 w2:=(Below.refl w1.heap.size w1).grown hg (Nat.le_refl _) (fun k hk=>by cases hk)
  have s2:w1.heap.size≤w2.heap.size:=B2.size
  have t0:=(B2.cell (p:=⟨w.heap.size,0,none⟩) (by show w.heap.size < _;omega)).trans t0
  have t1':=(B2.cell (p:=⟨w.heap.size,1,none⟩) (by show w.heap.size < _;omega)).trans t1
  have sT:=hT.1
  have TT:=Lib.hid hT
  have R1:=Lib.hid (lstD_below r B1)
  have AB:=Lib.hid (show 0 < K→∀ b off,B=some ⟨b,off,none⟩→b < w.heap.size + 1 from fun h0 b off e=>by obtain ⟨b',off',e',rr⟩:=r h0;rw [e] at e';cases e';have:=rr.1;omega)
  have BB1:=Lib.hid B1
  have BB2:=Lib.hid B2
  have l0:w.heap.size < w2.heap.size:=by omega
  have n0:¬ (w2.heap.size=w.heap.size):=by omega
  clear hT r B1 B2 hg
  refine (callsIn_wide (n:=3)).1 ?_
  refine callsIn_of_wp_marks Try.func15 rfl trivial ?_ rfl
  simp only [Try.ntmps15,List.size_toArray,List.length_cons,List.length_nil,Nat.reduceAdd,Nat.reduceSub,Array.replicate_succ,Array.replicate_zero,List.push_toArray,List.append_toArray,List.nil_append,List.cons_append]
  gi_wp2_with (refine ⟨trivial,?_⟩;gi_at_call 33;refine (BA.out _ _).mono ?_;clear BA;rintro e W2 ⟨rfl,rfl⟩)
  obtain ⟨W1,hW1⟩:∃ W1,(w2.alloc (.cells #[.slice (some ⟨w.heap.size + 1,0,none⟩) K K] 24)).alloc (.cells #[.slice B K cN] 25)=W1:=⟨_,rfl⟩
  have z1:W1.heap.size=w2.heap.size + 1 + 1:=by rw [← hW1];simp
  have C1:Below w2.heap.size w2 W1:=by rw [← hW1];exact ((Below.refl _ w2).alloc (Nat.le_refl _) _).alloc (by simp) _
  have bO:Boxed W1 w2.heap.size 24 (.slice (some ⟨w.heap.size + 1,0,none⟩) K K):=by
    rw [← hW1]
    exact (Boxed.new w2 24 _).alloc _
  have cB:W1.cell? ⟨w2.heap.size + 1,0,none⟩=some (.slice B K cN):=by
    rw [← hW1]
    have:=(Boxed.new (w2.alloc (.cells #[.slice (some ⟨w.heap.size + 1,0,none⟩) K K] 24)) 25 (.slice B K cN)).cell
    rwa [World.size_alloc] at this
  have tW:TbH W1 (w.heap.size + 1) K (fun _=>0):=tbH_below TT.out C1
  have rW:LstD W1 B K T:=lstD_below (lstD_below R1.out BB2.out) C1
  have bW:Below w.heap.size w W1:=bstep (bstep BB1.out BB2.out) C1
  have aB:0 < K→∀ b off,B=some ⟨b,off,none⟩→b < w.heap.size + 1:=AB.out
  rw [hW1]
  clear hW1 C1 TT R1 BB1 BB2 t0 t1 t1' hmk hw1 l0 n0
  have hseq:=back_stops 2 (w2.heap.size + 1) K cN (w.heap.size + 1) B T W1 KH (by omega) aB cB rW
  refine wpIn_rangeFunc_ownH rfl (by decide) (gf:=57) (lb:=#[.pointer (some ⟨w2.heap.size + 1,0,none⟩)]) rfl trivial (enters_of Try.func57 (by kernel_rfl) rfl) hseq kpB_t (kpB_b (by omega) (by omega)) (Below.refl _ W1) (fun _=>rfl)
    (HgI w (w.heap.size + 1) (w2.heap.size + 1) w2.heap.size K T)
    (fun _ _ _=>False)
    (hgI_own _ _ _ _ _ _ _ bW.size)
    (fun _ _ _ _ _ hs _ _=>hs)
    ⟨tW,bO,by omega,bW⟩
    (fun x a' W=>∃ Bx,w2.heap.size + 1 < Bx∧BxN W Bx (T x.1)∧a'={ tmps:=#[.agg #[.slice A n cO,.slice B K cN],.pointer (some ⟨w.heap.size,0,none⟩),.int .i64 0,.pointer (some ⟨w2.heap.size,0,none⟩),.int .i64 (x.1:Int),.pointer (some ⟨Bx,0,none⟩),undef,undef,.pointer (some ⟨w.heap.size,1,none⟩),.slice B K cN,.int .i64 (K:Int),.slice (some ⟨w.heap.size + 1,0,none⟩) K K,.pointer (some ⟨w.heap.size,1,none⟩),.slice B K cN,.func (.func 57) #[] #[.pointer (some ⟨w2.heap.size + 1,0,none⟩)],.int .i64 (x.1:Int),niv (T x.1),undef,undef,undef,undef,undef,undef,undef,undef,undef,undef,undef,undef,undef,undef,undef,undef,undef,undef,undef,undef,undef,undef,undef,undef,undef,undef,undef,undef,undef,undef,undef,undef,undef,undef,undef,undef,undef,undef],defers:=[] })
    (fun x a'=>by
      rintro _ X Y row ⟨Bx,hx,hb,rfl⟩ hg hr
      exact ⟨Bx,hx,bxN_own Bx _ () X Y row hb hg (fun r e=>(hr r e).2),rfl⟩) ?assign ?body ?done ?stop
  case assign =>
    rintro l pre x W K' hI hK'
    have hs:=hI.2.2.1
    have hbW:=hI.2.2.2.size
    gi_wp2
    exact hK' _ _ ((KeepsOthers.alloc _ _).from _) ⟨(Below.refl _ W).alloc (Nat.le_trans (by omega) (Nat.le_of_lt hI.1.1)) _,(Below.heap_alloc _ _ _ hs)⟩ ((hgI_own w _ _ _ _ w.heap.size T (Nat.le_refl _)).alloc _ hI) ⟨W.heap.size,hs,World.alloc_heap_new W _,rfl⟩
  case body =>
    rintro l pre x a' W hl ⟨rr,hr⟩ ⟨hT,hb,hs,hB⟩ ⟨Bx,hBx,hX,rfl⟩ hlt
    obtain ⟨k,hk⟩:=x
    obtain ⟨x,ex⟩:∃ x,T k=x:=⟨_,rfl⟩
    have EX:=Lib.hid ex
    dsimp only at hX
    rw [ex] at hX
    simp only [ex]
    clear ex
    have hk1:(k:Int) < (K:Int):=by omega
    have hk0:(0:Int)≤(k:Int):=by omega
    have bd:=hgF_bd K T (vlK pre)
    rw [vlK_len] at bd
    obtain ⟨f,ef⟩:∃ f,hgF K T (vlK pre)=f:=⟨_,rfl⟩
    have EF:=Lib.hid ef
    rw [ef] at hT bd
    clear ef
    have bO':=hgO_bd (k:=k) bd
    have hc:=hb.cell
    have hf:=(hT.2 k hk).2
    have hv:=(hT.2 k hk).1
    obtain ⟨x1,x2,x3,x4,⟨x5,x6,x7⟩,x8⟩:=x
    have U1:=hgU_bd (K:=K) (y:=x3) bO'.1 bO'.2 rfl
    have xL:Bx < W.heap.size:=(Array.getElem?_eq_some_iff.1 (show W.heap[Bx]?=_ from hX)).1
    have y2:W.cell? ⟨Bx,2,none⟩=some (.int .i64 x3):=by simp [World.cell?,show W.heap[Bx]?=_ from hX]
    have y3:W.cell? ⟨Bx,3,none⟩=some (.int .i64 x4):=by simp [World.cell?,show W.heap[Bx]?=_ from hX]
    have nB:¬ (Bx=w.heap.size + 1):=by omega
    have nB':¬ (w.heap.size + 1=Bx):=by omega
    have nH:¬ (w2.heap.size=w.heap.size + 1):=by omega
    have nH':¬ (w.heap.size + 1=w2.heap.size):=by omega
    have H0:=Lib.hid (hgS_put (B:=W1.heap.size) (Bs:=w2.heap.size + 1) (bh:=w2.heap.size) (c:=K) (W:=W) (V:=W) (g:=hgO k f) ⟨hT,hb,KeepsFrom.refl _ W,⟨Below.refl _ W,rfl⟩⟩ (by omega) (by omega) hk 1 rfl)
    have hs':=Lib.hid hs
    have HT:=Lib.hid hT
    have HB:=Lib.hid hB
    have HL:=Lib.hid hlt
    have BD:=Lib.hid bO'
    have UD:=Lib.hid U1
    clear hT hB hlt bO' U1 bd hX hs
    gi_wp2
    clear hc hf hv y2 y3
    gi_loopw [25] (fun kv wr=>∃ j:Nat,j≤2∧kv=.int .i64 j∧HgS W1.heap.size (w.heap.size + 1) (w2.heap.size + 1) w2.heap.size K K W wr (if j=0 then hgO k f else if j=1 then hgU K k (hgO k f) x3 else hgU K k (hgU K k (hgO k f) x3) x4)) (fun kv _=>2 - (intOf kv).toNat)
    case atStart=>exact ⟨0,Nat.zero_le _,rfl,H0.out⟩
    case round =>
      obtain ⟨j,hj,rfl,h⟩:=hrel
      have HLE:=Lib.hid (show (pre.length:Int)≤1000 by have:=HL.out;omega)
      have HS:=Lib.hid (fun (g:Nat→Int) (V:World) (h:HgS W1.heap.size (w.heap.size + 1) (w2.heap.size + 1) w2.heap.size K K W V g)=>Nat.lt_of_lt_of_le hs'.out h.2.2.2.1.size)
      by_cases e2:j=2
      · subst e2
        have H:=Lib.hid h
        clear h hj
        gi_wp2
        have z:=H.out
        rw [if_neg (by decide),if_neg (by decide)] at z
        refine ⟨z.2.2.1,z.2.2.2,?_,z.2.1,HS.out _ _ z,HB.out.trans (z.2.2.2.1.mono (by omega))⟩
        have e:hgF K T (vlK (pre ++ [⟨k,hk⟩]))=hgU K k (hgU K k (hgO k f) x3) x4:=by
          rw [vlK_snoc,hgF_snoc,EF.out,EX.out]
          rfl
        rw [e]
        exact z.1
      have e01:j=0∨j=1:=by omega
      clear e2 hj
      rcases e01 with rfl | rfl
      · rw [if_pos rfl] at h
        have H:=Lib.hid h
        have hbx:=h.2.1.cell
        by_cases c:rngB x3 ((k:Int) + 1) ((K:Int) - 1)=true
        · have cc:=rngB_iff.1 c
          obtain ⟨p,rfl⟩:∃ p:Nat,x3=(p:Int):=⟨x3.toNat,by omega⟩
          have pK:p < K:=by omega
          have pk1:(p:Int) < (K:Int):=by omega
          have pk0:(0:Int)≤(p:Int):=by omega
          have fp:=BD.out.1 p
          have ix:∀ w,(Instr.index 61 (.agg #[.int .i64 (p:Int),.int .i64 x4]) (.int .i64 0)).run Try.prog w=.ok (.int .i64 (p:Int)) w:=fun _=>by kernel_rfl
          have le:=HLE.out
          gi_wp2_with ((first | refine ⟨trivial,fun h=>(by cases (show false=true from h)),?_⟩ | refine ⟨fun h=>(by cases (show false=true from h)),?_⟩ | refine ⟨trivial,?_⟩ | skip);gi_at_call 23;refine ((IR.out _ _ _ _ _).inRound l).mono ?_;rintro e W3 ⟨rfl,hb3⟩;have H3:=Lib.hid (hgS_below H.out (HS.out _ _ H.out) hb3);have hc3:=H3.out.2.1.cell;have ck3:=(H3.out.1.2 k hk).1;have cf3:=(H3.out.1.2 k hk).2;have cp3:=(H3.out.1.2 p pK).1)
          obtain ⟨u,eu⟩:∃ u,hgO k f k=u:=⟨_,rfl⟩
          obtain ⟨v,ev⟩:∃ v,hgO k f p=v:=⟨_,rfl⟩
          have EU:=Lib.hid eu
          have EV:=Lib.hid ev
          rw [eu] at ck3
          rw [ev] at cp3 fp
          have v1:v≤1001:=by omega
          have v0:0≤v:=fp.1
          have C:=Lib.hid c
          clear eu ev fp c hr hbx
          refine hg_reg l _ (w.heap.size + 1) w2.heap.size K k p u v W3 _ _ _ _ _ _ _ _ _ _ _ _ _ _ _ _ _ _ _ _ _ _ _ _ _ _ _ _ _ _ _ _ _ _ _ _ _ _ _ (fun i=>if i=35 then u35 else if i=36 then u36 else if i=37 then u37 else if i=38 then u38 else if i=39 then u39 else if i=40 then u40 else if i=41 then u41 else if i=42 then u42 else if i=43 then u43 else if i=44 then u44 else if i=45 then u45 else if i=46 then u46 else if i=47 then u47 else undef) _ hk1 pk1 v0 v1 hc3 ck3 cp3 cf3 (fun X=>?_)
          have z:=hgS_put (g:=hgU K k (hgO k f) (p:Int)) (hgS_below H3.out (HS.out _ _ H3.out) (Below.drew (Below.refl _ _))) (by omega) (by omega) hk (Sp.mx u (v + 1)) (by
            unfold hgU
            rw [if_pos C.out]
            funext i
            rw [← EU.out,← EV.out]
            rfl)
          have Z:=Lib.hid z
          clear z
          simp only [hgT]
          gi_wp2
          go_roundw
          case rel=>exact ⟨1,by decide,rfl,Z.out⟩
          case measure=>simp [intOf]
        · have ix:∀ w,(Instr.index 61 (.agg #[.int .i64 x3,.int .i64 x4]) (.int .i64 0)).run Try.prog w=.ok (.int .i64 x3) w:=fun _=>by kernel_rfl
          have c':rngB x3 ((k:Int) + 1) ((K:Int) - 1)=false:=by simpa using c
          gi_wp2_with ((first | refine ⟨trivial,fun h=>(by cases (show false=true from h)),?_⟩ | refine ⟨fun h=>(by cases (show false=true from h)),?_⟩ | refine ⟨trivial,?_⟩ | skip);gi_at_call 23;refine ((IR.out _ _ _ _ _).inRound l).mono ?_;rintro e W3 ⟨rfl,hb3⟩;have H3:=Lib.hid (hgS_below H.out (HS.out _ _ H.out) hb3))
          gi_wp2
          go_roundw
          case rel=>exact ⟨1,by decide,rfl,by
            have z:=H3.out
            rw [show hgU K k (hgO k f) x3=hgO k f from if_neg c]
            exact z⟩
          case measure=>simp [intOf]
      · rw [if_neg (by decide),if_pos rfl] at h
        have H:=Lib.hid h
        have hbx:=h.2.1.cell
        by_cases c:rngB x4 ((k:Int) + 1) ((K:Int) - 1)=true
        · have cc:=rngB_iff.1 c
          obtain ⟨p,rfl⟩:∃ p:Nat,x4=(p:Int):=⟨x4.toNat,by omega⟩
          have pK:p < K:=by omega
          have pk1:(p:Int) < (K:Int):=by omega
          have pk0:(0:Int)≤(p:Int):=by omega
          have fp:=UD.out.1 p
          have ix:∀ w,(Instr.index 61 (.agg #[.int .i64 x3,.int .i64 (p:Int)]) (.int .i64 1)).run Try.prog w=.ok (.int .i64 (p:Int)) w:=fun _=>by kernel_rfl
          have le:=HLE.out
          gi_wp2_with ((first | refine ⟨trivial,fun h=>(by cases (show false=true from h)),?_⟩ | refine ⟨fun h=>(by cases (show false=true from h)),?_⟩ | refine ⟨trivial,?_⟩ | skip);gi_at_call 23;refine ((IR.out _ _ _ _ _).inRound l).mono ?_;rintro e W3 ⟨rfl,hb3⟩;have H3:=Lib.hid (hgS_below H.out (HS.out _ _ H.out) hb3);have hc3:=H3.out.2.1.cell;have ck3:=(H3.out.1.2 k hk).1;have cf3:=(H3.out.1.2 k hk).2;have cp3:=(H3.out.1.2 p pK).1)
          obtain ⟨u,eu⟩:∃ u,hgU K k (hgO k f) x3 k=u:=⟨_,rfl⟩
          obtain ⟨v,ev⟩:∃ v,hgU K k (hgO k f) x3 p=v:=⟨_,rfl⟩
          have EU:=Lib.hid eu
          have EV:=Lib.hid ev
          rw [eu] at ck3
          rw [ev] at cp3 fp
          have v1:v≤1001:=by omega
          have v0:0≤v:=fp.1
          have C:=Lib.hid c
          clear eu ev fp c hr hbx
          refine hg_reg l _ (w.heap.size + 1) w2.heap.size K k p u v W3 _ _ _ _ _ _ _ _ _ _ _ _ _ _ _ _ _ _ _ _ _ _ _ _ _ _ _ _ _ _ _ _ _ _ _ _ _ _ _ (fun i=>if i=35 then u35 else if i=36 then u36 else if i=37 then u37 else if i=38 then u38 else if i=39 then u39 else if i=40 then u40 else if i=41 then u41 else if i=42 then u42 else if i=43 then u43 else if i=44 then u44 else if i=45 then u45 else if i=46 then u46 else if i=47 then u47 else undef) _ hk1 pk1 v0 v1 hc3 ck3 cp3 cf3 (fun X=>?_)
          have z:=hgS_put (g:=hgU K k (hgU K k (hgO k f) x3) (p:Int)) (hgS_below H3.out (HS.out _ _ H3.out) (Below.drew (Below.refl _ _))) (by omega) (by omega) hk (Sp.mx u (v + 1)) (by
            unfold hgU
            rw [if_pos C.out]
            funext i
            rw [← EU.out,← EV.out]
            rfl)
          have Z:=Lib.hid z
          clear z
          simp only [hgT]
          gi_wp2
          go_roundw
          case rel=>exact ⟨2,by decide,rfl,Z.out⟩
          case measure=>simp [intOf]
        · have ix:∀ w,(Instr.index 61 (.agg #[.int .i64 x3,.int .i64 x4]) (.int .i64 1)).run Try.prog w=.ok (.int .i64 x4) w:=fun _=>by kernel_rfl
          have c':rngB x4 ((k:Int) + 1) ((K:Int) - 1)=false:=by simpa using c
          gi_wp2_with ((first | refine ⟨trivial,fun h=>(by cases (show false=true from h)),?_⟩ | refine ⟨fun h=>(by cases (show false=true from h)),?_⟩ | refine ⟨trivial,?_⟩ | skip);gi_at_call 23;refine ((IR.out _ _ _ _ _).inRound l).mono ?_;rintro e W3 ⟨rfl,hb3⟩;have H3:=Lib.hid (hgS_below H.out (HS.out _ _ H.out) hb3))
          gi_wp2
          go_roundw
          case rel=>exact ⟨2,by decide,rfl,by
            have z:=H3.out
            rw [show hgU K k (hgU K k (hgO k f) x3) x4=hgU K k (hgO k f) x3 from if_neg c]
            exact z⟩
          case measure=>simp [intOf]
  case done =>
    rintro D ys W hD hS ⟨hT,hb,hs,hB⟩ hK9
    have hc:=hb.cell
    have eT:hgF K T (vlK ys)=hgF K T (bckL K K):=by rw [show vlK ys=bckL K K from hS]
    rw [eT] at hT
    have HB:=Lib.hid hB
    by_cases h0:K=0
    · have k0:((K:Int) == 0)=true:=by simp [h0]
      have hv:hgt K T=0:=by
        unfold hgt
        rw [h0]
        rfl
      gi_wp2
      refine ⟨by simp,.inl ⟨_,_,rfl,run_takeDeferred hK9,?_⟩⟩
      exact ⟨_,results_tmp rfl _ _ _,by rw [hv];rfl,HB.out.trans (belowK_b (w:=w) (Nat.le_refl _) W D _ _ (by have:=bW.size;omega) hK9 rfl rfl)⟩
    · have k0:((K:Int) == 0)=false:=by simp [h0]
      have h1:(0:Int) < (K:Int):=by omega
      have hv:=(hT.2 0 (by omega)).1
      gi_wp2
      refine ⟨by simp,.inl ⟨_,_,rfl,run_takeDeferred hK9,?_⟩⟩
      exact ⟨_,results_tmp rfl _ _ _,rfl,HB.out.trans (belowK_b (w:=w) (Nat.le_refl _) W D _ _ (by have:=bW.size;omega) hK9 rfl rfl)⟩
  case stop =>
    rintro D c pre W _ _ h _
    exact h.elim
end Go.Proofs.Ytpocbdompamnnaa
