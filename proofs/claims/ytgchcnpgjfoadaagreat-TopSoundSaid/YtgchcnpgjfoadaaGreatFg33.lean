import Derived.Test.YtgchcnpgjfoadaaGreatFgMe
import Derived.Test.YtgchcnpgjfoadaaGreatSoMc
import Derived.Test.YtgchcnpgjfoadaaGreatMoM
namespace Go.Proofs.YtgchcnpgjfoadaaGreat
open Go.ChangeShapes Go.WideShapes Go.RowKit
open Sh
def potC (x:P3) (D:Int) (q:Ch):Sp.R:=if (meF false q.1 x D).2=0 then scaleR (meF false q.1 x D).1.1 (meF false q.1 x D).1.2 q.2 else ((0,0),(meF false q.1 x D).2)
def potF (n:Nat) (Q:Nat→Ch) (x:P3) (D:Int):Sp.R:=if ccode n Q=0 then (if akc x D=0 then sceR (fun k=>potC x D (Q k)) n else ((0,0),akc x D)) else ((0,0),ccode n Q)
def BoxC (w:World) (g:Nat) (q:Ch):Prop:=(w.cell? ⟨g,0,none⟩=some (.int .i64 q.1.1.1)∧w.cell? ⟨g,1,none⟩=some (.int .i64 q.1.1.2.1)∧w.cell? ⟨g,2,none⟩=some (.int .i64 q.1.1.2.2)∧w.cell? ⟨g,3,none⟩=some (.int .i64 q.1.2.1.1)∧w.cell? ⟨g,4,none⟩=some (.int .i64 q.1.2.1.2.1)∧w.cell? ⟨g,5,none⟩=some (.int .i64 q.1.2.1.2.2)∧w.cell? ⟨g,6,none⟩=some (.int .i64 q.1.2.2.1)∧w.cell? ⟨g,7,none⟩=some (.int .i64 q.1.2.2.2.1)∧w.cell? ⟨g,8,none⟩=some (.int .i64 q.1.2.2.2.2)∧w.cell? ⟨g,9,none⟩=some (.int .i64 q.2))∧g < w.heap.size
theorem boxC_new (w:World) (q:Ch) (t:TypeId):BoxC (w.alloc (chb q t)) w.heap.size q:=⟨⟨by go_simp,by go_simp,by go_simp,by go_simp,by go_simp,by go_simp,by go_simp,by go_simp,by go_simp,by go_simp⟩,by simp⟩
theorem boxC_in {w w1:World} {N g:Nat} {q:Ch} (h:BoxC w g q) (hb:Below N w w1) (hg:g < N):BoxC w1 g q:=by
  obtain ⟨⟨c0,c1,c2,c3,c4,c5,c6,c7,c8,c9⟩,l⟩:=h
  exact ⟨⟨(hb.cell (p:=⟨g,0,none⟩) hg).trans c0,(hb.cell (p:=⟨g,1,none⟩) hg).trans c1,(hb.cell (p:=⟨g,2,none⟩) hg).trans c2,(hb.cell (p:=⟨g,3,none⟩) hg).trans c3,(hb.cell (p:=⟨g,4,none⟩) hg).trans c4,(hb.cell (p:=⟨g,5,none⟩) hg).trans c5,(hb.cell (p:=⟨g,6,none⟩) hg).trans c6,(hb.cell (p:=⟨g,7,none⟩) hg).trans c7,(hb.cell (p:=⟨g,8,none⟩) hg).trans c8,(hb.cell (p:=⟨g,9,none⟩) hg).trans c9⟩,Nat.lt_of_lt_of_le l hb.size⟩
theorem boxC_below {w w1:World} {g:Nat} {q:Ch} (h:BoxC w g q) (hb:Below w.heap.size w w1):BoxC w1 g q:=boxC_in h hb h.2
theorem boxC_alloc {w:World} {g:Nat} {q:Ch} (h:BoxC w g q) (o:Obj):BoxC (w.alloc o) g q:=boxC_below h ((Below.refl _ _).alloc (Nat.le_refl _) _)
def CapX (w:World) (bx bd:Nat) (x:P3) (D:Int):Prop:=Own w bx x∧w.cell? ⟨bd,0,none⟩=some (.int .i64 D)∧bd < w.heap.size
theorem capX_in {w w1:World} {N bx bd:Nat} {x:P3} {D:Int} (h:CapX w bx bd x D) (hb:Below N w w1) (h1:bx < N) (h2:bd < N):CapX w1 bx bd x D :=
  ⟨own_in' h.1 hb h1,(hb.cell (p:=⟨bd,0,none⟩) h2).trans h.2.1,Nat.lt_of_lt_of_le h.2.2 hb.size⟩
theorem capX_below {w w1:World} {bx bd:Nat} {x:P3} {D:Int} (h:CapX w bx bd x D) (hb:Below w.heap.size w w1):CapX w1 bx bd x D:=capX_in h hb h.1.2.2.2.2.2.2 h.2.2
set_option maxRecDepth 100000 in
theorem pc_no (q:Ch) (bx bd:Nat) (x:P3) (D a b c:Int) (w:World) (hc:CapX w bx bd x D) (M:Hid (∀ W,Calls Tryz.prog 54 #[pnv q.1.1 q.1.2.1 q.1.2.2,ptv x,.int .i64 D] W fun e w'=>e=.returned (spr ((a,b),c))∧Below W.heap.size W w')) (z:(c != 0)=true):Calls Tryz.prog 53 #[chv q,.pointer (some ⟨bx,0,none⟩),.pointer (some ⟨bd,0,none⟩)] w fun e w'=>e=.returned (spr ((0,0),c))∧Below w.heap.size w w':=by
  have C0:=Lib.hid (boxC_alloc (boxC_new w q 65) (.cells #[.int .i64 0,.int .i64 0] 34))
  have Z0:=Lib.hid (owp_new (w.alloc (chb q 65)) (0,0) 34)
  have X0:=Lib.hid (capX_below hc (((Below.refl w.heap.size w).alloc (Nat.le_refl _) (chb q 65)).alloc (by simp) (.cells #[.int .i64 0,.int .i64 0] 34)))
  have B0:=Lib.hid (show Below w.heap.size w ((w.alloc (chb q 65)).alloc (.cells #[.int .i64 0,.int .i64 0] 34)) by (repeat' (first | exact Below.refl _ _ | refine Below.setCell ?_ (by simp <;> omega) _ | refine balloc ?_ _ | refine Below.drew ?_ | refine bdrewN ?_ _)))
  simp only [World.size_alloc] at Z0
  obtain ⟨⟨c0,c1,c2,c3,c4,c5,c6,c7,c8,c9⟩,cl⟩:=C0.out
  obtain ⟨⟨x0,x1,x2,x3,x4,x5,x6⟩,d0,dl⟩:=X0.out
  clear hc
  go_enter Tryz.func53,Tryz.ntmps53
  go_wp2_with fail
  with_reducible refine (M.out _).mono ?_
  rintro e w1 ⟨rfl,hb1⟩
  have C1:=Lib.hid (boxC_alloc (boxC_below C0.out hb1) (.cells #[.int .i64 a,.int .i64 b] 34))
  have Z1:=Lib.hid (owp_alloc (owp_below Z0.out hb1) (.cells #[.int .i64 a,.int .i64 b] 34))
  have M1:=Lib.hid (owp_new w1 (a,b) 34)
  have B1:=Lib.hid (balloc (bstep B0.out hb1) (.cells #[.int .i64 a,.int .i64 b] 34))
  clear c0 c1 c2 c3 c4 c5 c6 c7 c8 c9 cl x0 x1 x2 x3 x4 x5 x6 d0 dl C0 Z0 X0 B0 hb1
  obtain ⟨o0,o1,o2,o3,o4⟩:=Z1.out
  have hB:=B1.out
  go_wp2
  refine bodyPost_ret (v:=spr ((0,0),c)) (by rw [results_cell_tmp rfl];go_simp) rfl ⟨rfl,?_⟩
  (repeat' (first | with_reducible exact hB | with_reducible refine Below.drew ?_ | (with_reducible refine Below.setCell ?_ (by simp <;> omega) _)))
set_option maxRecDepth 100000 in
theorem pc_ok (q:Ch) (bx bd:Nat) (x:P3) (D a b:Int) (r:Sp.R) (w:World) (hc:CapX w bx bd x D) (M:Hid (∀ W,Calls Tryz.prog 54 #[pnv q.1.1 q.1.2.1 q.1.2.2,ptv x,.int .i64 D] W fun e w'=>e=.returned (spr ((a,b),0))∧Below W.heap.size W w')) (S:Hid (∀ W,Calls Tryz.prog 23 #[spv a b,.int .i64 q.2] W fun e w'=>e=.returned (spr r)∧Below W.heap.size W w')):Calls Tryz.prog 53 #[chv q,.pointer (some ⟨bx,0,none⟩),.pointer (some ⟨bd,0,none⟩)] w fun e w'=>e=.returned (spr r)∧Below w.heap.size w w':=by
  have C0:=Lib.hid (boxC_alloc (boxC_new w q 65) (.cells #[.int .i64 0,.int .i64 0] 34))
  have Z0:=Lib.hid (owp_new (w.alloc (chb q 65)) (0,0) 34)
  have X0:=Lib.hid (capX_below hc (((Below.refl w.heap.size w).alloc (Nat.le_refl _) (chb q 65)).alloc (by simp) (.cells #[.int .i64 0,.int .i64 0] 34)))
  have B0:=Lib.hid (show Below w.heap.size w ((w.alloc (chb q 65)).alloc (.cells #[.int .i64 0,.int .i64 0] 34)) by (repeat' (first | exact Below.refl _ _ | refine Below.setCell ?_ (by simp <;> omega) _ | refine balloc ?_ _ | refine Below.drew ?_ | refine bdrewN ?_ _)))
  simp only [World.size_alloc] at Z0
  obtain ⟨⟨c0,c1,c2,c3,c4,c5,c6,c7,c8,c9⟩,cl⟩:=C0.out
  obtain ⟨⟨x0,x1,x2,x3,x4,x5,x6⟩,d0,dl⟩:=X0.out
  clear hc
  go_enter Tryz.func53,Tryz.ntmps53
  go_wp2_with fail
  with_reducible refine (M.out _).mono ?_
  rintro e w1 ⟨rfl,hb1⟩
  have C1:=Lib.hid (boxC_alloc (boxC_below C0.out hb1) (.cells #[.int .i64 a,.int .i64 b] 34))
  have Z1:=Lib.hid (owp_alloc (owp_below Z0.out hb1) (.cells #[.int .i64 a,.int .i64 b] 34))
  have M1:=Lib.hid (owp_new w1 (a,b) 34)
  have B1:=Lib.hid (balloc (bstep B0.out hb1) (.cells #[.int .i64 a,.int .i64 b] 34))
  clear c0 c1 c2 c3 c4 c5 c6 c7 c8 c9 cl x0 x1 x2 x3 x4 x5 x6 d0 dl C0 Z0 X0 B0 hb1
  obtain ⟨m0,m1,m2,m3,m4⟩:=M1.out
  obtain ⟨⟨c0,c1,c2,c3,c4,c5,c6,c7,c8,c9⟩,cl⟩:=C1.out
  go_wp2_with fail
  with_reducible refine (S.out _).mono ?_
  rintro e w2 ⟨rfl,hb2⟩
  obtain ⟨o0,o1,o2,o3,o4⟩:=owp_below Z1.out hb2
  have hB:=bstep B1.out hb2
  clear m0 m1 m2 m3 m4 c0 c1 c2 c3 c4 c5 c6 c7 c8 c9 cl
  go_wp2
  refine bodyPost_ret (v:=spr r) (by rw [results_cell_tmp rfl];go_simp) rfl ⟨rfl,?_⟩
  (repeat' (first | with_reducible exact hB | with_reducible refine Below.drew ?_ | (with_reducible refine Below.setCell ?_ (by simp <;> omega) _)))
theorem pc_any (q:Ch) (bx bd:Nat) (x:P3) (D:Int) (w:World) (hc:CapX w bx bd x D):Calls Tryz.prog 53 #[chv q,.pointer (some ⟨bx,0,none⟩),.pointer (some ⟨bd,0,none⟩)] w fun e w'=>e=.returned (spr (potC x D q))∧Below w.heap.size w w':=by
  have M:=fun W=>meani_any q.1 x D W
  unfold potC
  generalize meF false q.1 x D=m at *
  obtain ⟨⟨a,b⟩,c⟩:=m
  by_cases h:c=0
  · subst h
    rw [if_pos rfl]
    exact pc_ok q bx bd x D a b _ w hc (Lib.hid M) (Lib.hid fun W=>scale_any a b q.2 W)
  · rw [if_neg h]
    exact pc_no q bx bd x D a b c w hc (Lib.hid M) (bne_iff_ne.2 h)
set_option maxRecDepth 100000 in
set_option maxHeartbeats 4000000 in
theorem fss_walk (a:Option Addr) (n c:Nat) (Q:Nat→Ch) (bx bd:Nat) (w:World) (g:Nat→Sp.R) (r res:Sp.R) (rr:LstC w a n Q) (hn:n≤96)
    (G:Hid (∀ k,k < n→∀ W,Below w.heap.size w W→Calls Tryz.prog 53 #[chv (Q k),.pointer (some ⟨bx,0,none⟩),.pointer (some ⟨bd,0,none⟩)] W fun e w'=>e=.returned (spr (g k))∧Below W.heap.size W w'))
    (R1:Hid (geN g n ≠ 0→res=((0,0),geN g n))) (R2:Hid (geN g n=0→res=r)) (SM:Hid (geN g n=0→∀ u W,World.ownsRow W 0 34 2 u n (svs (gsN g n))→Calls Tryz.prog 10 #[u] W fun e w'=>e=.returned (spr r)∧Below W.heap.size W w')):Calls Tryz.prog 52 #[.slice a n c,.func (.func 53) #[] #[.pointer (some ⟨bx,0,none⟩),.pointer (some ⟨bd,0,none⟩)]] w fun e w'=>e=.returned (spr res)∧Below w.heap.size w w':=by
  obtain ⟨i0,hi,hz0,hz1,hz2⟩:=info_parts infoSp8
  have HI:=Lib.hid hi
  have HZ0:=Lib.hid hz0
  have HZ1:=Lib.hid hz1
  have HZ2:=Lib.hid hz2
  clear hi hz0 hz1 hz2
  have hn':(n:Int)≤96:=by omega
  have RR:=Lib.hid rr
  have R0:=Lib.hid (owp_new w (0,0) 34)
  have B0:=Lib.hid (show Below w.heap.size w (w.alloc (.cells #[.int .i64 0,.int .i64 0] 34)) from (Below.refl _ w).alloc (Nat.le_refl _) _)
  clear rr
  go_enter Tryz.func52,Tryz.ntmps52
  go_wp2
  have z0:(w.alloc (.cells #[.int .i64 0,.int .i64 0] 34)).heap.size=w.heap.size + 1:=by simp
  generalize w.alloc (.cells #[.int .i64 0,.int .i64 0] 34)=w2 at *
  have Z0:=Lib.hid z0
  have l0:w.heap.size < w2.heap.size:=by omega
  clear z0
  go_loopw [6,13] (fun sv kv wr=>∃ k:Nat,k≤n∧kv=.int .i64 k∧geN g k=0∧wr.ownsRow w2.heap.size 34 2 sv k (svs (gsN g k))∧Below w2.heap.size w2 wr) (fun _ kv _=>n - (intOf kv).toNat)
  case atStart=>exact ⟨0,Nat.zero_le _,rfl,rfl,World.ownsRow_nil _ _ _ _,Below.refl _ _⟩
  case round =>
    obtain ⟨k,hk,rfl,good,how,hbb⟩:=hrel
    have GOOD:=Lib.hid good
    have ROW:=Lib.hid how
    have BB:=Lib.hid hbb
    clear good how hbb
    have szw:=BB.out.size
    by_cases hlt:k < n
    · have hk1:(k:Int) < (n:Int):=by omega
      have hk0:0≤(k:Int):=by omega
      obtain ⟨b,off,rfl,rw0⟩:=RR.out (show 0 < n by omega)
      have hbl:b < w.heap.size:=rw0.1
      have RB:=Lib.hid (rowC_in (rowC_in rw0 B0.out hbl) BB.out (by omega))
      have GK:=Lib.hid (G.out k hlt)
      have HIT:=Lib.hid (fun h:(g k).2 ≠ 0=>geN_hit hlt GOOD.out h)
      have NEXT:=Lib.hid (fun h:(g k).2=0=>geN_next GOOD.out h)
      have GS:=Lib.hid (show gsN g (k + 1)=gsN g k ++ [(g k).1] from rfl)
      have hbr:b < wr.heap.size:=by omega
      obtain ⟨c0,c1,c2,c3,c4,c5,c6,c7,c8,c9⟩:=RB.out.2 k hlt
      generalize Q k=q at *
      generalize g k=gr at *
      have P3:=Lib.hid (boxC_new wr q 65)
      have ZB:=Lib.hid (((Below.refl wr.heap.size wr).alloc (Nat.le_refl _) (chb q 65)))
      have BC:=Lib.hid (show Below w.heap.size w (wr.alloc (chb q 65)) from (B0.out.trans (BB.out.mono (Nat.le_of_lt l0))).trans (ZB.out.mono (by omega)))
      clear rw0 RB
      go_wp2_with fail
      go_at_call 53
      with_reducible refine (GK.out _ BC.out).mono ?_
      rintro e w5 ⟨rfl,hb5⟩
      obtain ⟨⟨u,v⟩,z⟩:=gr
      dsimp only at *
      have BW:=Lib.hid (BB.out.trans ((ZB.out.trans (hb5.mono (by simp))).mono szw))
      have ROWc:=Lib.hid (own_below9 (own_below9 ROW.out ZB.out) hb5)
      have sz5:=BW.out.size
      clear hb5 ROW c0 c1 c2 c3 c4 c5 c6 c7 c8 c9 P3 ZB GK BC
      obtain ⟨e0,e1,e2,e3,el⟩:=pair_new w5 u v 34
      by_cases z0:z=0
      · subst z0
        have NX:=Lib.hid (NEXT.out (by first | rfl | trivial))
        clear HIT NEXT
        have ROWd:=ROWc
        clear ROWc
        have ROWc:=Lib.hid (ROWd.out.alloc (.cells #[.int .i64 u,.int .i64 v] 34))
        have hm60:k + 1≤96:=by omega
        go_wp2_with (at_builtin;(refine wpList_append_own _ rfl _ _ 37 rfl w2.heap.size 34 i0 (.agg #[.int .i64 0,.int .i64 0]) 2 16 Tryz.underlying37 HI.out HZ0.out HZ1.out HZ2.out rfl (by decide) _ k (svs (gsN g k)) rfl (ROWc.out.alloc _) ⟨_,0,none⟩ 1 1 [.int .i64 u,.int .i64 v] rfl rfl (sp2_new' _ _ _ _ _ (by simp)) (by intro u hu;simp at hu;rcases hu with rfl | rfl <;> rfl) (by unfold maxLen;omega) (by omega) (by simp;omega) ?_);intro v' w7 hown' hgrow _;have OW:=Lib.hid hown';have GR:=Lib.hid hgrow;clear hown' hgrow)
        have BG:=Lib.hid (BW.out.trans ((((Below.refl w2.heap.size w5).alloc (by omega) _).alloc (by simp;omega) _).grown GR.out (by simp;omega) (fun gg hg=>(ROWd.out.lt gg hg).1)))
        go_roundw
        case rel=>exact ⟨k + 1,by omega,by go_num,NX.out,by rw [GS.out,← svs_snoc];exact OW.out,BG.out⟩
        case measure=>simp [intOf];omega
      · have z1:(z != 0)=true:=bne_iff_ne.2 z0
        have hf:res=((0,0),z):=by
          have hh:=HIT.out z0
          rw [← hh]
          exact R1.out (by rw [hh];exact z0)
        subst hf
        obtain ⟨g0,g1,g2,g3,gl⟩:=owp_alloc (owp_in R0.out BW.out l0) (.cells #[.int .i64 u,.int .i64 v] 34)
        have hB:=balloc (B0.out.trans (BW.out.mono B0.out.size)) (.cells #[.int .i64 u,.int .i64 v] 34)
        clear HIT NEXT
        go_wp2
        refine bodyPost_ret (v:=spr ((0,0),z)) (by rw [results_cell_tmp rfl];go_simp) rfl ⟨rfl,?_⟩
        (repeat' (first | with_reducible exact hB | with_reducible refine Below.drew ?_ | (with_reducible refine Below.setCell ?_ (by simp <;> omega) _)))
    · obtain rfl:k=n:=by omega
      have hf:=R2.out GOOD.out
      subst hf
      have S1:=Lib.hid (SM.out GOOD.out _ wr (own_base9 ROW.out (Nat.zero_le _)))
      have R3:=Lib.hid (owp_in R0.out BB.out l0)
      have B3:=Lib.hid (B0.out.trans (BB.out.mono B0.out.size))
      go_wp2_with fail
      with_reducible refine S1.out.mono ?_
      rintro e w6 ⟨rfl,hb6⟩
      obtain ⟨g0,g1,g2,g3,gl⟩:=owp_below R3.out hb6
      have hB:=bstep B3.out hb6
      go_wp2
      refine bodyPost_ret (v:=spr res) (by rw [results_cell_tmp rfl];go_simp) rfl ⟨rfl,?_⟩
      (repeat' (first | with_reducible exact hB | with_reducible refine Below.drew ?_ | (with_reducible refine Below.setCell ?_ (by simp <;> omega) _)))
theorem fss_any (a:Option Addr) (n c:Nat) (Q:Nat→Ch) (bx bd:Nat) (x:P3) (D:Int) (w:World) (rr:LstC w a n Q) (hn:n≤96) (hc:CapX w bx bd x D):Calls Tryz.prog 52 #[.slice a n c,.func (.func 53) #[] #[.pointer (some ⟨bx,0,none⟩),.pointer (some ⟨bd,0,none⟩)]] w fun e w'=>e=.returned (spr (sceR (fun k=>potC x D (Q k)) n))∧Below w.heap.size w w':=by
  refine fss_walk a n c Q bx bd w (fun k=>potC x D (Q k)) (smR8 (fun k=>((gsN (fun k=>potC x D (Q k)) n).getD k (0,0)).1) (fun k=>((gsN (fun k=>potC x D (Q k)) n).getD k (0,0)).2) n) _ rr hn (Lib.hid fun k hk W B=>pc_any (Q k) bx bd x D W (capX_below hc B)) (Lib.hid fun h=>?_) (Lib.hid fun h=>?_) (Lib.hid fun h u W ho=>sum8_own u n _ W ho (gsN_len _ _) (by omega))
  · unfold sceR;rw [if_pos h]
  · unfold sceR;rw [if_neg (show ¬ (geN (fun k=>potC x D (Q k)) n ≠ 0) from fun c=>c h)]
set_option maxRecDepth 100000 in
theorem pot_v (a:Option Addr) (n c:Nat) (x:P3) (D:Int) (cc:Int) (w:World) (V:Hid (∀ W,Below w.heap.size w W→Calls Tryz.prog 50 #[.slice a n c] W fun e w'=>e=.returned (.int .i64 cc)∧Below W.heap.size W w')) (z:(cc != 0)=true):Calls Tryz.prog 29 #[.slice a n c,ptv x,.int .i64 D] w fun e w'=>e=.returned (spr ((0,0),cc))∧Below w.heap.size w w':=by
  have X0:=Lib.hid (own_alloc (own_alloc (own_new w x 24) (.cells #[.int .i64 D] 3)) (.cells #[.int .i64 0,.int .i64 0] 34))
  have D0:=Lib.hid (show (((w.alloc (ptc x 24)).alloc (.cells #[.int .i64 D] 3)).alloc (.cells #[.int .i64 0,.int .i64 0] 34)).cell? ⟨w.heap.size + 1,0,none⟩=some (.int .i64 D)∧w.heap.size + 1 < (((w.alloc (ptc x 24)).alloc (.cells #[.int .i64 D] 3)).alloc (.cells #[.int .i64 0,.int .i64 0] 34)).heap.size from ⟨by go_simp,by simp⟩)
  have C0:=Lib.hid (show CapX (((w.alloc (ptc x 24)).alloc (.cells #[.int .i64 D] 3)).alloc (.cells #[.int .i64 0,.int .i64 0] 34)) w.heap.size (w.heap.size + 1) x D from ⟨X0.out,D0.out.1,D0.out.2⟩)
  have Z0:=Lib.hid (owp_new ((w.alloc (ptc x 24)).alloc (.cells #[.int .i64 D] 3)) (0,0) 34)
  simp only [World.size_alloc] at Z0
  have B0:=Lib.hid (show Below w.heap.size w (((w.alloc (ptc x 24)).alloc (.cells #[.int .i64 D] 3)).alloc (.cells #[.int .i64 0,.int .i64 0] 34)) by (repeat' (first | exact Below.refl _ _ | refine Below.setCell ?_ (by simp <;> omega) _ | refine balloc ?_ _ | refine Below.drew ?_ | refine bdrewN ?_ _)))
  clear X0 D0
  go_enter Tryz.func29,Tryz.ntmps29
  go_wp2_with fail
  with_reducible refine (V.out _ B0.out).mono ?_
  rintro e w1 ⟨rfl,hb1⟩
  have C1:=Lib.hid (capX_below C0.out hb1)
  have Z1:=Lib.hid (owp_below Z0.out hb1)
  have B1:=Lib.hid (bstep B0.out hb1)
  clear C0 Z0 B0 hb1
  obtain ⟨o0,o1,o2,o3,o4⟩:=Z1.out
  have hB:=B1.out
  go_wp2
  refine bodyPost_ret (v:=spr ((0,0),cc)) (by rw [results_cell_tmp rfl];go_simp) rfl ⟨rfl,?_⟩
  (repeat' (first | with_reducible exact hB | with_reducible refine Below.drew ?_ | (with_reducible refine Below.setCell ?_ (by simp <;> omega) _)))
set_option maxRecDepth 100000 in
theorem pot_a (a:Option Addr) (n c:Nat) (x:P3) (D:Int) (cc:Int) (w:World) (V:Hid (∀ W,Below w.heap.size w W→Calls Tryz.prog 50 #[.slice a n c] W fun e w'=>e=.returned (.int .i64 0)∧Below W.heap.size W w')) (A:Hid (∀ W,Calls Tryz.prog 51 #[ptv x,.int .i64 D] W fun e w'=>e=.returned (.int .i64 cc)∧Below W.heap.size W w')) (z:(cc != 0)=true):Calls Tryz.prog 29 #[.slice a n c,ptv x,.int .i64 D] w fun e w'=>e=.returned (spr ((0,0),cc))∧Below w.heap.size w w':=by
  have X0:=Lib.hid (own_alloc (own_alloc (own_new w x 24) (.cells #[.int .i64 D] 3)) (.cells #[.int .i64 0,.int .i64 0] 34))
  have D0:=Lib.hid (show (((w.alloc (ptc x 24)).alloc (.cells #[.int .i64 D] 3)).alloc (.cells #[.int .i64 0,.int .i64 0] 34)).cell? ⟨w.heap.size + 1,0,none⟩=some (.int .i64 D)∧w.heap.size + 1 < (((w.alloc (ptc x 24)).alloc (.cells #[.int .i64 D] 3)).alloc (.cells #[.int .i64 0,.int .i64 0] 34)).heap.size from ⟨by go_simp,by simp⟩)
  have C0:=Lib.hid (show CapX (((w.alloc (ptc x 24)).alloc (.cells #[.int .i64 D] 3)).alloc (.cells #[.int .i64 0,.int .i64 0] 34)) w.heap.size (w.heap.size + 1) x D from ⟨X0.out,D0.out.1,D0.out.2⟩)
  have Z0:=Lib.hid (owp_new ((w.alloc (ptc x 24)).alloc (.cells #[.int .i64 D] 3)) (0,0) 34)
  simp only [World.size_alloc] at Z0
  have B0:=Lib.hid (show Below w.heap.size w (((w.alloc (ptc x 24)).alloc (.cells #[.int .i64 D] 3)).alloc (.cells #[.int .i64 0,.int .i64 0] 34)) by (repeat' (first | exact Below.refl _ _ | refine Below.setCell ?_ (by simp <;> omega) _ | refine balloc ?_ _ | refine Below.drew ?_ | refine bdrewN ?_ _)))
  clear X0 D0
  go_enter Tryz.func29,Tryz.ntmps29
  go_wp2_with fail
  with_reducible refine (V.out _ B0.out).mono ?_
  rintro e w1 ⟨rfl,hb1⟩
  have C1:=Lib.hid (capX_below C0.out hb1)
  have Z1:=Lib.hid (owp_below Z0.out hb1)
  have B1:=Lib.hid (bstep B0.out hb1)
  clear C0 Z0 B0 hb1
  obtain ⟨⟨x0,x1,x2,x3,x4,x5,x6⟩,d0,dl⟩:=C1.out
  go_wp2_with fail
  with_reducible refine (A.out _).mono ?_
  rintro e w2 ⟨rfl,hb2⟩
  have C2:=Lib.hid (capX_below C1.out hb2)
  have Z2:=Lib.hid (owp_below Z1.out hb2)
  have B2:=Lib.hid (bstep B1.out hb2)
  clear x0 x1 x2 x3 x4 x5 x6 d0 dl C1 Z1 B1 hb2
  obtain ⟨o0,o1,o2,o3,o4⟩:=Z2.out
  have hB:=B2.out
  go_wp2
  refine bodyPost_ret (v:=spr ((0,0),cc)) (by rw [results_cell_tmp rfl];go_simp) rfl ⟨rfl,?_⟩
  (repeat' (first | with_reducible exact hB | with_reducible refine Below.drew ?_ | (with_reducible refine Below.setCell ?_ (by simp <;> omega) _)))
set_option maxRecDepth 100000 in
theorem pot_ok (a:Option Addr) (n c:Nat) (x:P3) (D:Int) (r:Sp.R) (w:World) (V:Hid (∀ W,Below w.heap.size w W→Calls Tryz.prog 50 #[.slice a n c] W fun e w'=>e=.returned (.int .i64 0)∧Below W.heap.size W w')) (A:Hid (∀ W,Calls Tryz.prog 51 #[ptv x,.int .i64 D] W fun e w'=>e=.returned (.int .i64 0)∧Below W.heap.size W w'))
    (SSH:Hid (∀ W bx bd,Below w.heap.size w W→CapX W bx bd x D→Calls Tryz.prog 52 #[.slice a n c,.func (.func 53) #[] #[.pointer (some ⟨bx,0,none⟩),.pointer (some ⟨bd,0,none⟩)]] W fun e w'=>e=.returned (spr r)∧Below W.heap.size W w')):Calls Tryz.prog 29 #[.slice a n c,ptv x,.int .i64 D] w fun e w'=>e=.returned (spr r)∧Below w.heap.size w w':=by
  have X0:=Lib.hid (own_alloc (own_alloc (own_new w x 24) (.cells #[.int .i64 D] 3)) (.cells #[.int .i64 0,.int .i64 0] 34))
  have D0:=Lib.hid (show (((w.alloc (ptc x 24)).alloc (.cells #[.int .i64 D] 3)).alloc (.cells #[.int .i64 0,.int .i64 0] 34)).cell? ⟨w.heap.size + 1,0,none⟩=some (.int .i64 D)∧w.heap.size + 1 < (((w.alloc (ptc x 24)).alloc (.cells #[.int .i64 D] 3)).alloc (.cells #[.int .i64 0,.int .i64 0] 34)).heap.size from ⟨by go_simp,by simp⟩)
  have C0:=Lib.hid (show CapX (((w.alloc (ptc x 24)).alloc (.cells #[.int .i64 D] 3)).alloc (.cells #[.int .i64 0,.int .i64 0] 34)) w.heap.size (w.heap.size + 1) x D from ⟨X0.out,D0.out.1,D0.out.2⟩)
  have Z0:=Lib.hid (owp_new ((w.alloc (ptc x 24)).alloc (.cells #[.int .i64 D] 3)) (0,0) 34)
  simp only [World.size_alloc] at Z0
  have B0:=Lib.hid (show Below w.heap.size w (((w.alloc (ptc x 24)).alloc (.cells #[.int .i64 D] 3)).alloc (.cells #[.int .i64 0,.int .i64 0] 34)) by (repeat' (first | exact Below.refl _ _ | refine Below.setCell ?_ (by simp <;> omega) _ | refine balloc ?_ _ | refine Below.drew ?_ | refine bdrewN ?_ _)))
  clear X0 D0
  go_enter Tryz.func29,Tryz.ntmps29
  go_wp2_with fail
  with_reducible refine (V.out _ B0.out).mono ?_
  rintro e w1 ⟨rfl,hb1⟩
  have C1:=Lib.hid (capX_below C0.out hb1)
  have Z1:=Lib.hid (owp_below Z0.out hb1)
  have B1:=Lib.hid (bstep B0.out hb1)
  clear C0 Z0 B0 hb1
  obtain ⟨⟨x0,x1,x2,x3,x4,x5,x6⟩,d0,dl⟩:=C1.out
  go_wp2_with fail
  with_reducible refine (A.out _).mono ?_
  rintro e w2 ⟨rfl,hb2⟩
  have C2:=Lib.hid (capX_below C1.out hb2)
  have Z2:=Lib.hid (owp_below Z1.out hb2)
  have B2:=Lib.hid (bstep B1.out hb2)
  clear x0 x1 x2 x3 x4 x5 x6 d0 dl C1 Z1 B1 hb2
  go_wp2_with fail
  with_reducible refine (SSH.out _ _ _ B2.out C2.out).mono ?_
  rintro e w3 ⟨rfl,hb3⟩
  obtain ⟨o0,o1,o2,o3,o4⟩:=owp_below Z2.out hb3
  have hB:=bstep B2.out hb3
  go_wp2
  refine bodyPost_ret (v:=spr r) (by rw [results_cell_tmp rfl];go_simp) rfl ⟨rfl,?_⟩
  (repeat' (first | with_reducible exact hB | with_reducible refine Below.drew ?_ | (with_reducible refine Below.setCell ?_ (by simp <;> omega) _)))
theorem pot_any (a:Option Addr) (n c:Nat) (Q:Nat→Ch) (x:P3) (D:Int) (w:World) (rr:LstC w a n Q) (hn:n≤140737488355328):Calls Tryz.prog 29 #[.slice a n c,ptv x,.int .i64 D] w fun e w'=>e=.returned (spr (potF n Q x D))∧Below w.heap.size w w':=by
  have V:=fun W (B:Below w.heap.size w W)=>fvc_any a n c Q W (lstC_below rr B) hn
  have A:=fun W=>cka_any x D W
  unfold potF
  by_cases z:ccode n Q=0
  · rw [if_pos z]
    rw [z] at V
    have h96:n≤96:=by
      unfold ccode at z
      by_cases y:96 < n
      · rw [if_pos y] at z;cases z
      · omega
    by_cases y:akc x D=0
    · rw [if_pos y]
      rw [y] at A
      exact pot_ok a n c x D _ w (Lib.hid V) (Lib.hid A) (Lib.hid fun W bx bd B hc=>fss_any a n c Q bx bd x D W (lstC_below rr B) h96 hc)
    · rw [if_neg y]
      exact pot_a a n c x D _ w (Lib.hid V) (Lib.hid A) (bne_iff_ne.2 y)
  · rw [if_neg z]
    exact pot_v a n c x D _ w (Lib.hid V) (bne_iff_ne.2 z)
end Go.Proofs.YtgchcnpgjfoadaaGreat
