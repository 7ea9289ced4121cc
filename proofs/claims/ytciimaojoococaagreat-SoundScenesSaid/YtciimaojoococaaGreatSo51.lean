import Derived.Test.YtciimaojoococaaGreatSo50
namespace Go.Proofs.YtciimaojoococaaGreat
open Go.ChangeShapes Go.WideShapes Go.RowKit
open Sh
set_option maxRecDepth 100000 in
set_option maxHeartbeats 4000000 in
theorem rtot_v (a:Option Addr) (n c:Nat) (x:P3) (D:Int) (vc:Int) (w:World) (V:Hid (∀ W,Below w.heap.size w W→Calls Tryz.prog 20 #[.slice a n c] W fun e w'=>e=.returned (.int .i64 vc)∧Below W.heap.size W w')) (z:(vc != 0)=true):Calls Tryz.prog 9 #[.slice a n c,ptv x,.int .i64 D] w fun e w'=>e=.returned (spr ((0,0),vc))∧Below w.heap.size w w':=by
  have X0:=Lib.hid (own_alloc (own_new w x 24) (.cells #[.int .i64 0,.int .i64 0] 29))
  have R0:=Lib.hid (pair_new (w.alloc (ptc x 24)) 0 0 29)
  have B0:=Lib.hid (show Below w.heap.size w ((w.alloc (ptc x 24)).alloc (.cells #[.int .i64 0,.int .i64 0] 29)) by (repeat' (first | exact Below.refl _ _ | refine Below.setCell ?_ (by simp <;> omega) _ | refine balloc ?_ _ | refine Below.drew ?_ | refine bdrewN ?_ _)))
  simp only [World.size_alloc] at R0
  go_enter Tryz.func9,Tryz.ntmps9
  go_wp2_with fail
  refine (V.out _ B0.out).mono ?_
  rintro e w1 ⟨rfl,hb1⟩
  have X1:=Lib.hid (own_below X0.out hb1)
  have R1:=Lib.hid (pair_below R0.out hb1)
  have B1:=Lib.hid (bstep B0.out hb1)
  have s1:w.heap.size + 1 < w1.heap.size:=by have:=hb1.size;simp at this;omega
  clear hb1 X0 R0 B0
  obtain ⟨g0,g1,g2,g3,gl⟩:=R1.out
  have hB:=B1.out
  go_wp2
  refine bodyPost_ret (v:=spr ((0,0),vc)) (by rw [results_cell_tmp rfl];go_simp) rfl ⟨rfl,?_⟩
  (repeat' (first | with_reducible exact hB | with_reducible refine Below.drew ?_ | (with_reducible refine balloc ?_ _) | (with_reducible refine Below.setCell ?_ (by simp <;> omega) _)))
set_option maxRecDepth 100000 in
set_option maxHeartbeats 4000000 in
theorem rtot_a (a:Option Addr) (n c:Nat) (x:P3) (D:Int) (ac:Int) (w:World) (V:Hid (∀ W,Below w.heap.size w W→Calls Tryz.prog 20 #[.slice a n c] W fun e w'=>e=.returned (.int .i64 0)∧Below W.heap.size W w')) (A:Hid (∀ W,Calls Tryz.prog 21 #[ptv x,.int .i64 1,.int .i64 0,.int .i64 D] W fun e w'=>e=.returned (.int .i64 ac)∧Below W.heap.size W w')) (z:(ac != 0)=true):Calls Tryz.prog 9 #[.slice a n c,ptv x,.int .i64 D] w fun e w'=>e=.returned (spr ((0,0),ac))∧Below w.heap.size w w':=by
  have X0:=Lib.hid (own_alloc (own_new w x 24) (.cells #[.int .i64 0,.int .i64 0] 29))
  have R0:=Lib.hid (pair_new (w.alloc (ptc x 24)) 0 0 29)
  have B0:=Lib.hid (show Below w.heap.size w ((w.alloc (ptc x 24)).alloc (.cells #[.int .i64 0,.int .i64 0] 29)) by (repeat' (first | exact Below.refl _ _ | refine Below.setCell ?_ (by simp <;> omega) _ | refine balloc ?_ _ | refine Below.drew ?_ | refine bdrewN ?_ _)))
  simp only [World.size_alloc] at R0
  go_enter Tryz.func9,Tryz.ntmps9
  go_wp2_with fail
  refine (V.out _ B0.out).mono ?_
  rintro e w1 ⟨rfl,hb1⟩
  have X1:=Lib.hid (own_below X0.out hb1)
  have R1:=Lib.hid (pair_below R0.out hb1)
  have B1:=Lib.hid (bstep B0.out hb1)
  have s1:w.heap.size + 1 < w1.heap.size:=by have:=hb1.size;simp at this;omega
  clear hb1 X0 R0 B0
  obtain ⟨x0,x1,x2⟩:=own_cells X1.out
  go_wp2_with fail
  refine (A.out _).mono ?_
  rintro e w2 ⟨rfl,hb2⟩
  have X2:=Lib.hid (own_below X1.out hb2)
  have R2:=Lib.hid (pair_below R1.out hb2)
  have B2:=Lib.hid (bstep B1.out hb2)
  have l1:w.heap.size + 1 < w2.heap.size:=Nat.lt_of_lt_of_le s1 hb2.size
  have l0:w.heap.size < w2.heap.size:=by omega
  clear x0 x1 x2 hb2 X1 R1 B1
  obtain ⟨g0,g1,g2,g3,gl⟩:=R2.out
  have hB:=B2.out
  go_wp2
  refine bodyPost_ret (v:=spr ((0,0),ac)) (by rw [results_cell_tmp rfl];go_simp) rfl ⟨rfl,?_⟩
  (repeat' (first | with_reducible exact hB | with_reducible refine Below.drew ?_ | (with_reducible refine balloc ?_ _) | (with_reducible refine Below.setCell ?_ (by simp <;> omega) _)))
theorem rto_keep {W:World} {b8 b off k n:Nat} {u v:Int} {Q:Nat→Pu} {q:Pu} (h:Pair W b8 u v) (r:RowU W b off n Q) (hk:k < n) (e:Q k=q):W.cell? ⟨b8,0,none⟩=some (.int .i64 u)∧W.cell? ⟨b8,1,none⟩=some (.int .i64 v)∧W.cell? ⟨b,off + k * 11 + 1 + 1 + 1 + 1 + 1 + 1 + 1 + 1 + 1 + 1,none⟩=some (.int .i64 q.2.2):=by
  subst e
  exact ⟨h.1,h.2.1,(r.2 k hk).2.2.2.2.2.2.2.2.2.2⟩
set_option maxRecDepth 100000 in
set_option maxHeartbeats 4000000 in
theorem rtot_ok (a:Option Addr) (n c:Nat) (x:P3) (D:Int) (Q:Nat→Pu) (m p g:Nat→Sp.R) (r res:Sp.R) (w:World) (V:Hid (∀ W,Below w.heap.size w W→Calls Tryz.prog 20 #[.slice a n c] W fun e w'=>e=.returned (.int .i64 0)∧Below W.heap.size W w')) (A:Hid (∀ W,Calls Tryz.prog 21 #[ptv x,.int .i64 1,.int .i64 0,.int .i64 D] W fun e w'=>e=.returned (.int .i64 0)∧Below W.heap.size W w')) (rr:LstU w a n Q) (hn:n≤16)
    (MN:Hid (∀ k,k < n→∀ W,Calls Tryz.prog 26 #[p9v (Q k).1,ptv x,.int .i64 D] W fun e w'=>e=.returned (spr (m k))∧Below W.heap.size W w'))
    (SC:Hid (∀ k,k < n→∀ W,Calls Tryz.prog 27 #[spv (m k).1.1 (m k).1.2,.int .i64 (Q k).2.2] W fun e w'=>e=.returned (spr (p k))∧Below W.heap.size W w'))
    (E1:Hid (∀ k,(m k).2 ≠ 0→(g k).2=(m k).2)) (E2:Hid (∀ k,(m k).2=0→g k=p k))
    (RES1:Hid (geN g n ≠ 0→res=((0,0),geN g n))) (RES2:Hid (geN g n=0→res=r)) (SM:Hid (geN g n=0→∀ u W,World.ownsRow W 0 29 2 u n (svs (gsN g n))→Calls Tryz.prog 28 #[u] W fun e w'=>e=.returned (spr r)∧Below W.heap.size W w')):Calls Tryz.prog 9 #[.slice a n c,ptv x,.int .i64 D] w fun e w'=>e=.returned (spr res)∧Below w.heap.size w w':=by
  obtain ⟨i0,hi,hz0,hz1,hz2⟩:=info_parts infoSp8
  have HI:=Lib.hid hi
  have HZ0:=Lib.hid hz0
  have HZ1:=Lib.hid hz1
  have HZ2:=Lib.hid hz2
  clear hi hz0 hz1 hz2
  have hn':(n:Int)≤16:=by omega
  have RR:=Lib.hid rr
  clear rr
  have X0:=Lib.hid (own_alloc (own_new w x 24) (.cells #[.int .i64 0,.int .i64 0] 29))
  have R0:=Lib.hid (pair_new (w.alloc (ptc x 24)) 0 0 29)
  have B0:=Lib.hid (show Below w.heap.size w ((w.alloc (ptc x 24)).alloc (.cells #[.int .i64 0,.int .i64 0] 29)) by (repeat' (first | exact Below.refl _ _ | refine Below.setCell ?_ (by simp <;> omega) _ | refine balloc ?_ _ | refine Below.drew ?_ | refine bdrewN ?_ _)))
  simp only [World.size_alloc] at R0
  go_enter Tryz.func9,Tryz.ntmps9
  go_wp2_with fail
  refine (V.out _ B0.out).mono ?_
  rintro e w1 ⟨rfl,hb1⟩
  have X1:=Lib.hid (own_below X0.out hb1)
  have R1:=Lib.hid (pair_below R0.out hb1)
  have B1:=Lib.hid (bstep B0.out hb1)
  have s1:w.heap.size + 1 < w1.heap.size:=by have:=hb1.size;simp at this;omega
  clear hb1 X0 R0 B0
  obtain ⟨x0,x1,x2⟩:=own_cells X1.out
  go_wp2_with fail
  refine (A.out _).mono ?_
  rintro e w2 ⟨rfl,hb2⟩
  have X2:=Lib.hid (own_below X1.out hb2)
  have R2:=Lib.hid (pair_below R1.out hb2)
  have B2:=Lib.hid (bstep B1.out hb2)
  have l1:w.heap.size + 1 < w2.heap.size:=Nat.lt_of_lt_of_le s1 hb2.size
  have l0:w.heap.size < w2.heap.size:=by omega
  clear x0 x1 x2 hb2 X1 R1 B1
  go_wp2
  go_loopw [9,10] (fun sv kv wr=>∃ k:Nat,k≤n∧kv=.int .i64 k∧geN g k=0∧wr.ownsRow w2.heap.size 29 2 sv k (svs (gsN g k))∧Below w2.heap.size w2 wr) (fun _ kv _=>n - (intOf kv).toNat)
  case atStart=>exact ⟨0,Nat.zero_le _,rfl,rfl,World.ownsRow_nil _ _ _ _,Below.refl _ _⟩
  case round =>
    obtain ⟨k,hk,rfl,good,how,hbb⟩:=hrel
    have GOOD:=Lib.hid good
    have ROW:=Lib.hid how
    have BB:=Lib.hid hbb
    clear good how hbb
    have szw:=BB.out.size
    by_cases hlt:k < n
    · have hk1:(k:Int) < (n:Int):=by omega
      obtain ⟨b,off,rfl,rw0⟩:=RR.out (show 0 < n by omega)
      have hbl:b < w.heap.size:=rw0.1
      have RB:=Lib.hid (rowU_in (rowU_in rw0 B2.out hbl) BB.out (by omega))
      have MW:=Lib.hid (own_in' X2.out BB.out l0)
      have GK:=Lib.hid (MN.out k hlt)
      have SK:=Lib.hid (SC.out k hlt)
      have HIT:=Lib.hid (fun h:(g k).2 ≠ 0=>geN_hit hlt GOOD.out h)
      have NEXT:=Lib.hid (fun h:(g k).2=0=>geN_next GOOD.out h)
      have GS:=Lib.hid (show gsN g (k + 1)=gsN g k ++ [(g k).1] from rfl)
      have F1:=Lib.hid (E1.out k)
      have F2:=Lib.hid (E2.out k)
      have hbr:b < wr.heap.size:=by omega
      obtain ⟨q,hq⟩:∃ q,Q k=q:=⟨_,rfl⟩
      rw [hq] at GK SK
      generalize g k=gr at *
      generalize m k=mr at *
      generalize p k=pr at *
      clear rw0
      go_upto_region 11 with fail
      go_cut [11,12] (fun t20 t21 wx=>∃ b8:Nat,t20=.pointer (some ⟨b8,0,none⟩)∧t21=.int .i64 mr.2∧Pair wx b8 mr.1.1 mr.1.2∧wr.heap.size≤b8∧Below wr.heap.size wr wx)
      case first =>
        have j0:=own_drew MW.out
        have j1:=rowU_in RB.out (Below.drew (Below.refl wr.heap.size wr)) hbr
        go_region_held3 (fun w'=>w'.cell? ⟨b,off + k * 11,none⟩=some (.int .i64 q.1.1.1)∧w'.cell? ⟨b,off + k * 11 + 1,none⟩=some (.int .i64 q.1.1.2.1)∧w'.cell? ⟨b,off + k * 11 + 1 + 1,none⟩=some (.int .i64 q.1.1.2.2)∧w'.cell? ⟨b,off + k * 11 + 1 + 1 + 1,none⟩=some (.int .i64 q.1.2.1.1)∧w'.cell? ⟨b,off + k * 11 + 1 + 1 + 1 + 1,none⟩=some (.int .i64 q.1.2.1.2.1)∧w'.cell? ⟨b,off + k * 11 + 1 + 1 + 1 + 1 + 1,none⟩=some (.int .i64 q.1.2.1.2.2)∧w'.cell? ⟨b,off + k * 11 + 1 + 1 + 1 + 1 + 1 + 1,none⟩=some (.int .i64 q.1.2.2.1)∧w'.cell? ⟨b,off + k * 11 + 1 + 1 + 1 + 1 + 1 + 1 + 1,none⟩=some (.int .i64 q.1.2.2.2.1)∧w'.cell? ⟨b,off + k * 11 + 1 + 1 + 1 + 1 + 1 + 1 + 1 + 1,none⟩=some (.int .i64 q.1.2.2.2.2)∧w'.cell? ⟨b,off + k * 11 + 1 + 1 + 1 + 1 + 1 + 1 + 1 + 1 + 1,none⟩=some (.int .i64 q.2.1)∧w'.cell? ⟨b,off + k * 11 + 1 + 1 + 1 + 1 + 1 + 1 + 1 + 1 + 1 + 1,none⟩=some (.int .i64 q.2.2)∧w'.cell? ⟨w.heap.size,0,none⟩=some (.int .i64 x.1)∧w'.cell? ⟨w.heap.size,1,none⟩=some (.int .i64 x.2.1)∧w'.cell? ⟨w.heap.size,2,none⟩=some (.int .i64 x.2.2))
          (first | (refine rsc_keep j0 j1 hlt hq) | (refine rsc_keep q0 q1 hlt hq) | (refine rsc_keep (own_drew (own_alloc MW.out _)) (rowU_in RB.out (Below.drew ((Below.refl _ _).alloc (Nat.le_refl _) _)) hbr) hlt hq) | (refine rsc_keep (own_alloc q0 _) (rowU_in q1 ((Below.refl v0.heap.size v0).alloc (Nat.le_refl _) _) q1.1) hlt hq) | (refine rsc_keep (own_in' q0 (((Below.refl wr.heap.size v0).setCell (p:=⟨wr.heap.size,0,none⟩) (Nat.le_refl _) _).setCell (p:=⟨wr.heap.size,1,none⟩) (Nat.le_refl _) _) (by omega)) (rowU_in q1 (((Below.refl wr.heap.size v0).setCell (p:=⟨wr.heap.size,0,none⟩) (Nat.le_refl _) _).setCell (p:=⟨wr.heap.size,1,none⟩) (Nat.le_refl _) _) hbr) hlt hq) | fail)
          (first | (go_at_call 26;(with_reducible refine (GK.out _).mono ?_);rintro e v0 ⟨rfl,hv0⟩;(first | (have q0:=own_below j0 hv0;have q1:=rowU_in j1 hv0 hbr;have sz0:wr.heap.size≤v0.heap.size:=hv0.size) | (have q0:=own_below (own_drew (own_alloc MW.out _)) hv0;have q1:=rowU_in RB.out ((Below.drew ((Below.refl _ _).alloc (Nat.le_refl _) _)).trans (hv0.mono (by simp))) hbr;have sz0:wr.heap.size + 1≤v0.heap.size:=(by have:=hv0.size;simp at this;omega);have pz:=pair_below (pair_drew' (pair_new wr 0 0 29)) hv0;obtain ⟨za,zb,zc,zd,ze⟩:=id pz))) | fail)
        all_goals
          go_wp2
          go_meet
          first
            | exact ⟨_,rfl,rfl,pair_new _ _ _ _,sz0,by (repeat' (first | exact Below.refl _ _ | refine bstep ?_ hv0 | refine Below.setCell ?_ (by simp <;> omega) _ | refine balloc ?_ _ | refine Below.drew ?_))⟩
            | exact ⟨_,rfl,rfl,pair_put8 pz _ _,Nat.le_refl _,by (repeat' (first | exact Below.refl _ _ | refine bstep ?_ hv0 | refine Below.setCell ?_ (by simp <;> omega) _ | refine balloc ?_ _ | refine Below.drew ?_))⟩
      case rest =>
        obtain ⟨b8,rfl,rfl,hP,hb8,hB8⟩:=hcut
        have BC:=Lib.hid hB8
        have PP:=Lib.hid hP
        have szc:=hB8.size
        have RBc:=Lib.hid (rowU_in RB.out hB8 hbr)
        have hbc:b < wc.heap.size:=Nat.lt_of_lt_of_le hbr szc
        clear hP hB8 MW GK RB
        obtain ⟨⟨u,v⟩,z⟩:=mr
        dsimp only at *
        by_cases z0:z=0
        · subst z0
          have EQ:=F2.out (by first | rfl | trivial)
          subst EQ
          clear F1 F2
          go_upto_region 14 with fail
          go_cut [12] (fun t12 wx=>t12=.int .i64 gr.2∧Pair wx b8 gr.1.1 gr.1.2∧Below wr.heap.size wr wx)
          case first =>
            obtain ⟨c1,c2,c3⟩:=rto_keep (pair_drew' PP.out) (rowU_in RBc.out (Below.drew (Below.refl wc.heap.size wc)) hbc) hlt hq
            change wc.cell? _=_ at c1
            change wc.cell? _=_ at c2
            change wc.cell? _=_ at c3
            go_region_law (first | (go_simp;go_at_call 27;(with_reducible refine (SK.out _).mono ?_);rintro e v1 ⟨rfl,hv1⟩;have PV:=Lib.hid (pair_below (pair_drew' PP.out) hv1);have BV:=Lib.hid ((Below.drew BC.out).trans (hv1.mono szc));clear hv1;obtain ⟨o0,o1,o2,o3,o4⟩:=PV.out) | fail)
            all_goals
              go_wp2
              go_meet
              exact ⟨rfl,pair_put8 PV.out _ _,(BV.out.setCell (p:=⟨b8,0,none⟩) hb8 _).setCell (p:=⟨b8,1,none⟩) hb8 _⟩
          case rest =>
            obtain ⟨rfl,hP2,hB2⟩:=hcut
            have BW:=Lib.hid (BB.out.trans (hB2.mono szw))
            have ROWc:=Lib.hid (own_below9 ROW.out hB2)
            have hszc:w2.heap.size≤wc.heap.size:=Nat.le_trans szw hB2.size
            obtain ⟨p0,p1,p2,p3,p4⟩:=hP2
            clear hB2 BB ROW RBc SK PP BC
            obtain ⟨⟨u,v⟩,z⟩:=gr
            dsimp only at *
            by_cases z0:z=0
            · subst z0
              have NX:=Lib.hid (NEXT.out (by first | rfl | trivial))
              clear HIT NEXT
              have hm60:k + 1≤16:=by omega
              go_wp2_with (at_builtin;(refine wpList_append_own _ rfl _ _ 60 rfl w2.heap.size 29 i0 (.agg #[.int .i64 0,.int .i64 0]) 2 16 Tryz.underlying60 HI.out HZ0.out HZ1.out HZ2.out rfl (by decide) _ k (svs (gsN g k)) rfl (ROWc.out.alloc _) ⟨_,0,none⟩ 1 1 [.int .i64 u,.int .i64 v] rfl rfl (sp2_new' _ _ _ _ _ (by simp)) (by intro u hu;simp at hu;rcases hu with rfl | rfl <;> rfl) (by unfold maxLen;omega) (by omega) (by simp;omega) ?_);intro v' w7 hown' hgrow _;have OW:=Lib.hid hown';have GR:=Lib.hid hgrow;clear hown' hgrow)
              have BG:=Lib.hid (BW.out.trans (((Below.refl w2.heap.size wc).alloc (by omega) _).grown GR.out (by simp;omega) (fun gg hg=>(ROWc.out.lt gg hg).1)))
              go_roundw
              case rel=>exact ⟨k + 1,by omega,by go_num,NX.out,by rw [GS.out,← svs_snoc];exact OW.out,BG.out⟩
              case measure=>simp [intOf];omega
            · have z1:(z != 0)=true:=bne_iff_ne.2 z0
              have hf:res=((0,0),z):=by
                have hh:=HIT.out z0
                rw [← hh]
                exact RES1.out (by rw [hh];exact z0)
              subst hf
              clear HIT NEXT
              obtain ⟨g0,g1,g2,g3,gl⟩:=pair_in R2.out BW.out l1
              have hB:=B2.out.trans (BW.out.mono B2.out.size)
              go_wp2
              refine bodyPost_ret (v:=spr ((0,0),z)) (by rw [results_cell_tmp rfl];go_simp) rfl ⟨rfl,?_⟩
              (repeat' (first | with_reducible exact hB | with_reducible refine Below.drew ?_ | (with_reducible refine balloc ?_ _) | (with_reducible refine Below.setCell ?_ (by simp <;> omega) _)))
        · have z1:(z != 0)=true:=bne_iff_ne.2 z0
          have e1:=F1.out z0
          have hf:res=((0,0),z):=by
            have hh:=HIT.out (by rw [e1];exact z0)
            rw [e1] at hh
            rw [← hh]
            exact RES1.out (by rw [hh];exact z0)
          subst hf
          have BW:=Lib.hid (BB.out.trans (BC.out.mono szw))
          clear HIT NEXT F1 F2 e1
          obtain ⟨g0,g1,g2,g3,gl⟩:=pair_in R2.out BW.out l1
          have hB:=B2.out.trans (BW.out.mono B2.out.size)
          go_wp2
          refine bodyPost_ret (v:=spr ((0,0),z)) (by rw [results_cell_tmp rfl];go_simp) rfl ⟨rfl,?_⟩
          (repeat' (first | with_reducible exact hB | with_reducible refine Below.drew ?_ | (with_reducible refine balloc ?_ _) | (with_reducible refine Below.setCell ?_ (by simp <;> omega) _)))
    · obtain rfl:k=n:=by omega
      have hf:=RES2.out GOOD.out
      subst hf
      have UV:=Lib.hid (own_base9 ROW.out (Nat.zero_le _))
      have SM0:=Lib.hid (SM.out GOOD.out)
      have Q4:=Lib.hid (pair_in R2.out BB.out l1)
      clear HI HZ0 HZ1 HZ2 ROW RES1 RES2 GOOD SM X2 R2 MN SC E1 E2
      go_wp2_with fail
      refine (SM0.out _ _ UV.out).mono ?_
      rintro e w5 ⟨rfl,hb5⟩
      obtain ⟨g0,g1,g2,g3,gl⟩:=pair_below Q4.out hb5
      have hB:=(B2.out.trans (BB.out.mono B2.out.size)).trans (hb5.mono (Nat.le_trans B2.out.size szw))
      go_wp2
      refine bodyPost_ret (v:=spr res) (by rw [results_cell_tmp rfl];go_simp) rfl ⟨rfl,?_⟩
      (repeat' (first | with_reducible exact hB | with_reducible refine Below.drew ?_ | (with_reducible refine balloc ?_ _) | (with_reducible refine Below.setCell ?_ (by simp <;> omega) _)))
theorem rtot_any (a:Option Addr) (n c:Nat) (Q:Nat→Pu) (x:P3) (D:Int) (w:World) (rr:LstU w a n Q) (hn:n≤140737488355328):Calls Tryz.prog 9 #[.slice a n c,ptv x,.int .i64 D] w fun e w'=>e=.returned (spr (totR n Q x D))∧Below w.heap.size w w':=by
  have V:=fun W (B:Below w.heap.size w W)=>rsvp_any a n c Q W (lstU_below rr B) hn
  have A:=fun W=>ask_any x 1 0 D W
  rw [ac_akc] at A
  unfold totR
  by_cases z:vpcode n Q=0
  · rw [if_pos z]
    rw [z] at V
    by_cases y:akc x D=0
    · rw [if_pos y]
      rw [y] at A
      have h16:=(vpk_ok z).1
      refine rtot_ok a n c x D Q (fun k=>meF false (Q k).1 x D) (fun k=>scaleR (meF false (Q k).1 x D).1.1 (meF false (Q k).1 x D).1.2 (Q k).2.2) (fun k=>potC x D (chp (Q k))) (smR8 (fun k=>((gsN (fun k=>potC x D (chp (Q k))) n).getD k (0,0)).1) (fun k=>((gsN (fun k=>potC x D (chp (Q k))) n).getD k (0,0)).2) n) _ w (Lib.hid V) (Lib.hid A) rr h16
        (Lib.hid fun k _ W=>rmeanf_any (Q k).1 x D W) (Lib.hid fun k _ W=>rscale_any _ _ _ W) (Lib.hid fun k h=>?_) (Lib.hid fun k h=>?_) (Lib.hid fun h=>?_) (Lib.hid fun h=>?_) (Lib.hid fun h u W ho=>rsum8_own u n _ W ho (gsN_len _ _) (by omega))
      · unfold potC
        rw [if_neg h]
      · exact if_pos h
      · unfold sceR;rw [if_pos h]
      · unfold sceR;rw [if_neg (show ¬ (geN (fun k=>potC x D (chp (Q k))) n ≠ 0) from fun c=>c h)]
    · rw [if_neg y]
      exact rtot_a a n c x D _ w (Lib.hid V) (Lib.hid A) (bne_iff_ne.2 y)
  · rw [if_neg z]
    exact rtot_v a n c x D _ w (Lib.hid V) (bne_iff_ne.2 z)
end Go.Proofs.YtciimaojoococaaGreat
