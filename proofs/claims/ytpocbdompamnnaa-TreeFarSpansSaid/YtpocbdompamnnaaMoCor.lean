import Derived.Test.YtpocbdompamnnaaMoL
namespace Go.Proofs.Ytpocbdompamnnaa
open Go.ChangeShapes Go.WideShapes Go.RowKit
open Sh
theorem own_l {w:World} {b:Nat} {a:P3} (h:OwnL w b [a.1,a.2.1,a.2.2]):Own w b a :=
  ⟨(h.2 0 _ rfl).1,(h.2 1 _ rfl).1,(h.2 2 _ rfl).1,(h.2 0 _ rfl).2,(h.2 1 _ rfl).2,(h.2 2 _ rfl).2,h.1⟩
theorem pan_lt4 {w:World} {q:Nat} {a b c:P3} (h:Pan w q a b c):q < w.heap.size:=h.2.2.2.2.2.2.2.2.2
theorem ownL_lt {w:World} {b:Nat} {xs:List Int} (h:OwnL w b xs):b < w.heap.size:=h.1
def cork (p a b c:P3):Nat→List Int
  | 0=>[a.1,a.2.1,a.2.2,b.1,b.2.1,b.2.2,c.1,c.2.1,c.2.2]
  | 1=>[(sub a p).1,(sub a p).2.1,(sub a p).2.2,b.1,b.2.1,b.2.2,c.1,c.2.1,c.2.2]
  | 2=>[(sub a p).1,(sub a p).2.1,(sub a p).2.2,(sub b p).1,(sub b p).2.1,(sub b p).2.2,c.1,c.2.1,c.2.2]
  | _=>[(sub a p).1,(sub a p).2.1,(sub a p).2.2,(sub b p).1,(sub b p).2.1,(sub b p).2.2,(sub c p).1,(sub c p).2.1,(sub c p).2.2]
abbrev nine0:List Int:=[0,0,0,0,0,0,0,0,0]
def COR (w wx:World) (r:Nat) (l:List Int) (p:P3):Prop :=
  OwnL wx r l∧Own wx w.heap.size p∧OwnL wx (w.heap.size + 1 + 1) nine0∧Below w.heap.size w wx∧w.heap.size + 1 + 1 < r
theorem cor_new {w v:World} (a b c p:P3) (t:TypeId) (h1:Own v w.heap.size p) (h2:OwnL v (w.heap.size + 1 + 1) nine0) (h3:Below w.heap.size w v):COR w (v.alloc (pnc a b c t)) v.heap.size (cork p a b c 0) p :=
  ⟨ownL_new9 v a.1 a.2.1 a.2.2 b.1 b.2.1 b.2.2 c.1 c.2.1 c.2.2 t,own_alloc h1 _,ownL_alloc h2 _,balloc h3 _,h2.1⟩
theorem cor_put {w v:World} {r:Nat} (a b c p:P3) (oo:OwnL v r [0,0,0,0,0,0,0,0,0]) (h1:Own v w.heap.size p) (h2:OwnL v (w.heap.size + 1 + 1) nine0) (h3:Below w.heap.size w v) (l:w.heap.size + 1 + 1 < r) :
    COR w (((((((((v.setCell ⟨r,0,none⟩ (.int .i64 a.1)).setCell ⟨r,1,none⟩ (.int .i64 a.2.1)).setCell ⟨r,2,none⟩ (.int .i64 a.2.2)).setCell ⟨r,3,none⟩ (.int .i64 b.1)).setCell ⟨r,4,none⟩ (.int .i64 b.2.1)).setCell ⟨r,5,none⟩ (.int .i64 b.2.2)).setCell ⟨r,6,none⟩ (.int .i64 c.1)).setCell ⟨r,7,none⟩ (.int .i64 c.2.1)).setCell ⟨r,8,none⟩ (.int .i64 c.2.2)) r (cork p a b c 0) p:=by
  have e:OwnL (((((((((v.setCell ⟨r,0,none⟩ (.int .i64 a.1)).setCell ⟨r,1,none⟩ (.int .i64 a.2.1)).setCell ⟨r,2,none⟩ (.int .i64 a.2.2)).setCell ⟨r,3,none⟩ (.int .i64 b.1)).setCell ⟨r,4,none⟩ (.int .i64 b.2.1)).setCell ⟨r,5,none⟩ (.int .i64 b.2.2)).setCell ⟨r,6,none⟩ (.int .i64 c.1)).setCell ⟨r,7,none⟩ (.int .i64 c.2.1)).setCell ⟨r,8,none⟩ (.int .i64 c.2.2)) r (cork p a b c 0):=(ownL_put (ownL_put (ownL_put (ownL_put (ownL_put (ownL_put (ownL_put (ownL_put (ownL_put oo a.1 (by simp)) a.2.1 (by simp)) a.2.2 (by simp)) b.1 (by simp)) b.2.1 (by simp)) b.2.2 (by simp)) c.1 (by simp)) c.2.1 (by simp)) c.2.2 (by simp))
  refine ⟨e,?_,?_,?_,l⟩
  · (repeat with_reducible refine own_set ?_ (by omega));exact h1
  · (repeat with_reducible refine ownL_set ?_ (by omega));exact h2
  · (repeat with_reducible refine below_set1 ?_ (by omega));exact h3
theorem cor_mv {w v:World} {r:Nat} {l l':List Int} {p:P3} (h:COR w v r l p) (o:Nat) (d:P3) (hl:l.length=9) (ho:o + 2 < 9) (e:((l.set o d.1).set (o + 1) d.2.1).set (o + 2) d.2.2=l') :
    COR w (((v.setCell ⟨r,o,none⟩ (.int .i64 d.1)).setCell ⟨r,o + 1,none⟩ (.int .i64 d.2.1)).setCell ⟨r,o + 2,none⟩ (.int .i64 d.2.2)) r l' p:=by
  obtain ⟨h1,h2,h3,h4,h5⟩:=h
  subst e
  refine ⟨ownL_put (ownL_put (ownL_put h1 d.1 (by omega)) d.2.1 (by simp;omega)) d.2.2 (by simp;omega),?_,?_,?_,h5⟩
  · (repeat with_reducible refine own_set ?_ (by omega));exact h2
  · (repeat with_reducible refine ownL_set ?_ (by omega));exact h3
  · (repeat with_reducible refine below_set1 ?_ (by omega));exact h4
theorem cor_below {w v v1:World} {r:Nat} {l:List Int} {p:P3} (h:COR w v r l p) (hb:Below v.heap.size v v1):COR w v1 r l p :=
  ⟨ownL_below h.1 hb,own_below h.2.1 hb,ownL_below h.2.2.1 hb,bstep h.2.2.2.1 hb,h.2.2.2.2⟩
theorem cor_drew {w v:World} {r:Nat} {l:List Int} {p:P3} (h:COR w v r l p):COR w v.drew r l p:=⟨h.1,h.2.1,h.2.2.1,Below.drew h.2.2.2.1,h.2.2.2.2⟩
set_option maxRecDepth 100000 in
set_option maxHeartbeats 4000000 in
theorem cor_any (p a b c:P3) (w:World) (hp:BdP 64 p) (ha:BdP 64 a) (hb:BdP 64 b) (hc:BdP 64 c) :
    Calls Try.prog 82 #[ptv p,pnv a b c] w fun e w'=>e=.returned (pnv (sub a p) (sub b p) (sub c p))∧Below w.heap.size w w':=by
  have PL:∀ v:P3,BdP 64 v→Hid (∀ W,Calls Try.prog 102 #[ptv v,.int .i64 (-1),ptv p] W fun e w'=>e=.returned (ptv (sub v p))∧Below W.heap.size W w'):=fun v hv=>Lib.hid (fun W=>by
    have z:=vpl_any v p (-1) W ((tim_bd (K:=1) (by decide) (by decide) hp).mono (by decide)) (by rw [sub_neg];exact (sub_bd hv hp).mono (by decide))
    rw [sub_neg] at z
    exact z)
  have P0:=PL a ha
  have P1:=PL b hb
  have P2:=PL c hc
  clear PL ha hb hc hp
  go_enter Try.func82,Try.ntmps82
  go_upto_region 1 with fail
  go_cut [5] (fun t5 wx=>∃ r:Nat,t5=.pointer (some ⟨r,0,none⟩)∧COR w wx r (cork p a b c 0) p)
  case first =>
    have N0:=(pan_alloc (pan_new (w.alloc (ptc p 109)) a b c 73) (.cells #[.int .i64 0,.int .i64 0,.int .i64 0,.int .i64 0,.int .i64 0,.int .i64 0,.int .i64 0,.int .i64 0,.int .i64 0] 111))
    have N1:=(own_alloc (own_alloc (own_new w p 109) (pnc a b c 73)) (.cells #[.int .i64 0,.int .i64 0,.int .i64 0,.int .i64 0,.int .i64 0,.int .i64 0,.int .i64 0,.int .i64 0,.int .i64 0] 111))
    have N2:=(ownL_new9 ((w.alloc (ptc p 109)).alloc (pnc a b c 73)) 0 0 0 0 0 0 0 0 0 111)
    have N3:=(balloc (balloc (balloc (Below.refl _ w) (ptc p 109)) (pnc a b c 73)) (.cells #[.int .i64 0,.int .i64 0,.int .i64 0,.int .i64 0,.int .i64 0,.int .i64 0,.int .i64 0,.int .i64 0,.int .i64 0] 111))
    simp only [World.size_alloc] at N0 N2
    have Q0:=pan_drew N0
    have Q1:=own_drew N1
    have Q2:=ownL_drew N2
    have Q3:=Below.drew N3
    go_region_held3 (fun w'=>w'.cell? ⟨w.heap.size + 1,0,none⟩=some (.int .i64 a.1)∧w'.cell? ⟨w.heap.size + 1,1,none⟩=some (.int .i64 a.2.1)∧w'.cell? ⟨w.heap.size + 1,2,none⟩=some (.int .i64 a.2.2)∧w'.cell? ⟨w.heap.size + 1,3,none⟩=some (.int .i64 b.1)∧w'.cell? ⟨w.heap.size + 1,4,none⟩=some (.int .i64 b.2.1)∧w'.cell? ⟨w.heap.size + 1,5,none⟩=some (.int .i64 b.2.2)∧w'.cell? ⟨w.heap.size + 1,6,none⟩=some (.int .i64 c.1)∧w'.cell? ⟨w.heap.size + 1,7,none⟩=some (.int .i64 c.2.1)∧w'.cell? ⟨w.heap.size + 1,8,none⟩=some (.int .i64 c.2.2))
      (first | (refine pan_cells ?_;with_reducible assumption) | (refine pan_cells ?_;with_reducible refine pan_alloc ?_ _;with_reducible assumption) | (refine pan_cells ?_;with_reducible refine pan_drew ?_;with_reducible refine pan_alloc ?_ _;with_reducible assumption) | (refine pan_cells ?_;((repeat with_reducible refine pan_set ?_ (by omega));(first | with_reducible assumption | (with_reducible refine pan_alloc ?_ _;with_reducible assumption)))) | fail)
      (first | (go_at_call 100;(with_reducible refine (vof_any a _).mono ?_);rintro e v0 ⟨rfl,hv0⟩;(first | with_reducible (have q0_0:=pan_below Q0 hv0) | with_reducible (have q0_0:=pan_below (pan_alloc Q0 _) hv0) | with_reducible (have q0_0:=pan_below (pan_drew (pan_alloc N0 _)) hv0) | fail);have sz0:=pan_lt4 q0_0;(first | with_reducible (have q0_1:=own_below Q1 hv0) | with_reducible (have q0_1:=own_below (own_alloc Q1 _) hv0) | with_reducible (have q0_1:=own_below (own_drew (own_alloc N1 _)) hv0) | fail);(first | with_reducible (have q0_2:=ownL_below Q2 hv0) | with_reducible (have q0_2:=ownL_below (ownL_alloc Q2 _) hv0) | with_reducible (have q0_2:=ownL_below (ownL_drew (ownL_alloc N2 _)) hv0) | fail);(first | with_reducible (have q0_3:=below_step Q3 hv0 Q3.size) | with_reducible (have q0_3:=below_step (balloc Q3 _) hv0 (balloc Q3 _).size) | with_reducible (have q0_3:=below_step (Below.drew (balloc N3 _)) hv0 (Below.drew (balloc N3 _)).size) | fail);(first | with_reducible (have oo:=ownL_below oo hv0) | with_reducible (have oo:=ownL_below (ownL_new9 _ 0 0 0 0 0 0 0 0 0 _) hv0) | with_reducible (have oo:=ownL_below (ownL_drew (ownL_new9 _ 0 0 0 0 0 0 0 0 0 _)) hv0) | skip);(try simp only [World.size_alloc] at oo)) | (go_at_call 100;(with_reducible refine (vof_any b _).mono ?_);rintro e v1 ⟨rfl,hv1⟩;(first | with_reducible (have q1_0:=pan_below q0_0 hv1) | with_reducible (have q1_0:=pan_below (pan_alloc q0_0 _) hv1) | fail);have sz1:=pan_lt4 q1_0;(first | with_reducible (have q1_1:=own_below q0_1 hv1) | with_reducible (have q1_1:=own_below (own_alloc q0_1 _) hv1) | fail);(first | with_reducible (have q1_2:=ownL_below q0_2 hv1) | with_reducible (have q1_2:=ownL_below (ownL_alloc q0_2 _) hv1) | fail);(first | with_reducible (have q1_3:=below_step q0_3 hv1 q0_3.size) | with_reducible (have q1_3:=below_step (balloc q0_3 _) hv1 (balloc q0_3 _).size) | fail);(first | with_reducible (have oo:=ownL_below oo hv1) | with_reducible (have oo:=ownL_below (ownL_new9 _ 0 0 0 0 0 0 0 0 0 _) hv1) | with_reducible (have oo:=ownL_below (ownL_drew (ownL_new9 _ 0 0 0 0 0 0 0 0 0 _)) hv1) | skip);(try simp only [World.size_alloc] at oo)) | (go_at_call 100;(with_reducible refine (vof_any c _).mono ?_);rintro e v2 ⟨rfl,hv2⟩;(first | with_reducible (have q2_0:=pan_below q1_0 hv2) | with_reducible (have q2_0:=pan_below (pan_alloc q1_0 _) hv2) | fail);have sz2:=pan_lt4 q2_0;(first | with_reducible (have q2_1:=own_below q1_1 hv2) | with_reducible (have q2_1:=own_below (own_alloc q1_1 _) hv2) | fail);(first | with_reducible (have q2_2:=ownL_below q1_2 hv2) | with_reducible (have q2_2:=ownL_below (ownL_alloc q1_2 _) hv2) | fail);(first | with_reducible (have q2_3:=below_step q1_3 hv2 q1_3.size) | with_reducible (have q2_3:=below_step (balloc q1_3 _) hv2 (balloc q1_3 _).size) | fail);(first | with_reducible (have oo:=ownL_below oo hv2) | with_reducible (have oo:=ownL_below (ownL_new9 _ 0 0 0 0 0 0 0 0 0 _) hv2) | with_reducible (have oo:=ownL_below (ownL_drew (ownL_new9 _ 0 0 0 0 0 0 0 0 0 _)) hv2) | skip);(try simp only [World.size_alloc] at oo);(first | (have o1:=ownL_cells9 oo;have o2:=ownL_free9 oo;have o3:=oo.1;obtain ⟨x0,x1,x2,x3,x4,x5,x6,x7,x8⟩:=o1;obtain ⟨y0,y1,y2,y3,y4,y5,y6,y7,y8⟩:=o2) | skip)) | fail)
    all_goals
      go_wp2
      go_meet
      first
        | with_reducible exact ⟨_,rfl,cor_put a b c p oo q2_1 q2_2 q2_3 (ownL_lt q1_2)⟩
        | with_reducible exact ⟨_,rfl,cor_put a b c p oo q2_1 q2_2 q2_3 (ownL_lt q0_2)⟩
        | with_reducible exact ⟨_,rfl,cor_put a b c p oo q2_1 q2_2 q2_3 (by omega)⟩
        | with_reducible exact ⟨_,rfl,cor_new a b c p _ q2_1 q2_2 q2_3⟩
        | fail
  case rest =>
    obtain ⟨r,rfl,st⟩:=hcut
    have ST:=Lib.hid st
    have LR:=Lib.hid st.2.2.2.2
    clear st
    go_wp2
    go_loopw [17] (fun kv wr=>∃ k:Nat,k≤3∧kv=.int .i64 k∧COR w wr r (cork p a b c k) p) (fun kv _=>3 - (intOf kv).toNat)
    case atStart=>exact ⟨0,Nat.zero_le _,rfl,ST.out⟩
    case round =>
      clear ST
      obtain ⟨k,hk,rfl,st⟩:=hrel
      have SS:=Lib.hid (cor_drew st)
      have h2:=st.2.1
      obtain ⟨t1,t2,t3,t4,t5,t6,t7⟩:=h2
      have hc:k=0∨k=1∨k=2∨k=3:=by omega
      rcases hc with rfl | rfl | rfl | rfl
      · obtain ⟨x0,x1,x2,x3,x4,x5,x6,x7,x8⟩:=ownL_cells9 st.1
        obtain ⟨y0,y1,y2,y3,y4,y5,y6,y7,y8⟩:=ownL_free9 st.1
        have y9:=st.1.1
        clear st
        go_wp2
        go_region_with (first | (go_at_call 102;(with_reducible refine (P0.out _).mono ?_);rintro e v1 ⟨rfl,hv1⟩;have S1:=Lib.hid (cor_below SS.out hv1);clear x0 x1 x2 x3 x4 x5 x6 x7 x8 y0 y1 y2 y3 y4 y5 y6 y7 y8 y9 t1 t2 t3 t4 t5 t6 t7 hv1;obtain ⟨x0,x1,x2,x3,x4,x5,x6,x7,x8⟩:=ownL_cells9 S1.out.1;obtain ⟨y0,y1,y2,y3,y4,y5,y6,y7,y8⟩:=ownL_free9 S1.out.1) | fail)
        all_goals
          go_wp2
          go_roundw
          case rel=>exact ⟨1,by omega,by go_num,cor_mv S1.out 0 (sub a p) rfl (by omega) rfl⟩
          case measure=>simp [intOf]
      · obtain ⟨x0,x1,x2,x3,x4,x5,x6,x7,x8⟩:=ownL_cells9 st.1
        obtain ⟨y0,y1,y2,y3,y4,y5,y6,y7,y8⟩:=ownL_free9 st.1
        have y9:=st.1.1
        clear st
        go_wp2
        go_region_with (first | (go_at_call 102;(with_reducible refine (P1.out _).mono ?_);rintro e v1 ⟨rfl,hv1⟩;have S1:=Lib.hid (cor_below SS.out hv1);clear x0 x1 x2 x3 x4 x5 x6 x7 x8 y0 y1 y2 y3 y4 y5 y6 y7 y8 y9 t1 t2 t3 t4 t5 t6 t7 hv1;obtain ⟨x0,x1,x2,x3,x4,x5,x6,x7,x8⟩:=ownL_cells9 S1.out.1;obtain ⟨y0,y1,y2,y3,y4,y5,y6,y7,y8⟩:=ownL_free9 S1.out.1) | fail)
        all_goals
          go_wp2
          go_roundw
          case rel=>exact ⟨2,by omega,by go_num,cor_mv S1.out 3 (sub b p) rfl (by omega) rfl⟩
          case measure=>simp [intOf]
      · obtain ⟨x0,x1,x2,x3,x4,x5,x6,x7,x8⟩:=ownL_cells9 st.1
        obtain ⟨y0,y1,y2,y3,y4,y5,y6,y7,y8⟩:=ownL_free9 st.1
        have y9:=st.1.1
        clear st
        go_wp2
        go_region_with (first | (go_at_call 102;(with_reducible refine (P2.out _).mono ?_);rintro e v1 ⟨rfl,hv1⟩;have S1:=Lib.hid (cor_below SS.out hv1);clear x0 x1 x2 x3 x4 x5 x6 x7 x8 y0 y1 y2 y3 y4 y5 y6 y7 y8 y9 t1 t2 t3 t4 t5 t6 t7 hv1;obtain ⟨x0,x1,x2,x3,x4,x5,x6,x7,x8⟩:=ownL_cells9 S1.out.1;obtain ⟨y0,y1,y2,y3,y4,y5,y6,y7,y8⟩:=ownL_free9 S1.out.1) | fail)
        all_goals
          go_wp2
          go_roundw
          case rel=>exact ⟨3,by omega,by go_num,cor_mv S1.out 6 (sub c p) rfl (by omega) rfl⟩
          case measure=>simp [intOf]
      · obtain ⟨x0,x1,x2,x3,x4,x5,x6,x7,x8⟩:=ownL_cells9 st.1
        obtain ⟨y0,y1,y2,y3,y4,y5,y6,y7,y8⟩:=ownL_free9 st.1
        have y9:=st.1.1
        have h3:=st.2.2.1
        unfold nine0 at h3
        obtain ⟨d0,d1,d2,d3,d4,d5,d6,d7,d8⟩:=ownL_cells9 h3
        obtain ⟨e0,e1,e2,e3,e4,e5,e6,e7,e8⟩:=ownL_free9 h3
        have B:=Lib.hid st.2.2.2.1
        clear st t1 t2 t3 t4 t5 t6 t7 h3
        go_wp2
        refine bodyPost_ret (v:=pnv (sub a p) (sub b p) (sub c p)) (by rw [results_cell rfl];go_simp) rfl ⟨rfl,?_⟩
        (repeat with_reducible refine below_set1 ?_ (by omega))
        exact B.out
end Go.Proofs.Ytpocbdompamnnaa
