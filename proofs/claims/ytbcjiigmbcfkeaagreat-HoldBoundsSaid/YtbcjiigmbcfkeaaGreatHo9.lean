import Derived.Test.YtbcjiigmbcfkeaaGreatHo8
import Derived.Test.YtbcjiigmbcfkeaaGreatFgMi
import Derived.Test.YtbcjiigmbcfkeaaGreatShN
import Derived.Deep.RegionLaw
namespace Go.Proofs.YtbcjiigmbcfkeaaGreat
open Go.ChangeShapes Go.WideShapes Go.RowKit
open Sh
theorem infoTb:(Tryz.prog.info? 34).map (fun i=>(i.zero,i.size,i.bytes))=some (some (.slice none 0 0),1,24):=by kernel_rfl
def TabP (w:World) (g n k:Nat) (f:Nat→Nat→Int × Int):Prop:=g<w.heap.size∧(∀ j,j<k→∃ b cap,g<b∧w.cell? ⟨g,j,none⟩=some (.slice (some ⟨b,0,none⟩) n cap)∧Row w b 0 n (fun i=>(f j i).1) (fun i=>(f j i).2)) ∧
  (∀ j,j<n→w.frozen? ⟨g,j,none⟩=false)∧(∀ j,k≤j→j<n→w.cell? ⟨g,j,none⟩=some (.slice none 0 0))
def TabQ (w:World) (g n k N:Nat) (f:Nat→Nat→Int × Int) (sv:Value):Prop:=(g<N∧N≤w.heap.size)∧(∀ j,j<k→∃ b cap,b<N∧g<b∧w.cell? ⟨g,j,none⟩=some (.slice (some ⟨b,0,none⟩) n cap)∧Row w b 0 n (fun i=>(f j i).1) (fun i=>(f j i).2)) ∧
  (∀ j,j<n→w.frozen? ⟨g,j,none⟩=false)∧(∀ j,k<j→j<n→w.cell? ⟨g,j,none⟩=some (.slice none 0 0))∧w.cell? ⟨g,k,none⟩=some sv
theorem row_in7 {w w1:World} {B b off n:Nat} {l h:Nat→Int} (r:Row w b off n l h) (hb:Below B w w1) (hB:b<B):Row w1 b off n l h :=
  ⟨Nat.lt_of_lt_of_le r.1 hb.size,fun k hk=>⟨(hb.cell (p:=⟨b,off+k*2,none⟩) hB).trans (r.2 k hk).1,(hb.cell (p:=⟨b,off+k*2+1,none⟩) hB).trans (r.2 k hk).2⟩⟩
theorem pan_in7 {w w1:World} {B q:Nat} {a b c:P3} (h:Pan w q a b c) (hb:Below B w w1) (hq:q<B):Pan w1 q a b c:=by
  obtain ⟨h1,h2,h3,h4,h5,h6,h7,h8,h9,h0⟩:=h
  exact ⟨(hb.cell (p:=⟨q,0,none⟩) hq).trans h1,(hb.cell (p:=⟨q,1,none⟩) hq).trans h2,(hb.cell (p:=⟨q,2,none⟩) hq).trans h3,(hb.cell (p:=⟨q,3,none⟩) hq).trans h4,(hb.cell (p:=⟨q,4,none⟩) hq).trans h5,(hb.cell (p:=⟨q,5,none⟩) hq).trans h6,(hb.cell (p:=⟨q,6,none⟩) hq).trans h7,(hb.cell (p:=⟨q,7,none⟩) hq).trans h8,(hb.cell (p:=⟨q,8,none⟩) hq).trans h9,Nat.lt_of_lt_of_le h0 hb.size⟩
theorem pan_set7 {w:World} {q g:Nat} {a b c:P3} (h:Pan w q a b c) (hq:g ≠ q) (i:Nat) (v:Value):Pan (w.setCell ⟨g,i,none⟩ v) q a b c:=by
  obtain ⟨h1,h2,h3,h4,h5,h6,h7,h8,h9,h0⟩:=h
  exact ⟨by go_simp,by go_simp,by go_simp,by go_simp,by go_simp,by go_simp,by go_simp,by go_simp,by go_simp,by simpa using h0⟩
theorem tabP_in {w w1:World} {g n k:Nat} {f:Nat→Nat→Int × Int} (h:TabP w g n k f) (hb:Below w.heap.size w w1):TabP w1 g n k f:=by
  obtain ⟨h0,h1,h2,h3⟩:=h
  refine ⟨Nat.lt_of_lt_of_le h0 hb.size,fun j hj=>?_,fun j hj=>(hb.frozen (p:=⟨g,j,none⟩) h0).trans (h2 j hj),fun j hj hn=>(hb.cell (p:=⟨g,j,none⟩) h0).trans (h3 j hj hn)⟩
  obtain ⟨b,cap,x,y,z⟩:=h1 j hj
  exact ⟨b,cap,x,(hb.cell (p:=⟨g,j,none⟩) h0).trans y,row_below z hb⟩
theorem tabQ_of {w:World} {g n k:Nat} {f:Nat→Nat→Int × Int} (h:TabP w g n k f) (hk:k<n) (o:Obj):TabQ (w.alloc o) g n k (w.heap.size+1) f (.slice none 0 0):=by
  obtain ⟨h0,h1,h2,h3⟩:=tabP_in h ((Below.refl _ _).alloc (Nat.le_refl _) o)
  have:=h.1
  refine ⟨⟨by omega,by simp⟩,fun j hj=>?_,h2,fun j hj hn=>h3 j (by omega) hn,h3 k (Nat.le_refl _) hk⟩
  obtain ⟨b,cap,x,y,z⟩:=h1 j hj
  have:=z.1
  simp only [World.size_alloc] at this
  exact ⟨b,cap,this,x,y,z⟩
theorem tabQ_in {w w1:World} {g n k N:Nat} {f:Nat→Nat→Int × Int} {sv:Value} (h:TabQ w g n k N f sv) (hb:Below N w w1):TabQ w1 g n k N f sv:=by
  obtain ⟨⟨h0,h9⟩,h1,h2,h3,h4⟩:=h
  refine ⟨⟨h0,Nat.le_trans h9 hb.size⟩,fun j hj=>?_,fun j hj=>(hb.frozen (p:=⟨g,j,none⟩) h0).trans (h2 j hj),fun j hj hn=>(hb.cell (p:=⟨g,j,none⟩) h0).trans (h3 j hj hn),(hb.cell (p:=⟨g,k,none⟩) h0).trans h4⟩
  obtain ⟨b,cap,l,x,y,z⟩:=h1 j hj
  exact ⟨b,cap,l,x,(hb.cell (p:=⟨g,j,none⟩) h0).trans y,row_in7 z hb l⟩
theorem tabQ_set {w:World} {g n k N:Nat} {f:Nat→Nat→Int × Int} {sv:Value} (h:TabQ w g n k N f sv) (sv':Value):TabQ (w.setCell ⟨g,k,none⟩ sv') g n k N f sv':=by
  obtain ⟨⟨h0,h9⟩,h1,h2,h3,h4⟩:=h
  refine ⟨⟨h0,by simpa using h9⟩,fun j hj=>?_,fun j hj=>?_,fun j hj hn=>?_,by go_simp⟩
  · obtain ⟨b,cap,l,x,y,z1,z2⟩:=h1 j hj
    have e:¬ (k=j):=by omega
    have e2:¬ (g=b):=by omega
    refine ⟨b,cap,l,x,by go_simp,by simpa using z1,fun i hi=>?_⟩
    obtain ⟨c0,c1⟩:=z2 i hi
    simp only [Nat.zero_add] at c0 c1 ⊢
    exact ⟨by go_simp,by go_simp⟩
  · have:=h2 j hj
    go_simp
  · have e:¬ (k=j):=by omega
    have:=h3 j hj hn
    go_simp
theorem tabP_of {w:World} {g n k N q cap:Nat} {f:Nat→Nat→Int × Int} (h:TabQ w g n k N f (.slice (some ⟨q,0,none⟩) n cap)) (r:Row w q 0 n (fun i=>(f k i).1) (fun i=>(f k i).2)) (hq:g<q):TabP w g n (k+1) f:=by
  obtain ⟨⟨h0,h9⟩,h1,h2,h3,h4⟩:=h
  refine ⟨by omega,fun j hj=>?_,h2,fun j hj hn=>h3 j (by omega) hn⟩
  by_cases e:j=k
  · subst e;exact ⟨q,cap,hq,h4,r⟩
  · obtain ⟨b,cp,_,x,y,z⟩:=h1 j (by omega)
    exact ⟨b,cp,x,y,z⟩
theorem tabM_of {w:World} {g n:Nat} {f:Nat→Nat→Int × Int} (h:TabP w g n n f):TabM w g n f:=⟨h.1,fun j hj=>by
  exact h.2.1 j hj⟩
theorem tabP_make (w:World) (n:Nat) (hn:n≤1000000):∃ w',(Instr.makeSlice 69 (.int .i64 (n:Int)) (.int .i64 (n:Int))).run Tryz.prog w=.ok (.slice (some ⟨w.heap.size,0,none⟩) n n) w'∧(∀ f,TabP w' w.heap.size n 0 f)∧w.grownBy w' none:=by
  obtain ⟨i0,hi,hz0,hz1,hz2⟩:=info_parts infoTb
  obtain ⟨w',h1,h2,h3⟩:=run_make_full (P:=Tryz.prog) w 0 69 34 i0 (.slice none 0 0) 1 Tryz.underlying69 hi hz0 hz1 .i64 .i64 n (by rw [hz2];omega) (by unfold maxLen;omega) (Nat.zero_le _)
  have hlt:w.heap.size<w'.heap.size:=by
    rcases h2.2 with ⟨h',_⟩|⟨g',cap',cur,h',_,hg,_⟩
    · simp at h'
    · simp only [Value.slice.injEq,Option.some.injEq,Addr.mk.injEq,and_true] at h'
      obtain ⟨rfl,_⟩:=h'
      exact (Array.getElem?_eq_some_iff.1 hg).1
  refine ⟨w',h1,fun f=>⟨hlt,fun j hj=>absurd hj (Nat.not_lt_zero j),fun j hj=>h2.frozenAt _,fun j _ hj=>?_⟩,h3⟩
  rw [h2.cellAt j (by omega)]
  simp [madeCells,Value.cells,hj,Nat.mod_one]
set_option maxRecDepth 100000 in
set_option maxHeartbeats 4000000 in
theorem htb_any (a:Option Addr) (np c:Nat) (a':Option Addr) (nf c':Nat) (D:Int) (n:Nat) (T:Nat→P9) (f:Nat→Nat→Int × Int) (w:World) (h0:0<n) (hn:n≤96)
    (PP:Hid (∀ W,Below w.heap.size w W→Calls Tryz.prog 103 #[msv a np c a' nf c'] W fun e w'=>∃ q cap,e=.returned (.tuple #[.slice (some ⟨q,0,none⟩) n cap,.int .i64 0])∧Row9 w' q n T∧Below W.heap.size W w'))
    (SC:Hid (∀ i j,i<n→j<n→∀ W,Calls Tryz.prog 55 #[pnv (T i).1 (T i).2.1 (T i).2.2,pnv (T j).1 (T j).2.1 (T j).2.2,.int .i64 D] W fun e w'=>e=.returned (spr (f j i,0))∧Below W.heap.size W w')) :
    Calls Tryz.prog 54 #[msv a np c a' nf c',.int .i64 D,.func (.func 55) #[] #[]] w fun e w'=>∃ g cap,e=.returned (.tuple #[.slice (some ⟨g,0,none⟩) n cap,.int .i64 0])∧TabM w' g n f∧w.heap.size≤g∧Below w.heap.size w w':=by
  obtain ⟨i0,hi,hz0,hz1,hz2⟩:=info_parts infoSp8
  have HI:=Lib.hid hi
  have HZ0:=Lib.hid hz0
  have HZ1:=Lib.hid hz1
  have HZ2:=Lib.hid hz2
  have hn':(n:Int)≤96:=by omega
  have B0:=Lib.hid (show Below w.heap.size w (w.alloc (msc a np c a' nf c' 25)) from balloc (Below.refl _ w) _)
  obtain ⟨m0,m1,ml⟩:=mes_new w a np c a' nf c' 25
  clear hi hz0 hz1 hz2
  go_enter Tryz.func54,Tryz.ntmps54
  go_wp2_with fail
  with_reducible refine (PP.out _ B0.out).mono ?_
  rintro e w1 ⟨q,cap,rfl,rp,hb1⟩
  have RP:=Lib.hid rp
  have B1:=Lib.hid (bstep B0.out hb1)
  have lq:q<w1.heap.size:=rp.1
  obtain ⟨w2,hmk,hB,hg⟩:=tabP_make w1 n (by omega)
  have T2:=Lib.hid (hB f)
  have B2:=Lib.hid ((Below.refl w1.heap.size w1).grown hg (Nat.le_refl _) (fun k hk=>by cases hk))
  have l2:=(hB f).1
  clear hb1 rp m0 m1 ml B0 PP hB hg
  go_wp2
  clear hmk
  go_loopw [30] (fun kv wr=>∃ k:Nat,k≤n∧kv=.int .i64 k∧TabP wr w1.heap.size n k f∧Below w1.heap.size w1 wr) (fun kv _=>n - (intOf kv).toNat)
  case atStart=>exact ⟨0,Nat.zero_le _,rfl,T2.out,B2.out⟩
  case round =>
    obtain ⟨k,hk,rfl,tp,bb⟩:=hrel
    have TP:=Lib.hid tp
    have BB:=Lib.hid bb
    have szw:=bb.size
    have lg:=tp.1
    clear tp bb T2 B2 l2
    by_cases hlt:k<n
    · have hk1:(k:Int)<(n:Int):=by omega
      have hk0:0≤(k:Int):=by omega
      have r9:=row9_in RP.out BB.out lq
      obtain ⟨c0,c1,c2,c3,c4,c5,c6,c7,c8⟩:=r9.2 k hlt
      have l9:=r9.1
      obtain ⟨tq,htq⟩:∃ t,T k=t:=⟨_,rfl⟩
      rw [htq] at c0 c1 c2 c3 c4 c5 c6 c7 c8
      have SK:=Lib.hid (fun i (hi:i<n)=>htq ▸ SC.out i k hi hlt)
      have PN:=Lib.hid (pan_new wr tq.1 tq.2.1 tq.2.2 77)
      have TQ:=Lib.hid (tabQ_of TP.out hlt (pnc tq.1 tq.2.1 tq.2.2 77))
      have BQ:=Lib.hid (show Below w1.heap.size w1 (wr.alloc (pnc tq.1 tq.2.1 tq.2.2 77)) from BB.out.alloc szw _)
      clear r9 htq
      go_wp2
      clear c0 c1 c2 c3 c4 c5 c6 c7 c8
      obtain ⟨wo,hwo⟩:∃ wo:World,wo=wr:=⟨_,rfl⟩
      subst hwo
      go_loopw [37] (fun kv ws=>∃ (i:Nat) (sv:Value),i≤n∧kv=.int .i64 i∧TabQ ws w1.heap.size n k (wo.heap.size+1) f sv∧ws.ownsRow (wo.heap.size+1) 39 2 sv i (svs (lsF (f k) i))∧Pan ws wo.heap.size tq.1 tq.2.1 tq.2.2∧Below w1.heap.size w1 ws) (fun kv _=>n - (intOf kv).toNat)
      case atStart=>exact ⟨0,_,Nat.zero_le _,rfl,TQ.out,World.ownsRow_nil _ _ _ _,PN.out,BQ.out⟩
      case round =>
        obtain ⟨i,sv,hi,rfl,tqs,how,pn,bs⟩:=hrel
        have TS:=Lib.hid tqs
        have ROW:=Lib.hid how
        have PS:=Lib.hid pn
        have BS:=Lib.hid bs
        have szs:=tqs.1.2
        have lg2:=tqs.1.1
        clear tqs how pn bs TQ PN BQ
        by_cases hli:i<n
        · have hi1:(i:Int)<(n:Int):=by omega
          have hi0:0≤(i:Int):=by omega
          have r9:=row9_in RP.out BS.out lq
          obtain ⟨c0,c1,c2,c3,c4,c5,c6,c7,c8⟩:=r9.2 i hli
          have l9:=r9.1
          obtain ⟨tp,htp⟩:∃ t,T i=t:=⟨_,rfl⟩
          rw [htp] at c0 c1 c2 c3 c4 c5 c6 c7 c8
          have SI:=Lib.hid (htp ▸ SK.out i hli)
          have GS:=Lib.hid (show lsF (f k) (i+1)=lsF (f k) i ++ [f k i] from rfl)
          obtain ⟨⟨u,v⟩,huv⟩:∃ uv,f k i=uv:=⟨_,rfl⟩
          rw [huv] at SI GS
          obtain ⟨d0,d1,d2,d3,d4,d5,d6,d7,d8,d9⟩:=PS.out
          clear r9 htp huv
          go_wp2_with fail
          go_at_call 55
          with_reducible refine (SI.out _).mono ?_
          rintro e w5 ⟨rfl,hb5⟩
          have ZB:=Lib.hid ((Below.refl wr.heap.size wr).alloc (Nat.le_refl _) (pnc tp.1 tp.2.1 tp.2.2 77))
          have BX:=Lib.hid ((((Below.refl (wo.heap.size+1) wr).alloc szs (pnc tp.1 tp.2.1 tp.2.2 77)).trans (hb5.mono (by simp <;> omega))))
          have ROW5:=Lib.hid (own_below9 (own_below9 ROW.out ZB.out) hb5)
          have TS5:=Lib.hid (tabQ_in TS.out BX.out)
          have PS5:=Lib.hid (pan_in7 PS.out BX.out (by omega))
          have BS5:=Lib.hid (BS.out.trans (BX.out.mono (by omega)))
          have s5:=TS5.out.1.2
          have BY:=Lib.hid ((Below.refl (wo.heap.size+1) w5).alloc s5 (.cells #[.int .i64 u,.int .i64 v] 39))
          have TS6:=Lib.hid (tabQ_in TS5.out BY.out)
          have PS6:=Lib.hid (pan_in7 PS5.out BY.out (by omega))
          have ROW6:=Lib.hid (ROW5.out.alloc (.cells #[.int .i64 u,.int .i64 v] 39))
          have BS6:=Lib.hid (BS5.out.trans (BY.out.mono (by omega)))
          have P6:=Lib.hid (pair_new w5 u v 39)
          clear c0 c1 c2 c3 c4 c5 c6 c7 c8 d0 d1 d2 d3 d4 d5 d6 d7 d8 d9 hb5 ZB BX ROW TS PS BS ROW5 TS5 PS5 BS5 BY SI
          go_wp2
          generalize w5.alloc (.cells #[.int .i64 u,.int .i64 v] 39)=w6 at *
          obtain ⟨e0,e1,e2,e3,el⟩:=P6.out
          obtain ⟨⟨f0,f9⟩,f1,f2,f3,f4⟩:=TS6.out
          have f5:=f2 k hlt
          have l6:w1.heap.size<w6.heap.size:=by omega
          clear f1 f2 f3
          have rz0:=Lib.hid (show w6.drew.ownsRow (wo.heap.size+1) 39 2 sv i (svs (lsF (f k) i)) from ROW6.out)
          go_region_law (first|(refine step_own9 rfl (.tmp 57) (.tmp 59) 34 rfl (wo.heap.size+1) 39 i0 (.agg #[.int .i64 0,.int .i64 0]) 2 16 Tryz.underlying34 HI.out HZ0.out HZ1.out HZ2.out rfl (by decide) _ i (svs (lsF (f k) i)) (by simp [Act.eval]) (World.ownsRow.alloc rz0.out _) ⟨w6.heap.size,0,none⟩ 1 1 (by simp [Act.eval]) [.int .i64 u,.int .i64 v] (sp2_new _ _ _ _) rfl (by intro u hu;simp at hu;rcases hu with rfl|rfl <;> rfl) (by unfold maxLen;omega) (by omega) (by simp;omega) ?_;intro v' w7 hown' hgrow;obtain ⟨g7,c7,rfl⟩:=own_slice8 (own_base9 hown' (Nat.zero_le _)) (by omega);have OW:=Lib.hid hown';have BZ:=Lib.hid (((Below.drew (Below.refl (wo.heap.size+1) w6)).alloc f9 _).grown hgrow (by simp;omega) (fun gg hg=>(rz0.out.lt gg hg).1));clear hown' hgrow;have T7:=Lib.hid (tabQ_in TS6.out BZ.out);have P7:=Lib.hid (pan_in7 PS6.out BZ.out (by omega));have B7:=Lib.hid (BS6.out.trans (BZ.out.mono (by omega)));have h4:=T7.out.2.2.2.2;have h5:=T7.out.2.2.1 k hlt)|fail)
          all_goals
            go_wp2
            go_roundw
            case rel=>exact ⟨i+1,_,by omega,by go_num,tabQ_set T7.out _,by rw [GS.out,← svs_snoc];exact ownsRow_setCell_below OW.out (by show w1.heap.size<wo.heap.size+1;omega) _,pan_set7 P7.out (by omega) _ _,B7.out.setCell (Nat.le_refl _) _⟩
            case measure=>simp [intOf];omega
        · obtain rfl:i=n:=by omega
          obtain ⟨b,cp,rfl,rr⟩:=row_lsF ROW.out h0
          have lb:=(ROW.out.lt b rfl).1
          have TN:=Lib.hid (tabP_of TS.out rr (by omega))
          have BN:=Lib.hid BS.out
          clear rr
          go_wp2
          go_roundw
          case rel=>exact ⟨k+1,by omega,by go_num,TN.out,BN.out⟩
          case measure=>simp [intOf];omega
    · obtain rfl:k=n:=by omega
      have hB:=B1.out.trans (BB.out.mono B1.out.size)
      go_wp2
      go_ret2
      exact ⟨_,_,rfl,tabM_of TP.out,B1.out.size,hB⟩
set_option maxRecDepth 100000 in
set_option maxHeartbeats 4000000 in
theorem htm_any (a:Option Addr) (np c:Nat) (a':Option Addr) (nf c':Nat) (D:Int) (n:Nat) (T:Nat→P9) (f:Nat→Nat→Int × Int) (w:World) (h0:0<n) (hn:n≤96)
    (PP:Hid (∀ W,Below w.heap.size w W→Calls Tryz.prog 103 #[msv a np c a' nf c'] W fun e w'=>∃ q cap,e=.returned (.tuple #[.slice (some ⟨q,0,none⟩) n cap,.int .i64 0])∧Row9 w' q n T∧Below W.heap.size W w'))
    (SC:Hid (∀ i j,i<n→j<n→∀ W,Calls Tryz.prog 62 #[pnv (T i).1 (T i).2.1 (T i).2.2,pnv (T j).1 (T j).2.1 (T j).2.2,.int .i64 D] W fun e w'=>e=.returned (spr (f j i,0))∧Below W.heap.size W w')) :
    Calls Tryz.prog 54 #[msv a np c a' nf c',.int .i64 D,.func (.func 62) #[] #[]] w fun e w'=>∃ g cap,e=.returned (.tuple #[.slice (some ⟨g,0,none⟩) n cap,.int .i64 0])∧TabM w' g n f∧w.heap.size≤g∧Below w.heap.size w w':=by
  obtain ⟨i0,hi,hz0,hz1,hz2⟩:=info_parts infoSp8
  have HI:=Lib.hid hi
  have HZ0:=Lib.hid hz0
  have HZ1:=Lib.hid hz1
  have HZ2:=Lib.hid hz2
  have hn':(n:Int)≤96:=by omega
  have B0:=Lib.hid (show Below w.heap.size w (w.alloc (msc a np c a' nf c' 25)) from balloc (Below.refl _ w) _)
  obtain ⟨m0,m1,ml⟩:=mes_new w a np c a' nf c' 25
  clear hi hz0 hz1 hz2
  go_enter Tryz.func54,Tryz.ntmps54
  go_wp2_with fail
  with_reducible refine (PP.out _ B0.out).mono ?_
  rintro e w1 ⟨q,cap,rfl,rp,hb1⟩
  have RP:=Lib.hid rp
  have B1:=Lib.hid (bstep B0.out hb1)
  have lq:q<w1.heap.size:=rp.1
  obtain ⟨w2,hmk,hB,hg⟩:=tabP_make w1 n (by omega)
  have T2:=Lib.hid (hB f)
  have B2:=Lib.hid ((Below.refl w1.heap.size w1).grown hg (Nat.le_refl _) (fun k hk=>by cases hk))
  have l2:=(hB f).1
  clear hb1 rp m0 m1 ml B0 PP hB hg
  go_wp2
  clear hmk
  go_loopw [30] (fun kv wr=>∃ k:Nat,k≤n∧kv=.int .i64 k∧TabP wr w1.heap.size n k f∧Below w1.heap.size w1 wr) (fun kv _=>n - (intOf kv).toNat)
  case atStart=>exact ⟨0,Nat.zero_le _,rfl,T2.out,B2.out⟩
  case round =>
    obtain ⟨k,hk,rfl,tp,bb⟩:=hrel
    have TP:=Lib.hid tp
    have BB:=Lib.hid bb
    have szw:=bb.size
    have lg:=tp.1
    clear tp bb T2 B2 l2
    by_cases hlt:k<n
    · have hk1:(k:Int)<(n:Int):=by omega
      have hk0:0≤(k:Int):=by omega
      have r9:=row9_in RP.out BB.out lq
      obtain ⟨c0,c1,c2,c3,c4,c5,c6,c7,c8⟩:=r9.2 k hlt
      have l9:=r9.1
      obtain ⟨tq,htq⟩:∃ t,T k=t:=⟨_,rfl⟩
      rw [htq] at c0 c1 c2 c3 c4 c5 c6 c7 c8
      have SK:=Lib.hid (fun i (hi:i<n)=>htq ▸ SC.out i k hi hlt)
      have PN:=Lib.hid (pan_new wr tq.1 tq.2.1 tq.2.2 77)
      have TQ:=Lib.hid (tabQ_of TP.out hlt (pnc tq.1 tq.2.1 tq.2.2 77))
      have BQ:=Lib.hid (show Below w1.heap.size w1 (wr.alloc (pnc tq.1 tq.2.1 tq.2.2 77)) from BB.out.alloc szw _)
      clear r9 htq
      go_wp2
      clear c0 c1 c2 c3 c4 c5 c6 c7 c8
      obtain ⟨wo,hwo⟩:∃ wo:World,wo=wr:=⟨_,rfl⟩
      subst hwo
      go_loopw [37] (fun kv ws=>∃ (i:Nat) (sv:Value),i≤n∧kv=.int .i64 i∧TabQ ws w1.heap.size n k (wo.heap.size+1) f sv∧ws.ownsRow (wo.heap.size+1) 39 2 sv i (svs (lsF (f k) i))∧Pan ws wo.heap.size tq.1 tq.2.1 tq.2.2∧Below w1.heap.size w1 ws) (fun kv _=>n - (intOf kv).toNat)
      case atStart=>exact ⟨0,_,Nat.zero_le _,rfl,TQ.out,World.ownsRow_nil _ _ _ _,PN.out,BQ.out⟩
      case round =>
        obtain ⟨i,sv,hi,rfl,tqs,how,pn,bs⟩:=hrel
        have TS:=Lib.hid tqs
        have ROW:=Lib.hid how
        have PS:=Lib.hid pn
        have BS:=Lib.hid bs
        have szs:=tqs.1.2
        have lg2:=tqs.1.1
        clear tqs how pn bs TQ PN BQ
        by_cases hli:i<n
        · have hi1:(i:Int)<(n:Int):=by omega
          have hi0:0≤(i:Int):=by omega
          have r9:=row9_in RP.out BS.out lq
          obtain ⟨c0,c1,c2,c3,c4,c5,c6,c7,c8⟩:=r9.2 i hli
          have l9:=r9.1
          obtain ⟨tp,htp⟩:∃ t,T i=t:=⟨_,rfl⟩
          rw [htp] at c0 c1 c2 c3 c4 c5 c6 c7 c8
          have SI:=Lib.hid (htp ▸ SK.out i hli)
          have GS:=Lib.hid (show lsF (f k) (i+1)=lsF (f k) i ++ [f k i] from rfl)
          obtain ⟨⟨u,v⟩,huv⟩:∃ uv,f k i=uv:=⟨_,rfl⟩
          rw [huv] at SI GS
          obtain ⟨d0,d1,d2,d3,d4,d5,d6,d7,d8,d9⟩:=PS.out
          clear r9 htp huv
          go_wp2_with fail
          go_at_call 62
          with_reducible refine (SI.out _).mono ?_
          rintro e w5 ⟨rfl,hb5⟩
          have ZB:=Lib.hid ((Below.refl wr.heap.size wr).alloc (Nat.le_refl _) (pnc tp.1 tp.2.1 tp.2.2 77))
          have BX:=Lib.hid ((((Below.refl (wo.heap.size+1) wr).alloc szs (pnc tp.1 tp.2.1 tp.2.2 77)).trans (hb5.mono (by simp <;> omega))))
          have ROW5:=Lib.hid (own_below9 (own_below9 ROW.out ZB.out) hb5)
          have TS5:=Lib.hid (tabQ_in TS.out BX.out)
          have PS5:=Lib.hid (pan_in7 PS.out BX.out (by omega))
          have BS5:=Lib.hid (BS.out.trans (BX.out.mono (by omega)))
          have s5:=TS5.out.1.2
          have BY:=Lib.hid ((Below.refl (wo.heap.size+1) w5).alloc s5 (.cells #[.int .i64 u,.int .i64 v] 39))
          have TS6:=Lib.hid (tabQ_in TS5.out BY.out)
          have PS6:=Lib.hid (pan_in7 PS5.out BY.out (by omega))
          have ROW6:=Lib.hid (ROW5.out.alloc (.cells #[.int .i64 u,.int .i64 v] 39))
          have BS6:=Lib.hid (BS5.out.trans (BY.out.mono (by omega)))
          have P6:=Lib.hid (pair_new w5 u v 39)
          clear c0 c1 c2 c3 c4 c5 c6 c7 c8 d0 d1 d2 d3 d4 d5 d6 d7 d8 d9 hb5 ZB BX ROW TS PS BS ROW5 TS5 PS5 BS5 BY SI
          go_wp2
          generalize w5.alloc (.cells #[.int .i64 u,.int .i64 v] 39)=w6 at *
          obtain ⟨e0,e1,e2,e3,el⟩:=P6.out
          obtain ⟨⟨f0,f9⟩,f1,f2,f3,f4⟩:=TS6.out
          have f5:=f2 k hlt
          have l6:w1.heap.size<w6.heap.size:=by omega
          clear f1 f2 f3
          have rz0:=Lib.hid (show w6.drew.ownsRow (wo.heap.size+1) 39 2 sv i (svs (lsF (f k) i)) from ROW6.out)
          go_region_law (first|(refine step_own9 rfl (.tmp 57) (.tmp 59) 34 rfl (wo.heap.size+1) 39 i0 (.agg #[.int .i64 0,.int .i64 0]) 2 16 Tryz.underlying34 HI.out HZ0.out HZ1.out HZ2.out rfl (by decide) _ i (svs (lsF (f k) i)) (by simp [Act.eval]) (World.ownsRow.alloc rz0.out _) ⟨w6.heap.size,0,none⟩ 1 1 (by simp [Act.eval]) [.int .i64 u,.int .i64 v] (sp2_new _ _ _ _) rfl (by intro u hu;simp at hu;rcases hu with rfl|rfl <;> rfl) (by unfold maxLen;omega) (by omega) (by simp;omega) ?_;intro v' w7 hown' hgrow;obtain ⟨g7,c7,rfl⟩:=own_slice8 (own_base9 hown' (Nat.zero_le _)) (by omega);have OW:=Lib.hid hown';have BZ:=Lib.hid (((Below.drew (Below.refl (wo.heap.size+1) w6)).alloc f9 _).grown hgrow (by simp;omega) (fun gg hg=>(rz0.out.lt gg hg).1));clear hown' hgrow;have T7:=Lib.hid (tabQ_in TS6.out BZ.out);have P7:=Lib.hid (pan_in7 PS6.out BZ.out (by omega));have B7:=Lib.hid (BS6.out.trans (BZ.out.mono (by omega)));have h4:=T7.out.2.2.2.2;have h5:=T7.out.2.2.1 k hlt)|fail)
          all_goals
            go_wp2
            go_roundw
            case rel=>exact ⟨i+1,_,by omega,by go_num,tabQ_set T7.out _,by rw [GS.out,← svs_snoc];exact ownsRow_setCell_below OW.out (by show w1.heap.size<wo.heap.size+1;omega) _,pan_set7 P7.out (by omega) _ _,B7.out.setCell (Nat.le_refl _) _⟩
            case measure=>simp [intOf];omega
        · obtain rfl:i=n:=by omega
          obtain ⟨b,cp,rfl,rr⟩:=row_lsF ROW.out h0
          have lb:=(ROW.out.lt b rfl).1
          have TN:=Lib.hid (tabP_of TS.out rr (by omega))
          have BN:=Lib.hid BS.out
          clear rr
          go_wp2
          go_roundw
          case rel=>exact ⟨k+1,by omega,by go_num,TN.out,BN.out⟩
          case measure=>simp [intOf];omega
    · obtain rfl:k=n:=by omega
      have hB:=B1.out.trans (BB.out.mono B1.out.size)
      go_wp2
      go_ret2
      exact ⟨_,_,rfl,tabM_of TP.out,B1.out.size,hB⟩
end Go.Proofs.YtbcjiigmbcfkeaaGreat
