import Derived.Test.YtbcjiigmbcfkeaaGreatFgMg
namespace Go.Proofs.YtbcjiigmbcfkeaaGreat
open Go.Lib (hid)
set_option maxRecDepth 100000
set_option maxHeartbeats 4000000
open Go.ChangeShapes Go.WideShapes Go.RowKit
open Sh
def vFar (t:P9) (D:Int) (u:P9) (k:Nat):Int:=fG (P3F (ptk t D k)) (P3F u) 3 3
def vNear (t:P9) (D:Int) (u:P9) (k:Nat):Int:=nG (loN (P3F (ptk t D k)) 3) (hiN (P3F (ptk t D k)) 3) (loN (P3F u) 3) (hiN (P3F u) 3)
def vLo (t:P9) (D:Int) (u:P9) (k:Nat):Int:=(kV false (vFar t D u k) (scl D)).1.1
def vHi (t:P9) (D:Int) (u:P9) (rm:Int) (k:Nat):Int:=if vNear t D u k=0 then rm else Sp.mn rm (kV false (vNear t D u k) (scl D)).1.2
def vSee (t:P9) (D:Int) (u:P9) (rm:Int):Int × Int:=(sm (vLo t D u) (ptn D) / (ptn D:Int),(sm (vHi t D u rm) (ptn D)+(ptn D:Int) - 1) / (ptn D:Int))
theorem kVf_bd (m:Int) {k:Int} (k1:1<=k) (k2:k<=8):0<=(kV false m k).1.1/\(kV false m k).1.1<=1000000000/\0<=(kV false m k).1.2/\(kV false m k).1.2<=1000000000:=by
  by_cases h:1<=m/\m<=1099511627776
  · obtain ⟨r,u,e,h1,h2⟩:=kV_val false h.1 h.2 k1 k2
    rw [e]
    show 0<=(r:Int)/\(r:Int)<=1000000000/\0<=(u:Int)/\(u:Int)<=1000000000
    omega
  · have e:kV false m k=((0,0),1):=by
      show invR m k=_
      unfold invR
      rw [if_neg (fun z=>h ⟨z.1,z.2.1⟩)]
    rw [e]
    decide
theorem vHi_bd (t:P9) (D:Int) (u:P9) {rm:Int} (k:Nat) (d0:0<=D) (d3:D<=3) (r0:0<=rm) (r1:rm<=67108864):0<=vHi t D u rm k/\vHi t D u rm k<=1000000000:=by
  obtain ⟨_,s1,s2⟩:=scl_vals d0 d3
  have:=kVf_bd (vNear t D u k) s1 s2
  unfold vHi
  split
  · omega
  · rw [Sp.mn_eq]
    omega
theorem sub_bd5 {a y:P3} (h:BdP 512 a) (k:BdP 512 y):BdP 1000000 (sub a y):=by
  obtain ⟨a1,a2,a3,a4,a5,a6⟩:=h
  obtain ⟨b1,b2,b3,b4,b5,b6⟩:=k
  simp only [BdP,sub]
  omega
theorem p3f_bd {M:Int} {t:P9} (h:BdT M t) {i:Nat} (hi:i<3):BdP M (P3F t i):=by
  match i,hi with
 |0,_=>exact h.1
 |1,_=>exact h.2.1
 |2,_=>exact h.2.2
theorem sfr_any (t u:P9) (D rm:Int) (q cp b:Nat) (gs:List (Nat × P9)) (w:World) (hB:BdT 64 t) (hu:BdT 512 u) (d0:0<=D) (d3:D<=3) (r:RowGs w q gs.length gs) (hgs:gs.map Prod.snd=cutP D.toNat t) (hq:PtB w b u) (r0:0<=rm) (r1:rm<=67108864) :
    Calls Tryz.prog 106 #[.agg #[.slice (some ⟨q,0,none⟩) gs.length cp,.int .i64 (scl D),.int .i64 rm],grv b 3 3 (loN (P3F u) 3) (hiN (P3F u) 3)] w fun e w'=>e=.returned (.agg #[.int .i64 (vSee t D u rm).1,.int .i64 (vSee t D u rm).2])/\Below w.heap.size w w':=by
  obtain ⟨_,s1,s2⟩:=scl_vals d0 d3
  obtain ⟨n0,n1⟩:=ptn_vals d0 d3
  have hl:=gs_len hgs
  have hlu:=(lo3_bd hu).mono (show (512:Int)<=1000000 by decide)
  have hhu:=(hi3_bd hu).mono (show (512:Int)<=1000000 by decide)
  refine sfr_walk q gs.length cp b 3 3 (loN (P3F u) 3) (hiN (P3F u) 3) (scl D) rm _ _ w (hid fun W bv bs hB1 hv hs=>?_)
  have z:=gavs_any b 3 3 (loN (P3F u) 3) (hiN (P3F u) 3) (scl D) bv bs q gs.length cp gs (vLo t D u) (vHi t D u rm) W (rowgs_in r hB1) (by omega) (by omega)
    (fun k hk=>by have:=kVf_bd (vFar t D u k) s1 s2;exact ⟨this.1,this.2.1⟩)
    (fun k hk=>vHi_bd t D u k d0 d3 r0 r1)
    (hid fun k hk W' B'=>by
      have hb:=ptk_bd9 hB d0 d3 (k:=k) (by omega)
      have e:=gA_snd hgs hk
      have e2:fG (P3F (gA gs k).2) (P3F u) 3 3=vFar t D u k:=by rw [e];rfl
      have B9:Below w.heap.size w W':=Below.trans hB1 (B'.mono hB1.size)
      exact floi_any (gA gs k).1 3 3 b 3 3 (loN (P3F (gA gs k).2) 3) (hiN (P3F (gA gs k).2) 3) (loN (P3F u) 3) (hiN (P3F u) 3) (scl D) (kV false (vFar t D u k) (scl D)) W' (P3F (gA gs k).2) (P3F u) (rwg_below (ptb_row (r.2 k hk).2) B9) (rwg_below (ptb_row hq) B9) (by decide) (by decide) (fun i hi j hj=>sub_bd5 (p3f_bd (by rw [e];exact hb) hi) (p3f_bd hu hj)) (hid fun W2=>by rw [e2];exact ki_any _ _ W2))
    (hid fun k hk W' B'=>by
      have hb:=ptk_bd9 hB d0 d3 (k:=k) (by omega)
      have e:=gA_snd hgs hk
      have e2:nG (loN (P3F (gA gs k).2) 3) (hiN (P3F (gA gs k).2) 3) (loN (P3F u) 3) (hiN (P3F u) 3)=vNear t D u k:=by rw [e];rfl
      have hlp:=(lo3_bd (t:=(gA gs k).2) (by rw [e];exact hb)).mono (show (512:Int)<=1000000 by decide)
      have hhp:=(hi3_bd (t:=(gA gs k).2) (by rw [e];exact hb)).mono (show (512:Int)<=1000000 by decide)
      have hv':=vwp_in hv B' hv.2
      have hs':=srB_in hs B' hs.2
      have TC:=fun W2=>ftouch_any (gA gs k).1 3 3 b 3 3 (loN (P3F (gA gs k).2) 3) (hiN (P3F (gA gs k).2) 3) (loN (P3F u) 3) (hiN (P3F u) 3) (scl D) (.func (.func 152) #[] #[]) W2 hlp hhp hlu hhu
      rw [e2] at TC
      unfold vHi
      by_cases hz:vNear t D u k=0
      · rw [if_pos hz]
        rw [hz] at TC
        exact sfc_hit (gA gs k).1 3 3 b 3 3 _ _ _ _ (scl D) rm bv bs _ W' hv' hs' (hid TC)
      · rw [if_neg hz]
        rw [show (vNear t D u k == 0)=false from beq_false_of_ne hz] at TC
        exact sfc_miss (gA gs k).1 3 3 b 3 3 _ _ _ _ (scl D) rm bv bs _ _ W' hv' hs' (hid TC) (hid fun W2=>fhii_any (gA gs k).1 3 3 b 3 3 (loN (P3F (gA gs k).2) 3) (hiN (P3F (gA gs k).2) 3) (loN (P3F u) 3) (hiN (P3F u) 3) (scl D) (kV false (vNear t D u k) (scl D)) W2 hlp hhp hlu hhu (hid fun W3=>by rw [e2];exact ki_any _ _ W3)))
  unfold vSee
  rw [hl] at z ⊢
  exact z
def prc (t u:P9) (D:Int):Int:=if pcode t.1 t.2.1 t.2.2=0 then (if pcode u.1 u.2.1 u.2.2=0 then (if rngB D 0 2=true then 0 else 1) else pcode u.1 u.2.1 u.2.2) else pcode t.1 t.2.1 t.2.2
theorem ar2_0 (t u:P9) (w:World):(Instr.index 181 (.agg #[.int .i64 t.1.1,.int .i64 t.1.2.1,.int .i64 t.1.2.2,.int .i64 t.2.1.1,.int .i64 t.2.1.2.1,.int .i64 t.2.1.2.2,.int .i64 t.2.2.1,.int .i64 t.2.2.2.1,.int .i64 t.2.2.2.2,.int .i64 u.1.1,.int .i64 u.1.2.1,.int .i64 u.1.2.2,.int .i64 u.2.1.1,.int .i64 u.2.1.2.1,.int .i64 u.2.1.2.2,.int .i64 u.2.2.1,.int .i64 u.2.2.2.1,.int .i64 u.2.2.2.2]) (.int .i64 0)).run Tryz.prog w=.ok (p9v t) w:=by kernel_rfl
theorem ar2_1 (t u:P9) (w:World):(Instr.index 181 (.agg #[.int .i64 t.1.1,.int .i64 t.1.2.1,.int .i64 t.1.2.2,.int .i64 t.2.1.1,.int .i64 t.2.1.2.1,.int .i64 t.2.1.2.2,.int .i64 t.2.2.1,.int .i64 t.2.2.2.1,.int .i64 t.2.2.2.2,.int .i64 u.1.1,.int .i64 u.1.2.1,.int .i64 u.1.2.2,.int .i64 u.2.1.1,.int .i64 u.2.1.2.1,.int .i64 u.2.1.2.2,.int .i64 u.2.2.1,.int .i64 u.2.2.2.1,.int .i64 u.2.2.2.2]) (.int .i64 1)).run Tryz.prog w=.ok (p9v u) w:=by kernel_rfl
theorem cpr_no0 (pc:Int) (t u:P9) (D:Int) (w:World) (V:Hid (∀ W,Calls Tryz.prog 142 #[p9v t] W fun e w'=>e=.returned (.int .i64 pc)/\Below W.heap.size W w')) (zz:(pc != 0)=true):Calls Tryz.prog 104 #[p9v t,p9v u,.int .i64 D] w fun e w'=>e=.returned (.int .i64 pc)/\Below w.heap.size w w':=by
  obtain ⟨a,b,c⟩:=t
  obtain ⟨x,y,z⟩:=u
  have i0:=fun w=>ar2_0 (a,b,c) (x,y,z) w
  have i1:=fun w=>ar2_1 (a,b,c) (x,y,z) w
  go_enter Tryz.func104,Tryz.ntmps104
  go_wp2
  refine wp_loop_rounds 3 ?_
  rw [rounds_succ]
  go_wp2_with fail
  refine (V.out _).mono ?_
  rintro e w1 ⟨rfl,hb1⟩
  go_wp2
  go_ret
  exact ⟨rfl,by (repeat' (first|exact Below.refl _ _|refine bstep ?_ hb1|refine Below.setCell ?_ (by simp<;>omega) _|refine balloc ?_ _|refine Below.drew ?_|refine bdrewN ?_ _))⟩
theorem cpr_no1 (pc:Int) (t u:P9) (D:Int) (w:World) (V:Hid (∀ W,Calls Tryz.prog 142 #[p9v t] W fun e w'=>e=.returned (.int .i64 0)/\Below W.heap.size W w')) (U:Hid (∀ W,Calls Tryz.prog 142 #[p9v u] W fun e w'=>e=.returned (.int .i64 pc)/\Below W.heap.size W w')) (zz:(pc != 0)=true):Calls Tryz.prog 104 #[p9v t,p9v u,.int .i64 D] w fun e w'=>e=.returned (.int .i64 pc)/\Below w.heap.size w w':=by
  obtain ⟨a,b,c⟩:=t
  obtain ⟨x,y,z⟩:=u
  have i0:=fun w=>ar2_0 (a,b,c) (x,y,z) w
  have i1:=fun w=>ar2_1 (a,b,c) (x,y,z) w
  go_enter Tryz.func104,Tryz.ntmps104
  go_wp2
  refine wp_loop_rounds 3 ?_
  rw [rounds_succ]
  go_wp2_with fail
  refine (V.out _).mono ?_
  rintro e w1 ⟨rfl,hb1⟩
  go_wp2
  rw [rounds_succ]
  go_wp2_with fail
  refine (U.out _).mono ?_
  rintro e w2 ⟨rfl,hb2⟩
  go_wp2
  go_ret
  exact ⟨rfl,by (repeat' (first|exact Below.refl _ _|refine bstep ?_ hb2|refine bstep ?_ hb1|refine Below.setCell ?_ (by simp<;>omega) _|refine balloc ?_ _|refine Below.drew ?_|refine bdrewN ?_ _))⟩
theorem cpr_true (t u:P9) (D:Int) (w:World) (V:Hid (∀ W,Calls Tryz.prog 142 #[p9v t] W fun e w'=>e=.returned (.int .i64 0)/\Below W.heap.size W w')) (U:Hid (∀ W,Calls Tryz.prog 142 #[p9v u] W fun e w'=>e=.returned (.int .i64 0)/\Below W.heap.size W w')) (I:Hid (∀ W,Calls Tryz.prog 149 #[.int .i64 D,.int .i64 0,.int .i64 2] W fun e w'=>e=.returned (.bool true)/\W=w')):Calls Tryz.prog 104 #[p9v t,p9v u,.int .i64 D] w fun e w'=>e=.returned (.int .i64 0)/\Below w.heap.size w w':=by
  obtain ⟨a,b,c⟩:=t
  obtain ⟨x,y,z⟩:=u
  have i0:=fun w=>ar2_0 (a,b,c) (x,y,z) w
  have i1:=fun w=>ar2_1 (a,b,c) (x,y,z) w
  go_enter Tryz.func104,Tryz.ntmps104
  go_wp2
  refine wp_loop_rounds 3 ?_
  rw [rounds_succ]
  go_wp2_with fail
  refine (V.out _).mono ?_
  rintro e w1 ⟨rfl,hb1⟩
  go_wp2
  rw [rounds_succ]
  go_wp2_with fail
  refine (U.out _).mono ?_
  rintro e w2 ⟨rfl,hb2⟩
  go_wp2
  rw [rounds_succ]
  go_wp2_with fail
  refine (I.out _).mono ?_
  rintro e w3 ⟨rfl,rfl⟩
  go_wp2
  go_ret
  exact ⟨rfl,by (repeat' (first|exact Below.refl _ _|refine bstep ?_ hb2|refine bstep ?_ hb1|refine Below.setCell ?_ (by simp<;>omega) _|refine balloc ?_ _|refine Below.drew ?_|refine bdrewN ?_ _))⟩
theorem cpr_false (t u:P9) (D:Int) (w:World) (V:Hid (∀ W,Calls Tryz.prog 142 #[p9v t] W fun e w'=>e=.returned (.int .i64 0)/\Below W.heap.size W w')) (U:Hid (∀ W,Calls Tryz.prog 142 #[p9v u] W fun e w'=>e=.returned (.int .i64 0)/\Below W.heap.size W w')) (I:Hid (∀ W,Calls Tryz.prog 149 #[.int .i64 D,.int .i64 0,.int .i64 2] W fun e w'=>e=.returned (.bool false)/\W=w')):Calls Tryz.prog 104 #[p9v t,p9v u,.int .i64 D] w fun e w'=>e=.returned (.int .i64 1)/\Below w.heap.size w w':=by
  obtain ⟨a,b,c⟩:=t
  obtain ⟨x,y,z⟩:=u
  have i0:=fun w=>ar2_0 (a,b,c) (x,y,z) w
  have i1:=fun w=>ar2_1 (a,b,c) (x,y,z) w
  go_enter Tryz.func104,Tryz.ntmps104
  go_wp2
  refine wp_loop_rounds 3 ?_
  rw [rounds_succ]
  go_wp2_with fail
  refine (V.out _).mono ?_
  rintro e w1 ⟨rfl,hb1⟩
  go_wp2
  rw [rounds_succ]
  go_wp2_with fail
  refine (U.out _).mono ?_
  rintro e w2 ⟨rfl,hb2⟩
  go_wp2
  rw [rounds_succ]
  go_wp2_with fail
  refine (I.out _).mono ?_
  rintro e w3 ⟨rfl,rfl⟩
  go_wp2
  go_ret
  exact ⟨rfl,by (repeat' (first|exact Below.refl _ _|refine bstep ?_ hb2|refine bstep ?_ hb1|refine Below.setCell ?_ (by simp<;>omega) _|refine balloc ?_ _|refine Below.drew ?_|refine bdrewN ?_ _))⟩
theorem cpr_any (t u:P9) (D:Int) (w:World):Calls Tryz.prog 104 #[p9v t,p9v u,.int .i64 D] w fun e w'=>e=.returned (.int .i64 (prc t u D))/\Below w.heap.size w w':=by
  have V:=fun W=>vp_any t.1 t.2.1 t.2.2 W
  have U:=fun W=>vp_any u.1 u.2.1 u.2.2 W
  have I:=fun W=>finr_any D 0 2 W
  unfold prc
  by_cases h:pcode t.1 t.2.1 t.2.2=0
  · rw [if_pos h]
    rw [h] at V
    by_cases k:pcode u.1 u.2.1 u.2.2=0
    · rw [if_pos k]
      rw [k] at U
      cases r:rngB D 0 2 with
     |true=>rw [r] at I;exact cpr_true t u D w (hid V) (hid U) (hid I)
     |false=>rw [r] at I;exact cpr_false t u D w (hid V) (hid U) (hid I)
    · rw [if_neg k]
      exact cpr_no1 _ t u D w (hid V) (hid U) (bne_iff_ne.2 k)
  · rw [if_neg h]
    exact cpr_no0 _ t u D w (hid V) (bne_iff_ne.2 h)
theorem rowgs_set {w:World} {q n b i:Nat} {gs:List (Nat × P9)} {v:Value} (r:RowGs w q n gs) (n1:¬ b=q) (n2:∀ k,k<n->¬ (gA gs k).1=b):RowGs (w.setCell ⟨b,i,none⟩ v) q n gs:=by
  refine ⟨by simpa using r.1,fun k hk=>?_⟩
  obtain ⟨⟨h0,h1,h2,h3,h4,h5,h6⟩,hp⟩:=r.2 k hk
  exact ⟨⟨by go_simp,by go_simp,by go_simp,by go_simp,by go_simp,by go_simp,by go_simp⟩,ptb_set hp (n2 k hk)⟩
def OwS (w:World) (b:Nat):Prop:=w.cell? ⟨b,0,none⟩=some (.slice none 0 0)/\w.cell? ⟨b,1,none⟩=some (.int .i64 0)/\w.cell? ⟨b,2,none⟩=some (.int .i64 0)/\w.frozen? ⟨b,0,none⟩=false/\w.frozen? ⟨b,1,none⟩=false/\w.frozen? ⟨b,2,none⟩=false/\b<w.heap.size
theorem ows_new (w:World) (t:TypeId):OwS (w.alloc (.cells #[.slice none 0 0,.int .i64 0,.int .i64 0] t)) w.heap.size:=⟨by go_simp,by go_simp,by go_simp,by go_simp,by go_simp,by go_simp,by simp⟩
theorem ows_below {w w1:World} {b:Nat} (h:OwS w b) (hb:Below w.heap.size w w1):OwS w1 b:=by
  obtain ⟨h1,h2,h3,f1,f2,f3,h5⟩:=h
  exact ⟨(hb.cell (p:=⟨b,0,none⟩) h5).trans h1,(hb.cell (p:=⟨b,1,none⟩) h5).trans h2,(hb.cell (p:=⟨b,2,none⟩) h5).trans h3,(hb.frozen (p:=⟨b,0,none⟩) h5).trans f1,(hb.frozen (p:=⟨b,1,none⟩) h5).trans f2,(hb.frozen (p:=⟨b,2,none⟩) h5).trans f3,Nat.lt_of_lt_of_le h5 hb.size⟩
theorem rowgs_ne {w:World} {q n b:Nat} {gs:List (Nat × P9)} (r:RowGs w q n gs) (h:OwS w b) (n0:0<n):¬ b=q/\∀ k,k<n->¬ (gA gs k).1=b:=by
  refine ⟨fun e=>?_,fun k hk e=>?_⟩
  · subst e
    have z:=(r.2 0 n0).1.1
    rw [Nat.zero_mul] at z
    rw [h.1] at z
    cases z
  · subst e
    have z:=(r.2 k hk).2
    have c:w.cell? ⟨(gA gs k).1,0,none⟩=some (.int .i64 (gA gs k).2.1.1):=by
      unfold PtB at z
      simp [World.cell?,z]
    rw [h.1] at c
    cases c
theorem src_any (t:P9) (D:Int) (w:World) (h:pcode t.1 t.2.1 t.2.2=0) (hB:BdT 64 t) (d0:0<=D) (d3:D<=3) :
    Calls Tryz.prog 105 #[p9v t,.int .i64 D] w fun e w'=>∃ q cp gs,e=.returned (.tuple #[.agg #[.slice (some ⟨q,0,none⟩) gs.length cp,.int .i64 (scl D),.int .i64 ((rimN (rS t) (scl D):Nat):Int)],.int .i64 0])/\gs.map Prod.snd=cutP D.toNat t/\RowGs w' q gs.length gs/\Below w.heap.size w w':=by
  have RI:=hid (fun W=>frim_any t D W h d0 d3)
  have PG:=hid (fun W=>(callsIn_wide (n:=6)).1 (pgroups_in 6 (by decide) t.1 t.2.1 t.2.2 D W hB d0 d3))
  have SW:=hid (scl_vals d0 d3).1
  have pn:=(ptn_vals d0 d3).1
  have s8:=(scl_vals d0 d3).2.2
  have s1:=(scl_vals d0 d3).2.1
  clear h hB
  obtain ⟨a,b,c⟩:=t
  generalize ((rimN (rS (a,b,c)) (scl D):Nat):Int)=rm at *
  generalize scl D=sc at *
  have P0:=hid (pan_alloc (pan_new w a b c 77) (.cells #[.slice none 0 0,.int .i64 0,.int .i64 0] 133))
  have R0:=hid (ows_new (w.alloc (pnc a b c 77)) 133)
  have B0:=hid (show Below w.heap.size w ((w.alloc (pnc a b c 77)).alloc (.cells #[.slice none 0 0,.int .i64 0,.int .i64 0] 133)) by (repeat' (first|exact Below.refl _ _|refine Below.setCell ?_ (by simp<;>omega) _|refine balloc ?_ _|refine Below.drew ?_|refine bdrewN ?_ _)))
  simp only [World.size_alloc] at R0
  go_enter Tryz.func105,Tryz.ntmps105
  go_wp2_with fail
  refine (RI.out _).mono ?_
  rintro e w1 ⟨rfl,hb1⟩
  have P1:=hid (pan_below P0.out hb1)
  have R1:=hid (ows_below R0.out hb1)
  have B1:=hid (bstep B0.out hb1)
  clear P0 R0 B0 hb1
  obtain ⟨k0,k1,k2,k3,k4,k5,k6,k7,k8,k9⟩:=id P1.out
  have sh:=SW.out
  have P1d:OwS w1.drew (w.heap.size+1):=R1.out
  have B1d:Below w.heap.size w w1.drew:=Below.drew B1.out
  go_wp2_with fail
  go_region_with (go_at_call 151;(with_reducible refine (PG.out _).mono ?_);rintro e v0 ⟨v,gs,rfl,hgs,hrow,hpt,hv0⟩;have hl:=gs_len hgs;obtain ⟨q,cp,rfl,hr⟩:=rowgs_of hrow (by omega) hpt;have R2:=ows_below P1d hv0;have b2:=bstep B1d hv0;have ne:=rowgs_ne hr R2 (by omega);obtain ⟨o0,o1,o2,f0,f1,f2,o9⟩:=R2)
  all_goals
    go_wp2
    refine bodyPost_ret (v:=.tuple #[.agg #[.slice (some ⟨q,0,none⟩) gs.length cp,.int .i64 sc,.int .i64 rm],.int .i64 0]) (by rw [results_cell_tmp rfl];go_simp;first|done|(rw [IntWalk.i64_left];exact sh)) rfl ⟨q,cp,gs,rfl,hgs,?_,?_⟩
    · exact rowgs_set (rowgs_set (rowgs_set hr ne.1 ne.2) ne.1 ne.2) ne.1 ne.2
    · (repeat' (first|with_reducible exact b2|(with_reducible refine Below.setCell ?_ (by simp<;>omega) _)))
def tm9 (k:Int) (u:P9):P9:=(tim k u.1,tim k u.2.1,tim k u.2.2)
def rmF (t:P9) (D:Int):Int:=((rimN (rS t) (scl D):Nat):Int)
def betF (t u:P9) (D:Int):Sp.R:=if prc t u D=0 then (vSee t D (tm9 (scl D) u) (rmF t D),0) else ((0,0),prc t u D)
theorem pcode_ok9 {t:P9} (h:pcode t.1 t.2.1 t.2.2=0):BdT 64 t:=pcode_64 h
theorem prc_ok {t u:P9} {D:Int} (h:prc t u D=0):pcode t.1 t.2.1 t.2.2=0/\pcode u.1 u.2.1 u.2.2=0/\0<=D/\D<=2:=by
  unfold prc at h
  by_cases h1:pcode t.1 t.2.1 t.2.2=0
  · rw [if_pos h1] at h
    by_cases h2:pcode u.1 u.2.1 u.2.2=0
    · rw [if_pos h2] at h
      cases r:rngB D 0 2 with
     |true =>
        have r':0<=D/\D<=2:=by simpa [rngB] using r
        exact ⟨h1,h2,r'⟩
     |false=>rw [r] at h;simp at h
    · rw [if_neg h2] at h;exact absurd h h2
  · rw [if_neg h1] at h;exact absurd h h1
theorem tim_bd5 {x:P3} {s:Int} (hx:BdP 64 x) (s1:1<=s) (s2:s<=8):BdP 512 (tim s x):=by
  obtain ⟨a1,a2,a3,a4,a5,a6⟩:=hx
  have x1:=mul_bd (A:=8) (B:=64) (by omega) s2 a1 a2
  have x2:=mul_bd (A:=8) (B:=64) (by omega) s2 a3 a4
  have x3:=mul_bd (A:=8) (B:=64) (by omega) s2 a5 a6
  simp only [BdP,tim]
  omega
theorem tm9_bd {u:P9} {s:Int} (hx:BdT 64 u) (s1:1<=s) (s2:s<=8):BdT 512 (tm9 s u):=⟨tim_bd5 hx.1 s1 s2,tim_bd5 hx.2.1 s1 s2,tim_bd5 hx.2.2 s1 s2⟩
theorem rmF_bd {t:P9} {D:Int} (h:pcode t.1 t.2.1 t.2.2=0) (d0:0<=D) (d3:D<=3):0<=rmF t D/\rmF t D<=67108864:=by
  obtain ⟨_,s1,s2⟩:=scl_vals d0 d3
  obtain ⟨S1,S2,_⟩:=rS_bd h
  have:=rimN_le S1 S2 s1 s2
  unfold rmF
  omega
theorem bet_no (t u:P9) (D pc:Int) (w:World) (C1:Hid (∀ W,Calls Tryz.prog 104 #[p9v t,p9v u,.int .i64 D] W fun e w'=>e=.returned (.int .i64 pc)/\Below W.heap.size W w')) (zz:(pc != 0)=true):Calls Tryz.prog 55 #[p9v t,p9v u,.int .i64 D] w fun e w'=>e=.returned (spr ((0,0),pc))/\Below w.heap.size w w':=by
  obtain ⟨a,b,c⟩:=t
  obtain ⟨x,y,z⟩:=u
  have P0:=hid (pan_alloc (pan_alloc (pan_new w a b c 77) (pnc x y z 77)) (.cells #[.int .i64 0,.int .i64 0] 39))
  have U0:=hid (pan_alloc (pan_new (w.alloc (pnc a b c 77)) x y z 77) (.cells #[.int .i64 0,.int .i64 0] 39))
  have R0:=hid (owp_new ((w.alloc (pnc a b c 77)).alloc (pnc x y z 77)) (0,0) 39)
  simp only [World.size_alloc] at R0 U0
  have B0:=hid (show Below w.heap.size w (((w.alloc (pnc a b c 77)).alloc (pnc x y z 77)).alloc (.cells #[.int .i64 0,.int .i64 0] 39)) by (repeat' (first|exact Below.refl _ _|refine Below.setCell ?_ (by simp<;>omega) _|refine balloc ?_ _|refine Below.drew ?_|refine bdrewN ?_ _)))
  go_enter Tryz.func55,Tryz.ntmps55
  go_wp2_with fail
  with_reducible refine (C1.out _).mono ?_
  rintro e w1 ⟨rfl,hb1⟩
  obtain ⟨o0,o1,o2,o3,o4⟩:=owp_below R0.out hb1
  have hB:=bstep B0.out hb1
  clear R0 B0
  go_wp2
  refine bodyPost_ret (v:=spr ((0,0),pc)) (by rw [results_cell_tmp rfl];go_simp) rfl ⟨rfl,?_⟩
  (repeat' (first|with_reducible exact hB|(with_reducible refine Below.setCell ?_ (by simp<;>omega) _)))
theorem bet_yes (t u v:P9) (D sc rm p r:Int) (lo hi:P3) (w:World) (C1:Hid (∀ W,Calls Tryz.prog 104 #[p9v t,p9v u,.int .i64 D] W fun e w'=>e=.returned (.int .i64 0)/\Below W.heap.size W w')) (C2:Hid (∀ W,Calls Tryz.prog 105 #[p9v t,.int .i64 D] W fun e w'=>∃ q cp gs,e=.returned (.tuple #[.agg #[.slice (some ⟨q,0,none⟩) gs.length cp,.int .i64 sc,.int .i64 rm],.int .i64 0])/\gs.map Prod.snd=cutP D.toNat t/\RowGs w' q gs.length gs/\Below W.heap.size W w')) (C3:Hid (∀ W,Calls Tryz.prog 107 #[p9v u,.int .i64 sc] W fun e w'=>∃ g,e=.returned (grv g 3 3 lo hi)/\PtB w' g v/\Below W.heap.size W w')) (C4:Hid (∀ W (q cp g:Nat) (gs:List (Nat × P9)),gs.map Prod.snd=cutP D.toNat t->RowGs W q gs.length gs->PtB W g v->Calls Tryz.prog 106 #[.agg #[.slice (some ⟨q,0,none⟩) gs.length cp,.int .i64 sc,.int .i64 rm],grv g 3 3 lo hi] W fun e w'=>e=.returned (.agg #[.int .i64 p,.int .i64 r])/\Below W.heap.size W w')):Calls Tryz.prog 55 #[p9v t,p9v u,.int .i64 D] w fun e w'=>e=.returned (spr ((p,r),0))/\Below w.heap.size w w':=by
  obtain ⟨a,b,c⟩:=t
  obtain ⟨x,y,z⟩:=u
  have P0:=hid (pan_alloc (pan_alloc (pan_new w a b c 77) (pnc x y z 77)) (.cells #[.int .i64 0,.int .i64 0] 39))
  have U0:=hid (pan_alloc (pan_new (w.alloc (pnc a b c 77)) x y z 77) (.cells #[.int .i64 0,.int .i64 0] 39))
  have R0:=hid (owp_new ((w.alloc (pnc a b c 77)).alloc (pnc x y z 77)) (0,0) 39)
  simp only [World.size_alloc] at R0 U0
  have B0:=hid (show Below w.heap.size w (((w.alloc (pnc a b c 77)).alloc (pnc x y z 77)).alloc (.cells #[.int .i64 0,.int .i64 0] 39)) by (repeat' (first|exact Below.refl _ _|refine Below.setCell ?_ (by simp<;>omega) _|refine balloc ?_ _|refine Below.drew ?_|refine bdrewN ?_ _)))
  go_enter Tryz.func55,Tryz.ntmps55
  go_wp2_with fail
  with_reducible refine (C1.out _).mono ?_
  rintro e w1 ⟨rfl,hb1⟩
  have P1:=hid (pan_below P0.out hb1)
  have U1:=hid (pan_below U0.out hb1)
  have R1:=hid (owp_below R0.out hb1)
  have B1:=hid (bstep B0.out hb1)
  clear P0 U0 R0 B0 hb1
  obtain ⟨k0,k1,k2,k3,k4,k5,k6,k7,k8,k9⟩:=id P1.out
  go_wp2_with fail
  with_reducible refine (C2.out _).mono ?_
  rintro e w2 ⟨q,cp,gs,rfl,hgs,hr2,hb2⟩
  have U2:=hid (pan_alloc (pan_below U1.out hb2) (.cells #[.slice (some ⟨q,0,none⟩) gs.length cp,.int .i64 sc,.int .i64 rm] 133))
  have R2:=hid (owp_alloc (owp_below R1.out hb2) (.cells #[.slice (some ⟨q,0,none⟩) gs.length cp,.int .i64 sc,.int .i64 rm] 133))
  have B2:=hid (balloc (bstep B1.out hb2) (.cells #[.slice (some ⟨q,0,none⟩) gs.length cp,.int .i64 sc,.int .i64 rm] 133))
  have S2:=hid (srB_new w2 (.slice (some ⟨q,0,none⟩) gs.length cp) sc rm 133)
  have G2:=hid (rowgs_in hr2 ((Below.refl _ _).alloc (Nat.le_refl _) (.cells #[.slice (some ⟨q,0,none⟩) gs.length cp,.int .i64 sc,.int .i64 rm] 133)))
  have HG:=hid hgs
  have N2:=hid (Nat.lt_of_lt_of_le R1.out.2.2.2.2 hb2.size)
  clear P1 U1 R1 B1 hb2 hr2 hgs k0 k1 k2 k3 k4 k5 k6 k7 k8 k9
  obtain ⟨u0,u1,u2,u3,u4,u5,u6,u7,u8,u9⟩:=id U2.out
  obtain ⟨⟨m0,m1,m2⟩,m9⟩:=id S2.out
  have N3:=N2.out
  have ne3:¬ (w2.heap.size=w.heap.size+1+1):=by omega
  have ne4:¬ (w.heap.size+1+1=w2.heap.size):=by omega
  have S2d:SrB (w2.alloc (.cells #[.slice (some ⟨q,0,none⟩) gs.length cp,.int .i64 sc,.int .i64 rm] 133)).drew w2.heap.size (.slice (some ⟨q,0,none⟩) gs.length cp) sc rm:=S2.out
  have G2d:RowGs (w2.alloc (.cells #[.slice (some ⟨q,0,none⟩) gs.length cp,.int .i64 sc,.int .i64 rm] 133)).drew q gs.length gs:=G2.out
  have R2d:OwP (w2.alloc (.cells #[.slice (some ⟨q,0,none⟩) gs.length cp,.int .i64 sc,.int .i64 rm] 133)).drew (w.heap.size+1+1) (0,0):=R2.out
  have B2d:Below w.heap.size w (w2.alloc (.cells #[.slice (some ⟨q,0,none⟩) gs.length cp,.int .i64 sc,.int .i64 rm] 133)).drew:=Below.drew B2.out
  go_wp2_with fail
  go_region_with (first
   |(go_at_call 107;(refine (C3.out _).mono ?_);rintro e v0 ⟨g,rfl,hpg,hv0⟩;have S3:=srB_below S2d hv0;have G3:=rowgs_in G2d hv0;have R3:=owp_below R2d hv0;have b3:=bstep B2d hv0;obtain ⟨⟨n0,n1,n2⟩,n9⟩:=id S3)
   |(go_at_call 106;(with_reducible refine (C4.out _ q cp g gs HG.out G3 hpg).mono ?_);rintro e v1 ⟨rfl,hv1⟩;obtain ⟨o0,o1,o2,o3,o4⟩:=owp_below R3 hv1;have b4:=bstep b3 hv1))
  all_goals
    go_wp2
    refine bodyPost_ret (v:=spr ((p,r),0)) (by rw [results_cell_tmp rfl];go_simp) rfl ⟨rfl,?_⟩
    (repeat' (first|with_reducible exact b4|(with_reducible refine Below.setCell ?_ (by simp<;>omega) _)))
theorem bet_any (t u:P9) (D:Int) (w:World):Calls Tryz.prog 55 #[p9v t,p9v u,.int .i64 D] w fun e w'=>e=.returned (spr (betF t u D))/\Below w.heap.size w w':=by
  have C1:=fun W=>cpr_any t u D W
  unfold betF
  by_cases h:prc t u D=0
  · rw [if_pos h]
    rw [h] at C1
    obtain ⟨ht,hu,d0,d2⟩:=prc_ok h
    have d3:D<=3:=by omega
    have hB:=pcode_ok9 ht
    have hU:=pcode_ok9 hu
    obtain ⟨_,s1,s2⟩:=scl_vals d0 d3
    have hv:=tm9_bd hU s1 s2
    obtain ⟨r0,r1⟩:=rmF_bd ht d0 d3
    exact bet_yes t u (tm9 (scl D) u) D (scl D) (rmF t D) _ _ _ _ w (hid C1) (hid fun W=>src_any t D W ht hB d0 d3)
      (hid fun W=>(corners_any u.1 u.2.1 u.2.2 (scl D) W (hv.1.mono (by decide)) (hv.2.1.mono (by decide)) (hv.2.2.mono (by decide))).mono (by rintro e w' ⟨g,he,_,hp,hb⟩;exact ⟨g,he,hp,hb⟩))
      (hid fun W q cp g gs hgs hr hp=>sfr_any t (tm9 (scl D) u) D (rmF t D) q cp g gs W hB hv d0 d3 hr hgs hp r0 r1)
  · rw [if_neg h]
    exact bet_no t u D _ w (hid C1) (bne_iff_ne.2 h)
end Go.Proofs.YtbcjiigmbcfkeaaGreat
