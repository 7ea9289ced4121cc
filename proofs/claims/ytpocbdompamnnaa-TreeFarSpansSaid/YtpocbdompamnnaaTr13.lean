import Derived.Test.YtpocbdompamnnaaMoR2
import Derived.Test.YtpocbdompamnnaaTr11
import Derived.Test.YtpocbdompamnnaaTr12
namespace Go.Proofs.Ytpocbdompamnnaa
open Go.ChangeShapes Go.WideShapes Go.RowKit
open Sh
def balN (x:Nd) (u:P3 × Int):Nd:=(x.1,x.2.1,x.2.2.1,x.2.2.2.1,u)
theorem nds_ball (A B:List Nd) (x:Nd) (p:P3) (r:Int):((((nds (A ++ x :: B)).set (A.length * 8 + 4) (.int .i64 p.1)).set (A.length * 8 + 5) (.int .i64 p.2.1)).set (A.length * 8 + 6) (.int .i64 p.2.2)).set (A.length * 8 + 7) (.int .i64 r)=nds (A ++ balN x (p,r) :: B):=by
  have e:∀ y:Nd,nds (A ++ y :: B)=nds A ++ (ndv y ++ nds B):=fun y=>by rw [nds_app];rfl
  rw [e,e,List.set_append_right _ _ (by rw [nds_len];omega),List.set_append_right _ _ (by rw [nds_len];omega),List.set_append_right _ _ (by rw [nds_len];omega),List.set_append_right _ _ (by rw [nds_len];omega),nds_len,show A.length * 8 + 4 - A.length * 8=4 by omega,show A.length * 8 + 5 - A.length * 8=5 by omega,show A.length * 8 + 6 - A.length * 8=6 by omega,show A.length * 8 + 7 - A.length * 8=7 by omega]
  rfl
theorem lstC_pick {w:World} {B:Nat} {u:Value} {n:Nat} {Q:Nat→Ch} (h:w.ownsRow B 75 10 u n (ccs Q n)) (h0:0 < n):∃ g c,u=.slice (some ⟨g,0,none⟩) n c∧RowC w g 0 n Q:=by
  obtain ⟨g,cap,e,_,r⟩:=rowC_of h h0
  exact ⟨g,cap,e,r⟩
theorem take_mid9 {A B:List Nd} {x:Nd} {i:Nat} (h:A.length=i):(A ++ x :: B)[i]?=some x:=by
  rw [← h,List.getElem?_append_right (Nat.le_refl _),Nat.sub_self]
  rfl
theorem filC_drop (N:List Nat→P3 × Int) (O:List Nat) (T:List Nd) {i:Nat} {x:Nd} (h:T[i]?=some x):(T.take i).map (filC N O) ++ balN x (N ((O.drop x.1).take (x.2.1 - x.1))) :: T.drop (i + 1)=(T.take (i + 1)).map (filC N O) ++ T.drop (i + 1)∧(T.take i).map (filC N O) ++ x :: T.drop (i + 1)=(T.take i).map (filC N O) ++ T.drop i:=by
  have hi:=(List.getElem?_eq_some_iff.1 h).1
  have hx:=(List.getElem?_eq_some_iff.1 h).2
  constructor
  · rw [List.take_add_one,h]
    show _=List.map _ (List.take i T ++ [x]) ++ _
    rw [List.map_append,List.append_assoc]
    rfl
  · rw [List.drop_eq_getElem_cons hi,hx]
def FitN (n:Nat) (x:Nd):Prop:=x.1 < x.2.1∧x.2.1≤n
def MsS (s:Nat) (w0 w:World) (ob cO n X gb K cN tb:Nat) (O:List Nat) (NL:List Nd):Prop :=
  (w.cell? ⟨tb,0,none⟩=some (.slice (some ⟨ob,0,none⟩) n cO)∧w.cell? ⟨tb,1,none⟩=some (.slice (some ⟨gb,0,none⟩) K cN)∧tb < w.heap.size)∧w.ownsRow s 3 1 (.slice (some ⟨ob,0,none⟩) n cO) n (nvs9 O)∧w.ownsRow X 44 8 (.slice (some ⟨gb,0,none⟩) K cN) K (nds NL)∧w0.grownBy w (some gb)
theorem below_gr9 {w w1:World} (h:Below w.heap.size w w1) (gb:Nat):w.grownBy w1 (some gb):=⟨h.os,h.tape,h.output,h.size,fun k hk _=>h.block k hk⟩
theorem gro_below {w0 w:World} {gb s:Nat} (h:w0.grownBy w (some gb)) (hs:s≤w0.heap.size) (hg:s≤gb):Below s w0 w:=(Below.refl s w0).grown h hs (fun gg hgg=>by simp at hgg;omega)
theorem msS_below {s:Nat} {w0 w W:World} {ob cO n X gb K cN tb:Nat} {O:List Nat} {NL:List Nd} (h:MsS s w0 w ob cO n X gb K cN tb O NL) (_:s≤w.heap.size) (hb:Below w.heap.size w W):MsS s w0 W ob cO n X gb K cN tb O NL:=by
  obtain ⟨⟨a0,a1,a2⟩,o1,o2,bl⟩:=h
  exact ⟨⟨(hb.cell (p:=⟨tb,0,none⟩) a2).trans a0,(hb.cell (p:=⟨tb,1,none⟩) a2).trans a1,Nat.lt_of_lt_of_le a2 hb.size⟩,tr_own_below o1 hb,tr_own_below o2 hb,⟨hb.os.trans bl.os,hb.tape.trans bl.tape,hb.output.trans bl.output,Nat.le_trans bl.size hb.size,fun k hk hne=>(hb.block k (Nat.lt_of_lt_of_le hk bl.size)).trans (bl.block k hk hne)⟩⟩
theorem msS_set {s:Nat} {w0 w:World} {ob cO n X gb K cN tb j:Nat} {O:List Nat} {NL:List Nd} (h:MsS s w0 w ob cO n X gb K cN tb O NL) (n1:tb ≠ gb) (n2:ob ≠ gb) (_:s≤gb) (v:Value) (NL':List Nd) (e:(nds NL).set j v=nds NL'):MsS s w0 (w.setCell ⟨gb,j,none⟩ v) ob cO n X gb K cN tb O NL':=by
  obtain ⟨⟨a0,a1,a2⟩,o1,o2,bl⟩:=h
  refine ⟨⟨?_,?_,by simp;exact a2⟩,ownsRow_setCell_other o1 (by simp [Value.ownBlock];exact n2) v,?_,⟨bl.os,bl.tape,bl.output,by simp;exact bl.size,fun k hk hne=>?_⟩⟩
  · rw [World.cell?_setCell_other _ _ _ _ (by simp <;> omega)];exact a0
  · rw [World.cell?_setCell_other _ _ _ _ (by simp <;> omega)];exact a1
  · rw [← e];exact (o2.stored j v).1
  · rw [← bl.block k hk hne]
    have ne:gb ≠ k:=fun z=>hne (by rw [z])
    rw [Go.Sort.setCell_eq]
    simp [Go.Sort.mapBlock,Array.getElem?_modify,ne]
def setN (x:Nd) (j:Nat) (v:Int):Nd :=
  if j=4 then (x.1,x.2.1,x.2.2.1,x.2.2.2.1,(v,x.2.2.2.2.1.2),x.2.2.2.2.2) else if j=5 then (x.1,x.2.1,x.2.2.1,x.2.2.2.1,(x.2.2.2.2.1.1,v,x.2.2.2.2.1.2.2),x.2.2.2.2.2) else if j=6 then (x.1,x.2.1,x.2.2.1,x.2.2.2.1,(x.2.2.2.2.1.1,x.2.2.2.2.1.2.1,v),x.2.2.2.2.2) else (x.1,x.2.1,x.2.2.1,x.2.2.2.1,x.2.2.2.2.1,v)
theorem nds_setN (A B:List Nd) (x:Nd) {j:Nat} (h1:4≤j) (h2:j < 8) (v:Int) {i:Nat} (hi:A.length=i):(nds (A ++ x :: B)).set (i * 8 + j) (.int .i64 v)=nds (A ++ setN x j v :: B):=by
  subst hi
  have e:∀ y:Nd,nds (A ++ y :: B)=nds A ++ (ndv y ++ nds B):=fun y=>by rw [nds_app];rfl
  rw [e,e,List.set_append_right _ _ (by rw [nds_len];omega),nds_len,show A.length * 8 + j - A.length * 8=j by omega]
  have:j=4∨j=5∨j=6∨j=7:=by omega
  rcases this with rfl | rfl | rfl | rfl
  · rfl
  · rfl
  · rfl
  · rfl
theorem setN_all (x:Nd) (p:P3) (r:Int):setN (setN (setN (setN x 4 p.1) 5 p.2.1) 6 p.2.2) 7 r=balN x (p,r):=rfl
theorem rowC_set {w:World} {g off m gb j:Nat} {Q:Nat→Ch} (h:RowC w g off m Q) (ne:g ≠ gb) (v:Value):RowC (w.setCell ⟨gb,j,none⟩ v) g off m Q:=by
  refine ⟨by simp;exact h.1,fun k hk=>?_⟩
  have z:=fun o=>World.cell?_setCell_other w ⟨gb,j,none⟩ ⟨g,o,none⟩ v (by simp <;> omega)
  simp only [z]
  exact h.2 k hk
theorem chR_own {w:World} {B ob cO n fr tu:Nat} {O:List Nat} (ho:w.ownsRow B 3 1 (.slice (some ⟨ob,0,none⟩) n cO) n (nvs9 O)) (h1:fr < tu) (h2:tu≤n):ChR w ob fr ((O.drop fr).take (tu - fr))∧((O.drop fr).take (tu - fr)).length=tu - fr:=by
  have hn:=ho.1
  rw [nvs9_len] at hn
  have hl:((O.drop fr).take (tu - fr)).length=tu - fr:=by
    rw [List.length_take,List.length_drop]
    omega
  refine ⟨⟨(ho.lt ob rfl).2,fun k hk=>?_⟩,hl⟩
  rw [hl] at hk
  rw [ho.cellAt (fr + k) (by omega),nvs9_at (by omega)]
  congr 3
  rw [List.getD_eq_getElem?_getD,List.getD_eq_getElem?_getD,List.getElem?_take,if_pos (by omega),List.getElem?_drop]
theorem chcodes_at {Q:Nat→Ch}:∀ {n:Nat},chcodes Q n=0→∀ k,k < n→chcode (Q k)=0
  | 0,_,k,hk=>absurd hk (Nat.not_lt_zero k)
  | n + 1,h,k,hk=>by
    have h:(if chcodes Q n=0 then chcode (Q n) else chcodes Q n)=0:=h
    by_cases z:chcodes Q n=0
    · rw [if_pos z] at h
      rcases Nat.lt_succ_iff_lt_or_eq.1 hk with hk | hk
      · exact chcodes_at z k hk
      · rw [hk];exact h
    · rw [if_neg z] at h
      exact absurd h z
theorem chcodes_mk9 {Q:Nat→Ch}:∀ {n:Nat},(∀ k,k < n→chcode (Q k)=0)→chcodes Q n=0
  | 0,_=>rfl
  | n + 1,h=>by
    show (if chcodes Q n=0 then chcode (Q n) else chcodes Q n)=0
    rw [if_pos (chcodes_mk9 fun k hk=>h k (by omega)),h n (by omega)]
theorem ocode_sel {Q:Nat→Ch} {n m:Nat} {L:List Nat} {p:P3} (h:chcodes Q n=0) (hl:∀ i,i ∈ L→i < n) (hm:L.length=m) (h96:m≤96) (hp:BdP 64 p):ocode m (selC Q L) p=0:=by
  have c:chcodes (selC Q L) m=0:=chcodes_mk9 fun k hk=>chcodes_at h _ (hl _ (getD_mem9 (by omega)))
  unfold ocode ccode
  rw [if_neg (show ¬ 96 < m by omega),c,if_pos rfl,inP_iff.2 hp]
  rfl
set_option maxRecDepth 100000 in
set_option maxHeartbeats 4000000 in
theorem meas_any (b off n c ob cO gb K cN s X:Nat) (Q:Nat→Ch) (O:List Nat) (T:List Nd) (w:World) (rc:RowC w b off n Q) (h96:n≤96) (hbs:b < s) (hs:s≤w.heap.size) (hX:ob < X) (ho:w.ownsRow s 3 1 (.slice (some ⟨ob,0,none⟩) n cO) n (nvs9 O)) (hn:w.ownsRow X 44 8 (.slice (some ⟨gb,0,none⟩) K cN) K (nds T)) (hK:T.length=K) (hKb:K≤1000) (fit:∀ x,x ∈ T→FitN n x) (hO:∀ i,i ∈ O→i < n) (hc:chcodes Q n=0) (bd:BdQ Q (List.range n)) :
    Calls Try.prog 25 #[.slice (some ⟨b,off,none⟩) n c,.agg #[.slice (some ⟨ob,0,none⟩) n cO,.slice (some ⟨gb,0,none⟩) K cN]] w fun e w'=>e=.returned (.int .i64 0)∧w'.ownsRow s 3 1 (.slice (some ⟨ob,0,none⟩) n cO) n (nvs9 O)∧w'.ownsRow X 44 8 (.slice (some ⟨gb,0,none⟩) K cN) K (nds (T.map (filC (ballC Q) O)))∧Below s w w'∧w.grownBy w' (some gb):=by
  have hKb':(K:Int)≤1000:=by omega
  have lo:=ho.lt ob rfl
  have lg:=hn.lt gb rfl
  have hcO:n≤cO:=by
    rcases ho.2 with ⟨e0,_⟩ | ⟨g,cap,cur,e0,_,_,z,_⟩
    · cases e0
    · injection e0 with _ _ e3
      omega
  have RC:=Lib.hid rc
  have FT:=Lib.hid fit
  have HO:=Lib.hid hO
  have HC:=Lib.hid hc
  have BD:=Lib.hid bd
  have LT:=Lib.hid hK
  have M0:=Lib.hid (show MsS s w (w.alloc (.cells #[.slice (some ⟨ob,0,none⟩) n cO,.slice (some ⟨gb,0,none⟩) K cN] 27)) ob cO n X gb K cN w.heap.size O ((T.take 0).map (filC (ballC Q) O) ++ T.drop 0) from ⟨⟨by go_simp,by go_simp,by simp⟩,ho.alloc _,by simpa using hn.alloc _,below_gr9 ((Below.refl w.heap.size w).alloc (Nat.le_refl _) _) gb⟩)
  have S0:=Lib.hid (show s≤(w.alloc (.cells #[.slice (some ⟨ob,0,none⟩) n cO,.slice (some ⟨gb,0,none⟩) K cN] 27)).heap.size by simp;omega)
  have tbn:w.heap.size ≠ gb:=by omega
  have obn:ob ≠ gb:=by omega
  have sgb:s≤gb:=by omega
  clear rc fit hO hc bd hK ho hn
  go_enter Try.func25,Try.ntmps25
  obtain ⟨⟨a0,a1,a2⟩,_,_,_⟩:=M0.out
  go_upto_region 2 with fail
  generalize w.alloc (.cells #[.slice (some ⟨ob,0,none⟩) n cO,.slice (some ⟨gb,0,none⟩) K cN] 27)=w2 at *
  clear a0 a1 a2
  go_wp2
  go_loopw [13] (fun kv wr=>∃ k:Nat,k≤K∧kv=.int .i64 k∧s≤wr.heap.size∧MsS s w wr ob cO n X gb K cN w.heap.size O ((T.take k).map (filC (ballC Q) O) ++ T.drop k)) (fun kv _=>K - (intOf kv).toNat)
  case atStart=>exact ⟨0,Nat.zero_le _,rfl,S0.out,M0.out⟩
  case round =>
    obtain ⟨k,hk,rfl,hsz,hm0⟩:=hrel
    have M1:=Lib.hid hm0
    clear hm0 M0 S0
    by_cases hlt:k < K
    · have hk1:(k:Int) < (K:Int):=by omega
      obtain ⟨x,hx⟩:∃ x,T[k]?=some x:=⟨T[k]'(by rw [LT.out];omega),List.getElem?_eq_getElem (by rw [LT.out];omega)⟩
      have ft:=FT.out x (List.mem_of_getElem? hx)
      have FD:=Lib.hid (filC_drop (ballC Q) O T hx)
      have M2:=Lib.hid (show MsS s w wr ob cO n X gb K cN w.heap.size O ((T.take k).map (filC (ballC Q) O) ++ x :: T.drop (k + 1)) by rw [FD.out.2];exact M1.out)
      have AL:=Lib.hid (show ((T.take k).map (filC (ballC Q) O)).length=k by rw [List.length_map,List.length_take,LT.out];omega)
      have at_:=fun (V:World) (NL:List Nd) (y:Nd) (h:MsS s w V ob cO n X gb K cN w.heap.size O NL) (hy:NL[k]?=some y) (j:Nat) (hj:j < 8)=>(show V.cell? ⟨gb,k * 8 + j,none⟩=(ndv y)[j]?∧V.frozen? ⟨gb,k * 8 + j,none⟩=false from ⟨by rw [h.2.2.1.cellAt (k * 8 + j) (by omega)];exact nds_at hy hj,h.2.2.1.frozenAt _⟩)
      have ATT:=Lib.hid at_
      clear at_
      obtain ⟨cr,hl⟩:=chR_own M2.out.2.1 ft.1 ft.2
      have RC1:=rowC_in RC.out (gro_below M2.out.2.2.2 hs sgb) hbs
      have hL:∀ i,i ∈ (O.drop x.1).take (x.2.1 - x.1)→i < n:=fun i hi=>HO.out i (List.mem_of_mem_drop (List.mem_of_mem_take hi))
      have FDB:=Lib.hid (show balN x (ballC Q ((O.drop x.1).take (x.2.1 - x.1)))=balN x (cenC Q ((O.drop x.1).take (x.2.1 - x.1)),rdC Q (cenC Q ((O.drop x.1).take (x.2.1 - x.1))) ((O.drop x.1).take (x.2.1 - x.1))) from rfl)
      have bdL:BdQ Q ((O.drop x.1).take (x.2.1 - x.1)):=fun i hi=>BD.out i (List.mem_range.2 (hL i hi))
      obtain ⟨L,eL⟩:∃ L,(O.drop x.1).take (x.2.1 - x.1)=L:=⟨_,rfl⟩
      rw [eL] at cr hl hL FD bdL FDB
      have c0:wr.cell? ⟨gb,k * 8,none⟩=some (.int .i64 (x.1:Int)):=(ATT.out wr _ x M2.out (take_mid9 AL.out) 0 (by decide)).1
      have c1:wr.cell? ⟨gb,k * 8 + 1,none⟩=some (.int .i64 (x.2.1:Int)):=(ATT.out wr _ x M2.out (take_mid9 AL.out) 1 (by decide)).1
      obtain ⟨f1,f2⟩:=ft
      have lgw:gb < wr.heap.size:=(M2.out.2.2.1.lt gb rfl).2
      have PK:=Lib.hid (pick_walk b off n c ob x.1 (x.2.1 - x.1) (cO - x.1) k Q L wr hl (by omega) hL RC1 cr (.slice (some ⟨ob,0,none⟩) n cO) (.slice (some ⟨gb,0,none⟩) K cN)
        (Lib.hid fun W B=>places_any ob cO n gb K cN k x.1 x.2.1 W hlt f1 f2 hcO hKb (Nat.lt_of_lt_of_le lgw B.size) ((B.cell (p:=⟨gb,k * 8,none⟩) lgw).trans c0) ((B.cell (p:=⟨gb,k * 8 + 1,none⟩) lgw).trans c1)))
      have OC:=Lib.hid (ocode_sel HC.out hL hl (by omega) (cenC_bd bdL))
      obtain ⟨m,em⟩:∃ m,x.2.1 - x.1=m:=⟨_,rfl⟩
      rw [em] at PK hl OC
      have m1:1≤m:=by omega
      have m96:m≤96:=by omega
      have HL:=Lib.hid hl
      have BL:=Lib.hid bdL
      clear c0 c1 cr RC1 hL bdL eL hl M1 FT
      obtain ⟨⟨a0,a1,a2⟩,_,_,_⟩:=M2.out
      go_wp2_with fail
      with_reducible refine PK.out.mono ?_
      rintro e w5 ⟨v,rfl,ow,hb5⟩
      obtain ⟨g,cap,rfl,r5⟩:=lstC_pick ow (by omega)
      have M5:=Lib.hid (msS_below M2.out hsz hb5)
      have s5:s≤w5.heap.size:=Nat.le_trans hsz hb5.size
      have gne:g ≠ gb:=by have:=(ow.lt g rfl).1;omega
      have R5:=Lib.hid r5
      have CE:=Lib.hid (center_any g 0 m cap Q L w5 HL.out m1 m96 r5 BL.out)
      obtain ⟨pc,ep⟩:∃ pc,cenC Q L=pc:=⟨_,rfl⟩
      rw [ep] at CE OC FDB
      have RAD:=Lib.hid (fun W (r:LstC W (some ⟨g,0,none⟩) m (selC Q L))=>(by have z:=pr2_any (some ⟨g,0,none⟩) m cap (selC Q L) pc W r (by omega);rw [OC.out,if_pos rfl] at z;exact z:Calls Try.prog 52 #[.slice (some ⟨g,0,none⟩) m cap,ptv pc] W fun e w'=>e=.returned (.tuple #[.int .i64 (far2 pc (selC Q L) m),.int .i64 0])∧Below W.heap.size W w'))
      have RDE:=Lib.hid (show rdC Q pc L=far2 pc (selC Q L) m by unfold rdC;rw [HL.out])
      clear ep OC
      clear a0 a1 a2 ow hb5 M2 PK r5
      go_wp2_with fail
      with_reducible refine CE.out.mono ?_
      rintro e w6 ⟨rfl,hb6⟩
      have M6:=Lib.hid (msS_below M5.out s5 hb6)
      have R6:=Lib.hid (rowC_in R5.out hb6 R5.out.1)
      have s6:s≤w6.heap.size:=Nat.le_trans s5 hb6.size
      obtain ⟨p1,p2,p3⟩:=pc
      have q4:=ATT.out w6 _ x M6.out (take_mid9 AL.out) 4 (by decide)
      have q5:=ATT.out w6 _ x M6.out (take_mid9 AL.out) 5 (by decide)
      have q6:=ATT.out w6 _ x M6.out (take_mid9 AL.out) 6 (by decide)
      have k4:w6.cell? ⟨gb,k * 8 + 4,none⟩=some (.int .i64 x.2.2.2.2.1.1):=q4.1
      have k5:w6.cell? ⟨gb,k * 8 + 4 + 1,none⟩=some (.int .i64 x.2.2.2.2.1.2.1):=q5.1
      have k6:w6.cell? ⟨gb,k * 8 + 4 + 1 + 1,none⟩=some (.int .i64 x.2.2.2.2.1.2.2):=q6.1
      have z4:w6.frozen? ⟨gb,k * 8 + 4,none⟩=false:=q4.2
      have z5:w6.frozen? ⟨gb,k * 8 + 4 + 1,none⟩=false:=q5.2
      have z6:w6.frozen? ⟨gb,k * 8 + 4 + 1 + 1,none⟩=false:=q6.2
      clear q4 q5 q6 hb6 CE
      generalize hrd:far2 (p1,p2,p3) (selC Q L) m=rd at *
      clear hrd
      go_wp2_with fail
      have M7:=Lib.hid (msS_set (msS_set (msS_set M6.out tbn obn sgb (.int .i64 p1) _ (nds_setN _ _ x (j:=4) (by decide) (by decide) p1 AL.out)) tbn obn sgb (.int .i64 p2) _ (nds_setN _ _ _ (j:=5) (by decide) (by decide) p2 AL.out)) tbn obn sgb (.int .i64 p3) _ (nds_setN _ _ _ (j:=6) (by decide) (by decide) p3 AL.out))
      have s7:s≤(((w6.setCell ⟨gb,k * 8 + 4,none⟩ (.int .i64 p1)).setCell ⟨gb,k * 8 + 5,none⟩ (.int .i64 p2)).setCell ⟨gb,k * 8 + 6,none⟩ (.int .i64 p3)).heap.size:=by simp;exact s6
      with_reducible refine (RAD.out _ ?_).mono ?_
      · exact fun _=>⟨g,0,rfl,rowC_set (rowC_set (rowC_set R6.out gne _) gne _) gne _⟩
      rintro e w8 ⟨rfl,hb8⟩
      have M8:=Lib.hid (msS_below M7.out s7 hb8)
      have s8:s≤w8.heap.size:=Nat.le_trans s7 hb8.size
      have q7:=ATT.out w8 _ _ M8.out (take_mid9 AL.out) 7 (by decide)
      have k7:w8.cell? ⟨gb,k * 8 + 7,none⟩=some (.int .i64 x.2.2.2.2.2):=q7.1
      have z7:=q7.2
      clear q7 k4 k5 k6 z4 z5 z6 M7 s7 hb8 RAD
      go_wp2
      go_roundw
      case rel=>exact ⟨k + 1,by omega,by go_num,by simp;exact s8,by rw [← FD.out.1,FDB.out,RDE.out,← setN_all];exact msS_set M8.out tbn obn sgb _ _ (nds_setN _ _ _ (j:=7) (by decide) (by decide) rd AL.out)⟩
      case measure=>simp [intOf];omega
    · obtain rfl:k=K:=by omega
      have q:=M1.out
      rw [show T.take k=T by rw [← LT.out];exact List.take_length,show T.drop k=[] by rw [← LT.out];exact List.drop_length,List.append_nil] at q
      clear M1
      go_wp2
      go_ret
      exact ⟨rfl,q.2.1,q.2.2.1,gro_below q.2.2.2 hs sgb,q.2.2.2⟩
end Go.Proofs.Ytpocbdompamnnaa
