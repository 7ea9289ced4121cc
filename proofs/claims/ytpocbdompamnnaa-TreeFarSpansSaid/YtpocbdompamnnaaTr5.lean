import Derived.Shelf.SlSortCmp.QuietGrown
import Derived.Test.YtpocbdompamnnaaTr4
namespace Go.Proofs.Ytpocbdompamnnaa
open Go.ChangeShapes Go.WideShapes Go.RowKit
open Sh
open Go (cell_grown)
open Go.Sort (Holds swp grow)
theorem sw_at {W0 W:World} {ob oo:Nat} {L M:List Nat} (h:SW encN W0 ob oo M.toArray W) (hH:Holds encN W0 ob oo L.toArray) (hl:M.length=L.length) (hb:ob < W0.heap.size) {k:Nat} (hk:k < M.length) :
    W.cell? ⟨ob,oo + k,none⟩=some (.int .i64 ((M.getD k 0:Nat):Int))∧W.frozen? ⟨ob,oo + k,none⟩=false:=by
  have z:=h.holds hb hH (by simpa using hl) k (by simpa using hk)
  rw [getElem!_pos _ k (by simpa using hk)] at z
  rw [List.getD_eq_getElem?_getD,List.getElem?_eq_getElem hk]
  exact z
theorem swp_mid (T D:List Nat) (x y:Nat):swp (T ++ y :: x :: D).toArray (T.length + 1) T.length=(T ++ x :: y :: D).toArray:=by
  have e1:((T ++ y :: x :: D).toArray[T.length]!)=y:=by
    rw [getElem!_pos _ _ (by simp)]
    simp
  have e2:((T ++ y :: x :: D).toArray[T.length + 1]!)=x:=by
    rw [getElem!_pos _ _ (by simp)]
    simp
  unfold swp
  rw [e1,e2,List.setIfInBounds_toArray,List.setIfInBounds_toArray]
  congr 1
  rw [List.set_append_right _ _ (by omega),List.set_append_right _ _ (by omega)]
  simp
theorem sw_swap {W0 W:World} {ob oo:Nat} {T D:List Nat} {x y:Nat} (h:SW encN W0 ob oo (T ++ y :: x :: D).toArray W) (hb:ob < W0.heap.size) :
    SW encN W0 ob oo (T ++ x :: y :: D).toArray ((W.setCell ⟨ob,oo + (T.length + 1),none⟩ (.int .i64 (y:Int))).setCell ⟨ob,oo + T.length,none⟩ (.int .i64 (x:Int))):=by
  have z:=h.swap hb (T.length + 1) T.length (by simp) (by simp)
  rw [swp_mid] at z
  have e1:((T ++ y :: x :: D).toArray[T.length]!)=y:=by
    rw [getElem!_pos _ _ (by simp)]
    simp
  have e2:((T ++ y :: x :: D).toArray[T.length + 1]!)=x:=by
    rw [getElem!_pos _ _ (by simp)]
    simp
  rw [e1,e2] at z
  exact z
theorem sw_swap2 {W0 W:World} {ob oo:Nat} {T D:List Nat} {x y:Nat} (h:SW encN W0 ob oo (T ++ y :: x :: D).toArray W) (hb:ob < W0.heap.size) :
    SW encN W0 ob oo (T ++ x :: y :: D).toArray ((W.setCell ⟨ob,oo + T.length,none⟩ (.int .i64 (x:Int))).setCell ⟨ob,oo + (T.length + 1),none⟩ (.int .i64 (y:Int))):=by
  have z:=h.swap hb T.length (T.length + 1) (by simp) (by simp)
  have e1:((T ++ y :: x :: D).toArray[T.length]!)=y:=by
    rw [getElem!_pos _ _ (by simp)]
    simp
  have e2:((T ++ y :: x :: D).toArray[T.length + 1]!)=x:=by
    rw [getElem!_pos _ _ (by simp)]
    simp
  have e3:swp (T ++ y :: x :: D).toArray T.length (T.length + 1)=(T ++ x :: y :: D).toArray:=by
    unfold swp
    rw [e1,e2,List.setIfInBounds_toArray,List.setIfInBounds_toArray]
    congr 1
    rw [List.set_append_right _ _ (by omega),List.set_append_right _ _ (by omega)]
    simp
  rw [e1,e2,e3] at z
  exact z
theorem getD_mid (T D:List Nat) (x:Nat):(T ++ x :: D).getD T.length 0=x:=by
  rw [List.getD_eq_getElem?_getD,List.getElem?_append_right (Nat.le_refl _),Nat.sub_self]
  rfl
theorem drop_cons9 (L:List Nat) {i:Nat} (h:i < L.length):L.drop i=L.getD i 0 :: L.drop (i + 1):=by
  rw [List.drop_eq_getElem_cons h,List.getD_eq_getElem?_getD,List.getElem?_eq_getElem h]
  rfl
theorem ins_done {f:Nat→Int} {L A T D:List Nat} {i x:Nat} (hi:i < L.length) (ex:L.getD i 0=x) (p:A.Perm (L.take i)) (s:A.Pairwise (ltK f)) (e:A=T ++ D) (hd:∀ d,d ∈ D→ltK f x d) (ht:∀ t,t ∈ T→ltK f t x):(T ++ x :: D).Perm (L.take (i + 1))∧(T ++ x :: D).Pairwise (ltK f):=by
  subst e
  obtain ⟨q1,q2,q3⟩:=List.pairwise_append.1 s
  refine ⟨?_,List.pairwise_append.2 ⟨q1,List.pairwise_cons.2 ⟨hd,q2⟩,fun t m b mb=>?_⟩⟩
  · rw [take_snoc9 L hi,ex]
    exact List.perm_middle.trans ((p.cons x).trans (List.perm_append_singleton x (L.take i)).symm)
  · rcases List.mem_cons.1 mb with e | mb
    · rw [e];exact ht t m
    · exact q3 t m b mb
theorem ins_ne {L A T D:List Nat} {i x:Nat} (nd:L.Nodup) (hi:i < L.length) (ex:L.getD i 0=x) (p:A.Perm (L.take i)) (e:A=T ++ D) {y:Nat} (hy:y ∈ T):y ≠ x∧y ∈ L:=by
  have ym:y ∈ L.take i:=p.mem_iff.1 (e ▸ List.mem_append_left _ hy)
  refine ⟨fun h=>?_,List.mem_of_mem_take ym⟩
  rw [← List.take_append_drop i L,List.nodup_append] at nd
  exact nd.2.2 y ym x (by rw [drop_cons9 L hi,ex];exact List.mem_cons_self ..) h
theorem ins_stop {f:Nat→Int} {A T D:List Nat} {x y:Nat} (s:A.Pairwise (ltK f)) (e:A=(T ++ [y]) ++ D) (ne:y ≠ x) (h:¬ ltK f x y):∀ t,t ∈ T ++ [y]→ltK f t x:=by
  subst e
  have yx:ltK f y x:=by unfold ltK at h ⊢;omega
  obtain ⟨q1,_,_⟩:=List.pairwise_append.1 s
  obtain ⟨_,_,q3⟩:=List.pairwise_append.1 q1
  intro t m
  rcases List.mem_append.1 m with m | m
  · exact ltK_trans (q3 t m y (List.mem_singleton.2 rfl)) yx
  · rw [List.mem_singleton.1 m];exact yx
set_option maxRecDepth 100000 in
set_option maxHeartbeats 4000000 in
theorem insN_any (ob oo m cc:Nat) (f:Nat→Int) (L:List Nat) (rc:Value) (W0 w:World) (hm:L.length=m) (hm1:1≤m) (h96:m≤96) (nd:L.Nodup) (hH:Holds encN W0 ob oo L.toArray) (hb:ob < W0.heap.size) (h0:SW encN W0 ob oo L.toArray w) (CM:Hid (∀ (M:List Nat) W,M.length=L.length→SW encN W0 ob oo M.toArray W→∀ a b:Nat,a ∈ L→b ∈ L→Calls Try.prog 76 #[rc,.int .i64 (a:Int),.int .i64 (b:Int)] W fun e w'=>e=.returned (.int .i64 (cfN f a b))∧Grw W w')) :
    Calls Try.prog 112 #[.slice (some ⟨ob,oo,none⟩) m cc,.int .i64 0,.int .i64 (m:Int),.func (.func 76) #[rc] #[]] w fun e w'=>e=.returned (.tuple #[])∧SW encN W0 ob oo (srtK f L).toArray w':=by
  have S0:=Lib.hid h0
  have HH:=Lib.hid hH
  have ND:=Lib.hid nd
  have LM:=Lib.hid hm
  clear h0 hH nd hm
  go_enter Try.func112,Try.ntmps112
  go_wp2
  go_loopw [8] (fun kv wr=>∃ i A,1≤i∧i≤m∧kv=.int .i64 (i:Nat)∧A.Perm (L.take i)∧A.Pairwise (ltK f)∧SW encN W0 ob oo (A ++ L.drop i).toArray wr) (fun kv _=>m - (intOf kv).toNat)
  case atStart =>
    refine ⟨1,L.take 1,Nat.le_refl _,hm1,rfl,List.Perm.refl _,?_,by rw [List.take_append_drop];exact S0.out⟩
    rw [take_snoc9 L (by rw [LM.out];omega)]
    exact List.pairwise_singleton _ _
  case round =>
    obtain ⟨i,A,hi1,hi,rfl,ap,hs,sw⟩:=hrel
    have AP:=Lib.hid ap
    have AS:=Lib.hid hs
    have S1:=Lib.hid sw
    clear ap hs sw S0
    by_cases hlt:i < m
    · have hk1:(i:Int) < (m:Int):=by omega
      have AL:=Lib.hid (show A.length=i by rw [AP.out.length_eq,List.length_take,LM.out];omega)
      obtain ⟨x,ex⟩:∃ x,L.getD i 0=x:=⟨_,rfl⟩
      have EX:=Lib.hid ex
      have XL:=Lib.hid (show x ∈ L by rw [← ex];exact getD_mem9 (by rw [LM.out];omega))
      have S2:=Lib.hid (show SW encN W0 ob oo ((A ++ x :: []) ++ L.drop (i + 1)).toArray wr by have z:=S1.out;rw [drop_cons9 L (by rw [LM.out];omega),ex] at z;rw [List.append_assoc];exact z)
      clear ex S1
      go_wp2
      go_loopw [9] (fun kv wr'=>∃ T D,T.length≤i∧kv=.int .i64 (T.length:Nat)∧A=T ++ D∧(∀ d,d ∈ D→ltK f x d)∧SW encN W0 ob oo ((T ++ x :: D) ++ L.drop (i + 1)).toArray wr') (fun kv _=>(intOf kv).toNat)
      case atStart=>exact ⟨A,[],by rw [AL.out];exact Nat.le_refl _,by rw [AL.out],(List.append_nil A).symm,fun _ h=>absurd h (List.not_mem_nil),S2.out⟩
      case round =>
        obtain ⟨T,D,ht,rfl,ae,dd,sw⟩:=hrel
        have AE:=Lib.hid ae
        have DD:=Lib.hid dd
        have S3:=Lib.hid sw
        clear ae dd sw S2
        rcases List.eq_nil_or_concat T with et | ⟨T1,y,et⟩
        · have ET:=Lib.hid et
          have t0:T.length=0:=by rw [et];rfl
          rw [t0]
          clear et
          go_wp2_with fail
          go_quiet (fail)
          go_wp2
          go_roundw
          case rel=>exact ⟨i + 1,T ++ x :: D,by omega,by omega,by go_num,(ins_done (by rw [LM.out];omega) EX.out AP.out AS.out AE.out DD.out (by rw [ET.out];exact fun _ h=>absurd h (List.not_mem_nil))).1,(ins_done (by rw [LM.out];omega) EX.out AP.out AS.out AE.out DD.out (by rw [ET.out];exact fun _ h=>absurd h (List.not_mem_nil))).2,S3.out.drewN _⟩
          case measure=>simp [intOf];omega
        · rw [List.concat_eq_append] at et
          obtain ⟨j,ej⟩:∃ j,T1.length=j:=⟨_,rfl⟩
          have tl:T.length=j + 1:=by rw [et,List.length_append,ej];rfl
          have YN:=Lib.hid (ins_ne ND.out (by rw [LM.out];omega) EX.out AP.out AE.out (y:=y) (by rw [et];exact List.mem_append_right _ (List.mem_singleton.2 rfl)))
          have S4:=Lib.hid (show SW encN W0 ob oo (T1 ++ y :: x :: (D ++ L.drop (i + 1))).toArray wr by have z:=S3.out;rw [et] at z;simpa using z)
          have ML:=Lib.hid (show (T1 ++ y :: x :: (D ++ L.drop (i + 1))).length=L.length by
            have z1:=AL.out
            rw [AE.out,List.length_append,tl] at z1
            simp only [List.length_append,List.length_cons,List.length_drop,ej]
            rw [LM.out]
            omega)
          have C1:=sw_at S4.out HH.out ML.out hb (k:=j + 1) (by rw [ML.out,LM.out];omega)
          have C0:=sw_at S4.out HH.out ML.out hb (k:=j) (by rw [ML.out,LM.out];omega)
          rw [← ej,show T1 ++ y :: x :: (D ++ L.drop (i + 1))=(T1 ++ [y]) ++ x :: (D ++ L.drop (i + 1)) by simp,show T1.length + 1=(T1 ++ [y]).length by simp,getD_mid] at C1
          rw [← ej,getD_mid] at C0
          rw [show (T1 ++ [y]).length=j + 1 by simp [ej]] at C1
          rw [ej] at C0
          obtain ⟨c1,f1⟩:=C1
          obtain ⟨c0,f0⟩:=C0
          have lb:ob < wr.heap.size:=S4.out.lt hb
          have CMP:=Lib.hid (fun (n:Nat) (os:Array Obj)=>((CM.out _ _ ML.out (S4.out.grown n os) x y XL.out YN.out.2).mono fun e w' h=>⟨h.1,grw_is h.2⟩:Calls Try.prog 76 #[rc,.int .i64 (x:Int),.int .i64 (y:Int)] (grow (wr.drewN n) os) fun e w'=>e=.returned (.int .i64 (cfN f x y))∧∃ q os',w'=grow ((grow (wr.drewN n) os).drewN q) os'))
          have q1:=fun n os=>cell_grown (w:=wr) lb c1 n os
          have q0:=fun n os=>cell_grown (w:=wr) lb c0 n os
          have jm:((j + 1:Nat):Int) < (m:Int):=by omega
          have jn:(j:Int) < (m:Int):=by omega
          have je:((j + 1:Nat):Int) - 1=(j:Int):=by omega
          have j0:(0:Int) < ((j + 1:Nat):Int):=by omega
          have jm':(j:Int) + 1 < (m:Int):=by omega
          have jp':(0:Int)≤(j:Int) + 1:=by omega
          have jt':((j:Int) + 1).toNat=j + 1:=by omega
          have je':(j:Int) + 1 - 1=(j:Int):=by omega
          have jp0:(0:Int)≤(j:Int):=by omega
          have jw':IntKind.i64.wrap (j:Int)=(j:Int):=wrap9 (by omega) (by omega)
          have LT:=Lib.hid (cfN_lt f x y)
          rw [tl]
          generalize cfN f x y=z at *
          have mixed:Try.prog.follows .mixedOrders=true:=by kernel_rfl
          go_wp2_with fail
          go_quiet_grown ((go_at_call 76;refine Calls.grown_of (CMP.out _ _)))
          show Exit.then _ _ _ _ (grow (wr.drewN nq) osq)
          have SQ:=Lib.hid (S4.out.grown nq osq)
          have c1':=q1 nq osq
          have c0':=q0 nq osq
          have G1:=(sw_at SQ.out HH.out ML.out hb (k:=j + 1) (by rw [ML.out,LM.out];omega)).2
          have G0:=(sw_at SQ.out HH.out ML.out hb (k:=j) (by rw [ML.out,LM.out];omega)).2
          clear q1 q0 c1 c0 f1 f0 CMP S4 ML lb
          generalize grow (wr.drewN nq) osq=wq at *
          have EJ:=Lib.hid ej
          have ET:=Lib.hid et
          clear ej et
          by_cases hz:z < 0
          · have XY:=Lib.hid (LT.out.1 hz)
            go_wp2
            go_region
            all_goals
              go_wp2
              go_roundw
              case rel =>
                refine ⟨T1,y :: D,by rw [EJ.out];omega,by rw [EJ.out],by rw [AE.out,ET.out,List.append_assoc];rfl,fun d hd=>?_,?_⟩
                · rcases List.mem_cons.1 hd with e | hd
                  · rw [e];exact XY.out
                  · exact DD.out d hd
                · rw [List.append_assoc]
                  have e9:=EJ.out
                  subst e9
                  first
                    | exact sw_swap SQ.out hb
                    | exact sw_swap2 SQ.out hb
                    | exact sw_swap (SQ.out.drewN 1) hb
                    | exact sw_swap2 (SQ.out.drewN 1) hb
                    | exact (sw_swap SQ.out hb).drewN 1
                    | exact (sw_swap2 SQ.out hb).drewN 1
              case measure=>simp [intOf];try omega
          · have zf:decide (z < 0)=false:=decide_eq_false hz
            have ST:=Lib.hid (ins_stop AS.out (by rw [← ET.out];exact AE.out) YN.out.1 (fun c=>hz (LT.out.2 c)))
            have SQ9:=Lib.hid (show SW encN W0 ob oo ((T ++ x :: D) ++ L.drop (i + 1)).toArray wq by have z9:=SQ.out;rw [ET.out];simpa using z9)
            go_wp2
            go_roundw
            case rel=>exact ⟨i + 1,T ++ x :: D,by omega,by omega,by go_num,(ins_done (by rw [LM.out];omega) EX.out AP.out AS.out AE.out DD.out (by rw [ET.out];exact ST.out)).1,(ins_done (by rw [LM.out];omega) EX.out AP.out AS.out AE.out DD.out (by rw [ET.out];exact ST.out)).2,SQ9.out⟩
            case measure=>simp [intOf];omega
    · obtain rfl:i=m:=by omega
      have e1:L.drop i=[]:=List.drop_eq_nil_of_le (by rw [LM.out];exact Nat.le_refl _)
      have e2:L.take i=L:=by rw [← LM.out];exact List.take_length
      have S5:=Lib.hid (show SW encN W0 ob oo (srtK f L).toArray wr by have z:=S1.out;rw [e1,List.append_nil] at z;rw [← srtK_is ND.out (by have:=AP.out;rwa [e2] at this) AS.out];exact z)
      clear e1 e2 S1
      go_wp2
      go_end0
      exact ⟨rfl,S5.out⟩
end Go.Proofs.Ytpocbdompamnnaa
