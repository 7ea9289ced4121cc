import Derived.Laws.OwnMore
import Derived.BigQuiet
import Derived.Test.YtgchcnpgjfoadaaGreatSo55
namespace Go.Proofs.YtgchcnpgjfoadaaGreat
open Go.ChangeShapes Go.WideShapes Go.RowKit
open Sh
def ltA (f g:Nat→Int) (a b:Nat):Prop:=f a < f b∨(f a=f b∧(g a < g b∨(g a=g b∧a < b)))
theorem ltA_asym {f g:Nat→Int} {a b:Nat} (h:ltA f g a b) (k:ltA f g b a):False:=by
  unfold ltA at h k
  omega
theorem ltA_trans {f g:Nat→Int} {a b c:Nat} (h:ltA f g a b) (k:ltA f g b c):ltA f g a c:=by
  unfold ltA at h k ⊢
  omega
def SrtA (f g:Nat→Int) (n:Nat) (L:List Nat):Prop:=L.Perm (List.range n)∧L.Pairwise (ltA f g)
theorem srt_uniq {f g:Nat→Int}:∀ {L M:List Nat},L.Perm M→L.Pairwise (ltA f g)→M.Pairwise (ltA f g)→L=M
  | [],M,h,_,_=>(List.Perm.nil_eq h)
  | a :: L,[],h,_,_=>absurd h.length_eq (by simp)
  | a :: L,b :: M,h,hl,hm=>by
    have ha:=List.pairwise_cons.1 hl
    have hb:=List.pairwise_cons.1 hm
    have e:a=b:=by
      have m1:a ∈ b :: M:=h.mem_iff.1 (List.mem_cons_self ..)
      have m2:b ∈ a :: L:=h.mem_iff.2 (List.mem_cons_self ..)
      rcases List.mem_cons.1 m1 with e | m1
      · exact e
      rcases List.mem_cons.1 m2 with e | m2
      · exact e.symm
      · exact (ltA_asym (ha.1 b m2) (hb.1 a m1)).elim
    subst e
    rw [srt_uniq (List.Perm.cons_inv h) ha.2 hb.2]
def nvs (L:List Nat):List Value:=L.map fun (i:Nat)=>Value.int .i64 ((i:Nat):Int)
theorem nvs_app (L M:List Nat):nvs (L ++ M)=nvs L ++ nvs M:=by simp [nvs]
theorem nvs_mid (T:List Nat) (a:Nat) (D:List Nat):(nvs (T ++ a :: D))[T.length]?=some (.int .i64 (a:Int)):=by simp [nvs]
theorem nvs_set (T:List Nat) (a b:Nat) (D:List Nat):(nvs (T ++ a :: D)).set T.length (.int .i64 (b:Int))=nvs (T ++ b :: D):=by
  unfold nvs
  rw [List.map_append,List.map_append,List.set_append_right _ _ (by simp)]
  simp
theorem srt_ins {f g:Nat→Int} {i:Nat} {L T D:List Nat} (h:SrtA f g i L) (e:L=T ++ D) (hd:∀ d,d ∈ D→ltA f g i d) (ht:∀ t,t ∈ T→ltA f g t i):SrtA f g (i + 1) (T ++ i :: D):=by
  subst e
  obtain ⟨p,q⟩:=h
  obtain ⟨q1,q2,q3⟩:=List.pairwise_append.1 q
  refine ⟨?_,List.pairwise_append.2 ⟨q1,List.pairwise_cons.2 ⟨hd,q2⟩,fun t m b mb=>?_⟩⟩
  · rw [List.range_succ]
    exact List.perm_middle.trans ((p.cons i).trans (List.perm_append_singleton i (List.range i)).symm)
  · rcases List.mem_cons.1 mb with e | mb
    · rw [e];exact ht t m
    · exact q3 t m b mb
theorem srt_lt {f g:Nat→Int} {i:Nat} {L:List Nat} (h:SrtA f g i L) {a:Nat} (m:a ∈ L):a < i:=List.mem_range.1 (h.1.mem_iff.1 m)
theorem srt_last {f g:Nat→Int} {i a:Nat} {T D:List Nat} (h:SrtA f g i ((T ++ [a]) ++ D)) (k:ltA f g a i):∀ t,t ∈ T ++ [a]→ltA f g t i:=by
  intro t m
  obtain ⟨q1,_,_⟩:=List.pairwise_append.1 h.2
  obtain ⟨_,_,q3⟩:=List.pairwise_append.1 q1
  rcases List.mem_append.1 m with m | m
  · exact ltA_trans (q3 t m a (List.mem_singleton.2 rfl)) k
  · rw [List.mem_singleton.1 m];exact k
theorem nvs_swap (T:List Nat) (a i:Nat) (D:List Nat):((nvs ((T ++ [a]) ++ i :: D)).set T.length (.int .i64 (i:Int))).set (T.length + 1) (.int .i64 (a:Int))=nvs (T ++ i :: a :: D):=by
  have e1:(T ++ [a]) ++ i :: D=T ++ a :: i :: D:=by simp
  have e2:T ++ i :: i :: D=(T ++ [i]) ++ i :: D:=by simp
  have e3:(T ++ [i]) ++ a :: D=T ++ i :: a :: D:=by simp
  have e4:T.length + 1=(T ++ [i]).length:=by simp
  rw [e1,nvs_set T a i (i :: D),e2,e4,nvs_set (T ++ [i]) i a D,e3]
theorem row_swap {W:World} {B gb cap n t a i:Nat} {T D:List Nat} (h:W.ownsRow B 3 1 (.slice (some ⟨gb,0,none⟩) n cap) n (nvs ((T ++ [a]) ++ i :: D))) (ht:T.length=t) :
    ((W.setCell ⟨gb,t,none⟩ (.int .i64 (i:Int))).setCell ⟨gb,t + 1,none⟩ (.int .i64 (a:Int))).ownsRow B 3 1 (.slice (some ⟨gb,0,none⟩) n cap) n (nvs (T ++ i :: a :: D)):=by
  subst ht
  have:=((h.stored T.length (.int .i64 (i:Int))).1.stored (T.length + 1) (.int .i64 (a:Int))).1
  rwa [nvs_swap] at this
set_option maxRecDepth 100000 in
set_option maxHeartbeats 4000000 in
theorem ror_v (a:Option Addr) (n c:Nat) (x:P3) (s:Int) (vc:Int) (w:World) (V:Hid (∀ W,Below w.heap.size w W→Calls Tryz.prog 38 #[.slice a n c] W fun e w'=>e=.returned (.int .i64 vc)∧Below W.heap.size W w')) (z:(vc != 0)=true):Calls Tryz.prog 19 #[.slice a n c,ptv x,.int .i64 s] w fun e w'=>e=.returned (.tuple #[.slice none 0 0,.int .i64 vc])∧Below w.heap.size w w':=by
  have X0:=Lib.hid (own_new w x 24)
  have B0:=Lib.hid (show Below w.heap.size w (w.alloc (ptc x 24)) by (repeat' (first | exact Below.refl _ _ | refine Below.setCell ?_ (by simp <;> omega) _ | refine balloc ?_ _ | refine Below.drew ?_ | refine bdrewN ?_ _)))
  go_enter Tryz.func19,Tryz.ntmps19
  go_wp2_with fail
  refine (V.out _ B0.out).mono ?_
  rintro e w1 ⟨rfl,hb1⟩
  have X1:=Lib.hid (own_below X0.out hb1)
  have B1:=Lib.hid (bstep B0.out hb1)
  clear hb1 X0 B0
  have hB:=B1.out
  go_wp2
  go_ret2
  exact ⟨rfl,by (repeat' (first | with_reducible exact hB | with_reducible refine Below.drew ?_ | (with_reducible refine balloc ?_ _) | (with_reducible refine Below.setCell ?_ (by simp <;> omega) _)))⟩
set_option maxRecDepth 100000 in
set_option maxHeartbeats 4000000 in
theorem ror_a (a:Option Addr) (n c:Nat) (x:P3) (s:Int) (ac:Int) (w:World) (V:Hid (∀ W,Below w.heap.size w W→Calls Tryz.prog 38 #[.slice a n c] W fun e w'=>e=.returned (.int .i64 0)∧Below W.heap.size W w')) (A:Hid (∀ W,Calls Tryz.prog 39 #[ptv x,.int .i64 s,.int .i64 0,.int .i64 0] W fun e w'=>e=.returned (.int .i64 ac)∧Below W.heap.size W w')) (z:(ac != 0)=true):Calls Tryz.prog 19 #[.slice a n c,ptv x,.int .i64 s] w fun e w'=>e=.returned (.tuple #[.slice none 0 0,.int .i64 ac])∧Below w.heap.size w w':=by
  have X0:=Lib.hid (own_new w x 24)
  have B0:=Lib.hid (show Below w.heap.size w (w.alloc (ptc x 24)) by (repeat' (first | exact Below.refl _ _ | refine Below.setCell ?_ (by simp <;> omega) _ | refine balloc ?_ _ | refine Below.drew ?_ | refine bdrewN ?_ _)))
  go_enter Tryz.func19,Tryz.ntmps19
  go_wp2_with fail
  refine (V.out _ B0.out).mono ?_
  rintro e w1 ⟨rfl,hb1⟩
  have X1:=Lib.hid (own_below X0.out hb1)
  have B1:=Lib.hid (bstep B0.out hb1)
  clear hb1 X0 B0
  obtain ⟨x0,x1,x2⟩:=own_cells X1.out
  go_wp2_with fail
  refine (A.out _).mono ?_
  rintro e w2 ⟨rfl,hb2⟩
  have X2:=Lib.hid (own_below X1.out hb2)
  have B2:=Lib.hid (bstep B1.out hb2)
  clear x0 x1 x2 hb2 X1 B1
  have hB:=B2.out
  go_wp2
  go_ret2
  exact ⟨rfl,by (repeat' (first | with_reducible exact hB | with_reducible refine Below.drew ?_ | (with_reducible refine balloc ?_ _) | (with_reducible refine Below.setCell ?_ (by simp <;> omega) _)))⟩
theorem rto_form {W:World} {B n:Nat} {f:Nat→Int} {v:Value} (h:W.ownsRow B 3 1 v n (ivs f n)):∃ A c,v=.slice A n c∧∀ k,k < n→∃ q,A=some ⟨q,0,none⟩∧RwI W q n f:=by
  rcases Nat.eq_zero_or_pos n with h0 | h0
  · subst h0
    rcases h.2 with ⟨e,_⟩ | ⟨g,cap,cur,e,_⟩
    · exact ⟨none,0,e,fun k hk=>absurd hk (Nat.not_lt_zero k)⟩
    · exact ⟨_,cap,e,fun k hk=>absurd hk (Nat.not_lt_zero k)⟩
  · obtain ⟨q,cap,e,_,r⟩:=rwi_of h h0
    exact ⟨_,cap,e,fun _ _=>⟨q,rfl,r⟩⟩
set_option maxRecDepth 100000 in
set_option maxHeartbeats 4000000 in
theorem ror_ok (a:Option Addr) (n c:Nat) (x:P3) (s:Int) (f g:Nat→Int) (w:World) (V:Hid (∀ W,Below w.heap.size w W→Calls Tryz.prog 38 #[.slice a n c] W fun e w'=>e=.returned (.int .i64 0)∧Below W.heap.size W w')) (A:Hid (∀ W,Calls Tryz.prog 39 #[ptv x,.int .i64 s,.int .i64 0,.int .i64 0] W fun e w'=>e=.returned (.int .i64 0)∧Below W.heap.size W w')) (hn:n≤16) (FB:Hid (∀ k,k < n→-1000000000≤f k∧f k≤1000000000∧-1000000000≤g k∧g k≤1000000000))
    (TM:Hid (∀ W,Below w.heap.size w W→Calls Tryz.prog 40 #[.slice a n c,ptv x,.int .i64 s] W fun e w'=>∃ v1 v2,e=.returned (.tuple #[v1,v2])∧RT w' W.heap.size f g v1 n v2 n∧Below W.heap.size W w')) :
    Calls Tryz.prog 19 #[.slice a n c,ptv x,.int .i64 s] w fun e w'=>∃ v L,e=.returned (.tuple #[v,.int .i64 0])∧SrtA f g n L∧w'.ownsRow w.heap.size 3 1 v n (nvs L)∧Below w.heap.size w w':=by
  obtain ⟨i0,hi,hz0,hz1,hz2⟩:=info_parts infoI1
  have HI:=Lib.hid hi
  have HZ0:=Lib.hid hz0
  have HZ1:=Lib.hid hz1
  have HZ2:=Lib.hid hz2
  clear hi hz0 hz1 hz2
  have hn':(n:Int)≤16:=by omega
  have X0:=Lib.hid (own_new w x 24)
  have B0:=Lib.hid (show Below w.heap.size w (w.alloc (ptc x 24)) by (repeat' (first | exact Below.refl _ _ | refine Below.setCell ?_ (by simp <;> omega) _ | refine balloc ?_ _ | refine Below.drew ?_ | refine bdrewN ?_ _)))
  go_enter Tryz.func19,Tryz.ntmps19
  go_wp2_with fail
  refine (V.out _ B0.out).mono ?_
  rintro e w1 ⟨rfl,hb1⟩
  have X1:=Lib.hid (own_below X0.out hb1)
  have B1:=Lib.hid (bstep B0.out hb1)
  clear hb1 X0 B0
  obtain ⟨x0,x1,x2⟩:=own_cells X1.out
  go_wp2_with fail
  refine (A.out _).mono ?_
  rintro e w2 ⟨rfl,hb2⟩
  have X2:=Lib.hid (own_below X1.out hb2)
  have B2:=Lib.hid (bstep B1.out hb2)
  clear x0 x1 x2 hb2 X1 B1
  obtain ⟨x0,x1,x2⟩:=own_cells X2.out
  go_wp2_with fail
  with_reducible refine (TM.out _ B2.out).mono ?_
  rintro e w3 ⟨v1,v2,rfl,rt,hb3⟩
  obtain ⟨A1,p1,rfl,r1⟩:=rto_form rt.1
  obtain ⟨A2,p2,rfl,r2⟩:=rto_form rt.2.1
  have R1:=Lib.hid r1
  have R2:=Lib.hid r2
  have B3:=Lib.hid (bstep B2.out hb3)
  have s3:w.heap.size≤w3.heap.size:=B3.out.size
  clear x0 x1 x2 hb3 rt X2 B2 r1 r2
  go_wp2
  go_loopw [11,12] (fun sv kv wr=>∃ i L,i≤n∧kv=.int .i64 (i:Nat)∧SrtA f g i L∧wr.ownsRow w3.heap.size 3 1 sv i (nvs L)∧Below w3.heap.size w3 wr) (fun _ kv _=>n - (intOf kv).toNat)
  case atStart=>exact ⟨0,[],Nat.zero_le _,rfl,⟨List.Perm.refl _,List.Pairwise.nil⟩,World.ownsRow_nil _ _ _ _,Below.refl _ _⟩
  case round =>
    obtain ⟨i,L,hk,rfl,srt,how,hbb⟩:=hrel
    have SRT:=Lib.hid srt
    have OW0:=Lib.hid how
    have BB:=Lib.hid hbb
    have szw:=hbb.size
    clear srt how hbb
    by_cases hlt:i < n
    · have hk1:(i:Int) < (n:Int):=by omega
      have hi16:i + 1≤16:=by omega
      have i00:(0:Int)≤(i:Int):=by omega
      go_wp2_with (at_builtin;go_loud (refine wpList_append_own _ rfl _ _ 47 rfl w3.heap.size 3 i0 (.int .i64 0) 1 8 Tryz.underlying47 HI.out HZ0.out HZ1.out HZ2.out rfl (by decide) _ i (nvs L) rfl (World.ownsRow.alloc OW0.out _) ⟨_,0,none⟩ 1 1 [.int .i64 i] rfl rfl (one_new' _ _ _ _ (by simp)) (by intro u hu;simp at hu;subst hu;rfl) (by unfold maxLen;omega) (by omega) (by simp;omega) ?_);intro v' w7 hown' hgrow _;have OW:=Lib.hid hown';have GR:=Lib.hid hgrow;clear hown' hgrow)
      have BG:=Lib.hid ((BB.out.alloc szw _).grown GR.out (by simp;omega) (fun gg hg=>(OW0.out.lt gg hg).1))
      obtain ⟨gb,cap,rfl⟩:=own_slice8 OW.out (by omega)
      have OW1:=Lib.hid (show w7.ownsRow w3.heap.size 3 1 (.slice (some ⟨gb,0,none⟩) (i + 1) cap) (i + 1) (nvs (L ++ i :: [])) by rw [nvs_app];exact OW.out)
      have LL:L.length=i:=by have:=SRT.out.1.length_eq;rwa [List.length_range] at this
      have gb3:w3.heap.size≤gb:=(OW.out.lt gb rfl).1
      clear OW OW0 GR
      go_wp2
      go_loopw [13] (fun kv wr2=>∃ T D,kv=.int .i64 (T.length:Nat)∧L=T ++ D∧(∀ d,d ∈ D→ltA f g i d)∧wr2.ownsRow w3.heap.size 3 1 (.slice (some ⟨gb,0,none⟩) (i + 1) cap) (i + 1) (nvs (T ++ i :: D))∧Below w3.heap.size w3 wr2) (fun kv _=>(intOf kv).toNat)
      case atStart=>exact ⟨L,[],by rw [LL],(List.append_nil L).symm,fun _ h=>absurd h (List.not_mem_nil),OW1.out,BG.out⟩
      case round =>
        obtain ⟨T,D,rfl,hL,hD,hrow,hbx⟩:=hrel
        have ROW:=Lib.hid hrow
        have BX:=Lib.hid hbx
        have lgb:=(hrow.lt gb rfl).2
        rcases List.eq_nil_or_concat T with hT | ⟨T',a,hT⟩
        · have SR:=Lib.hid (srt_ins SRT.out hL hD (fun t m=>by rw [hT] at m;exact absurd m (List.not_mem_nil)))
          have z0:((T.length:Nat):Int)=0:=by rw [hT];rfl
          clear hrow hbx
          rw [z0]
          go_wp2
          go_roundw
          case rel=>exact ⟨i + 1,_,by omega,by go_num,SR.out,ROW.out,BX.out⟩
          case measure=>simp [intOf];omega
        · rw [List.concat_eq_append] at hT
          subst hT
          rw [List.length_append,List.length_singleton]
          obtain ⟨t,ht⟩:∃ t,T'.length=t:=⟨_,rfl⟩
          have TE:=Lib.hid ht
          have lt1:t + 1 + D.length=i:=by have e:=congrArg List.length hL;simp only [List.length_append,List.length_singleton] at e;omega
          have am:a < i:=srt_lt SRT.out (by rw [hL];simp)
          have ai:(a:Int) < (i:Int):=by omega
          have a0:(0:Int)≤(a:Int):=by omega
          have an:(a:Int) < (n:Int):=by omega
          obtain ⟨q1,hq1,z1⟩:=R1.out a (by omega)
          obtain ⟨q2,hq2,z2⟩:=R2.out a (by omega)
          subst hq1
          subst hq2
          have k1:=(hbx.cell (p:=⟨q1,a,none⟩) z1.1).trans (z1.2 a (by omega))
          have k2:=(hbx.cell (p:=⟨q1,i,none⟩) z1.1).trans (z1.2 i hlt)
          have k3:=(hbx.cell (p:=⟨q2,a,none⟩) z2.1).trans (z2.2 a (by omega))
          have k4:=(hbx.cell (p:=⟨q2,i,none⟩) z2.1).trans (z2.2 i hlt)
          have k5:wr.cell? ⟨gb,t,none⟩=some (.int .i64 (a:Int)):=by
            rw [hrow.cellAt t (by omega),← ht]
            have:=nvs_mid T' a (i :: D)
            rwa [show T' ++ a :: i :: D=(T' ++ [a]) ++ i :: D by simp] at this
          have k6:wr.cell? ⟨gb,t + 1,none⟩=some (.int .i64 (i:Int)):=by
            rw [hrow.cellAt (t + 1) (by omega)]
            have:=nvs_mid (T' ++ [a]) i D
            rwa [List.length_append,List.length_singleton,ht] at this
          have y1:=hrow.frozenAt t
          have y2:=hrow.frozenAt (t + 1)
          have ti:(t:Int) + 1 < (i:Int) + 1:=by omega
          by_cases c1:f a < f i
          · skip
            have d1:decide (f a < f i)=true:=decide_eq_true c1
            have SR:=Lib.hid (srt_ins SRT.out hL hD (srt_last (hL ▸ SRT.out) (Or.inl c1)))
            clear hrow hbx z1 z2
            go_wp2
            go_quiet (fail)
            go_wp2
            go_quiet (fail)
            go_wp2
            go_roundw
            case rel=>exact ⟨i + 1,_,by omega,by go_num,SR.out,ROW.out,bdrewN BX.out _⟩
            case measure=>simp [intOf];omega
          · by_cases c2:f a=f i
            · by_cases c3:g a≤g i
              · skip
                have d1:decide (f a < f i)=false:=decide_eq_false c1
                have d2:decide (f a=f i)=true:=decide_eq_true c2
                have d4:(f a == f i)=true:=beq_iff_eq.2 c2
                have d3:decide (g a≤g i)=true:=decide_eq_true c3
                have lt9:ltA f g a i:=Or.inr ⟨c2,by omega⟩
                have SR:=Lib.hid (srt_ins SRT.out hL hD (srt_last (hL ▸ SRT.out) lt9))
                clear hrow hbx z1 z2
                go_wp2
                go_quiet (fail)
                go_wp2
                go_quiet (fail)
                go_wp2
                go_roundw
                case rel=>exact ⟨i + 1,_,by omega,by go_num,SR.out,ROW.out,bdrewN BX.out _⟩
                case measure=>simp [intOf];omega
              · skip
                have d1:decide (f a < f i)=false:=decide_eq_false c1
                have d2:decide (f a=f i)=true:=decide_eq_true c2
                have d4:(f a == f i)=true:=beq_iff_eq.2 c2
                have d3:decide (g a≤g i)=false:=decide_eq_false c3
                have lt9:ltA f g i a:=Or.inr ⟨c2.symm,by omega⟩
                have HD:=Lib.hid (show ∀ d,d ∈ a :: D→ltA f g i d from fun d m=>by
                  rcases List.mem_cons.1 m with e | m
                  · rw [e];exact lt9
                  · exact hD d m)
                have HL:=Lib.hid (show L=T' ++ a :: D by rw [hL];simp)
                clear hbx z1 z2
                go_wp2
                go_quiet (fail)
                go_wp2
                go_quiet (fail)
                go_wp2
                go_roundw
                case rel=>exact ⟨T',a :: D,by rw [TE.out],HL.out,HD.out,row_swap (W:=wr.drewN _) ROW.out TE.out,((bdrewN BX.out _).setCell (p:=⟨gb,t,none⟩) gb3 _).setCell (p:=⟨gb,t + 1,none⟩) gb3 _⟩
                case measure=>simp [intOf];omega
            · skip
              have d1:decide (f a < f i)=false:=decide_eq_false c1
              have d2:decide (f a=f i)=false:=decide_eq_false c2
              have d4:(f a == f i)=false:=beq_eq_false_iff_ne.2 c2
              have lt9:ltA f g i a:=Or.inl (by omega)
              have HD:=Lib.hid (show ∀ d,d ∈ a :: D→ltA f g i d from fun d m=>by
                rcases List.mem_cons.1 m with e | m
                · rw [e];exact lt9
                · exact hD d m)
              have HL:=Lib.hid (show L=T' ++ a :: D by rw [hL];simp)
              clear hbx z1 z2
              go_wp2
              go_quiet (fail)
              go_wp2
              go_quiet (fail)
              go_wp2
              go_roundw
              case rel=>exact ⟨T',a :: D,by rw [TE.out],HL.out,HD.out,row_swap (W:=wr.drewN _) ROW.out TE.out,((bdrewN BX.out _).setCell (p:=⟨gb,t,none⟩) gb3 _).setCell (p:=⟨gb,t + 1,none⟩) gb3 _⟩
              case measure=>simp [intOf];omega
    · obtain rfl:i=n:=by omega
      have hB:=B3.out.trans (BB.out.mono s3)
      have RW:=own_base9 OW0.out s3
      go_wp2
      go_ret2
      exact ⟨_,L,rfl,SRT.out,RW,hB⟩
def OrdA (W:World) (B n:Nat) (Q:Nat→Pu) (x:P3) (s:Int) (v:Value):Prop:=if mcT n Q x s=0 then ∃ L,SrtA (fT Q x s) (gT Q x s) n L∧W.ownsRow B 3 1 v n (nvs L) else v=.slice none 0 0
theorem ror_any (a:Option Addr) (n c:Nat) (Q:Nat→Pu) (x:P3) (s:Int) (w:World) (rr:LstU w a n Q) (hn:n≤140737488355328) :
    Calls Tryz.prog 19 #[.slice a n c,ptv x,.int .i64 s] w fun e w'=>∃ v,e=.returned (.tuple #[v,.int .i64 (mcT n Q x s)])∧OrdA w' w.heap.size n Q x s v∧Below w.heap.size w w':=by
  have V:=fun W (B:Below w.heap.size w W)=>rsvp_any a n c Q W (lstU_below rr B) hn
  have A:=fun W=>ask_any x s 0 0 W
  unfold OrdA
  by_cases z:mcT n Q x s=0
  · have z9:=z
    unfold mcT at z9
    have zv:vpcode n Q=0:=by
      by_cases y:vpcode n Q=0
      · exact y
      · rw [if_neg y] at z9;exact absurd z9 y
    rw [if_pos zv] at z9
    rw [zv] at V
    rw [z9] at A
    obtain ⟨⟨h16,hp⟩,hx,s1,s2⟩:=mcT_ok z
    refine (ror_ok a n c x s (fT Q x s) (gT Q x s) w (Lib.hid V) (Lib.hid A) h16 (Lib.hid fun k hk=>?_) (Lib.hid fun W B=>tms_any a n c Q x s W (lstU_below rr B) h16 hp hx s1 s2)).mono ?_
    · obtain ⟨hb,_,⟨a1,a2⟩,_⟩:=pucode_ok (hp k hk)
      obtain ⟨⟨n1,n2⟩,n3,n4⟩:=dist_bd hb hx
      have l1:=tkf_le (nearN (Q k).1 x) s
      have l2:=tkf_le (farN (Q k).1 x) s
      unfold fT gT
      omega
    · rintro e w' ⟨v,L,rfl,h1,h2,h3⟩
      exact ⟨v,by rw [z],by rw [if_pos z];exact ⟨L,h1,h2⟩,h3⟩
  · have z9:=z
    unfold mcT at z9
    by_cases zv:vpcode n Q=0
    · rw [if_pos zv] at z9
      rw [zv] at V
      rw [show mcT n Q x s=acode8 x s 0 0 from if_pos zv]
      exact (ror_a a n c x s _ w (Lib.hid V) (Lib.hid A) (bne_iff_ne.2 z9)).mono fun e w' ⟨h1,h2⟩=>⟨_,h1,by rw [if_neg z9],h2⟩
    · rw [show mcT n Q x s=vpcode n Q from if_neg zv]
      exact (ror_v a n c x s _ w (Lib.hid V) (bne_iff_ne.2 zv)).mono fun e w' ⟨h1,h2⟩=>⟨_,h1,by rw [if_neg zv],h2⟩
end Go.Proofs.YtgchcnpgjfoadaaGreat
