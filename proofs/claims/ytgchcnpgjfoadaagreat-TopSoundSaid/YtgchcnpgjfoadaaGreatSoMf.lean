import Derived.Test.YtgchcnpgjfoadaaGreatSoMc
import Derived.Test.YtgchcnpgjfoadaaGreatSoMd
import Derived.Test.YtgchcnpgjfoadaaGreatSoIb
namespace Go.Proofs.YtgchcnpgjfoadaaGreat
open Go.ChangeShapes Go.WideShapes Go.RowKit
open Sh
theorem pucodes_none {Q:Nat→Pu}:∀ {n:Nat},(∀ k,k < n→pucode (Q k)=0)→pucodes Q n=0
  | 0,_=>rfl
  | n + 1,h=>pucodes_next (pucodes_none fun k hk=>h k (by omega)) (h n (by omega))
theorem lst_of_pu {W:World} {n:Nat} {v:Value} {f:Nat→Pu} (h:W.ownsRow 0 61 11 v n (pucs f n)):∃ a c,v=.slice a n c∧LstU W a n f:=by
  rcases Nat.eq_zero_or_pos n with h0 | h0
  · subst h0
    rcases h.2 with ⟨e,_⟩ | ⟨g,cap,cur,e,_⟩
    · exact ⟨_,_,e,fun c=>absurd c (Nat.not_lt_zero 0)⟩
    · exact ⟨_,_,e,fun c=>absurd c (Nat.not_lt_zero 0)⟩
  · obtain ⟨g,cap,rfl⟩:=own_slice8 h h0
    exact ⟨_,_,rfl,fun _=>⟨g,0,rfl,rowU_of h⟩⟩
end Go.Proofs.YtgchcnpgjfoadaaGreat
namespace Go.Proofs.YtgchcnpgjfoadaaGreat
open Go.ChangeShapes Go.WideShapes Go.RowKit
open Sh
theorem zb {p:Pu} (h:pucode p=0):(-4611686018427387904≤p.1.1.2.2∧p.1.1.2.2≤4611686018427387904)∧(-4611686018427387904≤p.1.2.1.2.2∧p.1.2.1.2.2≤4611686018427387904)∧(-4611686018427387904≤p.1.2.2.2.2∧p.1.2.2.2.2≤4611686018427387904)∧-4611686018427387904≤p.2.2∧p.2.2≤4611686018427387904:=by
  obtain ⟨⟨⟨_,_,_,_,a5,a6⟩,⟨_,_,_,_,b5,b6⟩,⟨_,_,_,_,c5,c6⟩⟩,_,_,q1,q2⟩:=pucode_ok h
  exact ⟨⟨by omega,by omega⟩,⟨by omega,by omega⟩,⟨by omega,by omega⟩,by omega,by omega⟩
theorem ims_any (a:Option Addr) (n c:Nat) (Q:Nat→Pu) (s:Bool) (w:World) (r:LstU w a n Q) (hnil:a=none→c=0) (hn:n≤60) :
    Calls Tryz.prog 43 #[.slice a n c,.bool s] w fun e w'=>∃ v,e=.returned (.tuple #[v,.int .i64 (icode n Q)])∧PuR w' (n + n) (icode n Q) (bth s Q n) v∧Below w.heap.size w w':=by
  have V:=fun W (B:Below w.heap.size w W)=>svp_any a n c Q W (lstU_below r B) (by omega)
  have CT:=fun W (B:Below w.heap.size w W)=>cfn_any a n c Q W (lstU_below r B) (by omega)
  have n16z:vpcode n Q=0→n≤16∧∀ k,k < n→pucode (Q k)=0:=fun z=>by
    unfold vpcode at z
    by_cases h:n≤16
    · rw [if_pos h] at z;exact ⟨h,fun k hk=>pucodes_all z k hk⟩
    · rw [if_neg h] at z;exact absurd z (by decide)
  unfold icode PuR
  by_cases z:vpcode n Q=0
  · rw [if_pos z]
    rw [z] at V
    obtain ⟨n16,hp⟩:=n16z z
    by_cases hy:anyB Q n=true
    · rw [if_pos hy]
      rw [hy] at CT
      exact (ims_b a n c s w (Lib.hid V) (Lib.hid CT)).mono fun _ _ ⟨h1,h2⟩=>⟨_,h1,by rw [if_neg (by decide)],h2⟩
    · rw [if_neg hy]
      have hf:anyB Q n=false:=Bool.eq_false_iff.2 hy
      rw [hf] at CT
      by_cases h8:8 < n
      · rw [if_pos h8]
        exact (ims_l a n c s w (Lib.hid V) (Lib.hid CT) h8 n16).mono fun _ _ ⟨h1,h2⟩=>⟨_,h1,by rw [if_neg (by decide)],h2⟩
      · rw [if_neg h8]
        by_cases m:n=0
        · subst m
          exact (ims_z a c s w (Lib.hid V) (Lib.hid CT) (Lib.hid fun W B=>clone8_zero a c W hnil)).mono fun _ _ ⟨v,h1,h2,h3⟩=>⟨v,h1,by rw [if_pos rfl];exact own_base9 h2 (Nat.zero_le _),h3⟩
        · obtain ⟨b,off,rfl,rr⟩:=r (by omega)
          exact (ims_r b off n c s Q w (Lib.hid V) (Lib.hid CT) (Lib.hid fun W B=>clone8_row b off n c Q W (rowU_below rr B) (by omega)) rr (by omega) (fun k hk=>zb (hp k hk))).mono fun _ _ ⟨v,h1,h2,h3⟩=>⟨v,h1,by rw [if_pos rfl];exact own_base9 h2 (Nat.zero_le _),h3⟩
  · rw [if_neg z]
    exact (ims_v a n c s _ w (Lib.hid V) (bne_iff_ne.2 z)).mono fun _ _ ⟨h1,h2⟩=>⟨_,h1,by rw [if_neg z],h2⟩
end Go.Proofs.YtgchcnpgjfoadaaGreat
namespace Go.Proofs.YtgchcnpgjfoadaaGreat
open Go.ChangeShapes Go.WideShapes Go.RowKit
open Sh
theorem inP_mir (L:Int) (a:P3):inP L (mir a)=inP L a:=by
  unfold inP mir
  dsimp only
  rw [decide_eq_decide]
  omega
theorem nrm_mir (a b c:P3):nrm (mir a) (mir b) (mir c)=(-(nrm a b c).1,-(nrm a b c).2.1,(nrm a b c).2.2):=by
  unfold nrm vec sub mir
  dsimp only
  have e (x y:Int):-x - -y=-(x - y):=by omega
  rw [e,e]
  simp only [Int.mul_neg,Int.neg_mul]
  refine Prod.ext ?_ (Prod.ext ?_ ?_) <;> dsimp only <;> omega
theorem pcode_mir (a b c:P3):pcode (mir a) (mir b) (mir c)=pcode a b c:=by
  unfold pcode
  rw [inP_mir,inP_mir,inP_mir,nrm_mir]
  have e:((-(nrm a b c).1,-(nrm a b c).2.1,(nrm a b c).2.2)=((0,0,0):P3)) ↔ (nrm a b c=(0,0,0)):=by
    constructor
    · intro h
      simp only [Prod.mk.injEq] at h
      refine Prod.ext (by show _=(0:Int);omega) (Prod.ext (by show _=(0:Int);omega) (by show _=(0:Int);omega))
    · intro h
      rw [h]
      rfl
  by_cases h:nrm a b c=(0,0,0)
  · rw [if_pos (e.2 h),if_pos h]
  · rw [if_neg (fun c=>h (e.1 c)),if_neg h]
theorem pucode_img (s:Bool) {p:Pu} (h:pucode p=0):pucode (img s p)=0:=by
  obtain ⟨_,hc,⟨a1,a2⟩,b1,b2⟩:=pucode_ok h
  unfold pucode img mir9
  dsimp only
  rw [pcode_mir,if_pos hc,rngB_iff.2 ⟨a1,a2⟩]
  cases s
  · rw [show (if (false=true) then -p.2.2 else p.2.2)=p.2.2 from if_neg (by decide),rngB_iff.2 ⟨b1,b2⟩];rfl
  · rw [show (if (true=true) then -p.2.2 else p.2.2)=-p.2.2 from if_pos rfl,rngB_iff.2 (show -100≤-p.2.2∧-p.2.2≤100 by omega)];rfl
theorem icode_ok {n:Nat} {Q:Nat→Pu} (h:icode n Q=0):n≤8∧∀ k,k < n→pucode (Q k)=0:=by
  unfold icode at h
  by_cases z:vpcode n Q=0
  · rw [if_pos z] at h
    cases y:anyB Q n with
    | true=>rw [y] at h;simp at h
    | false =>
      rw [y] at h
      by_cases l:8 < n
      · simp [l] at h
      · exact ⟨by omega,(vpk_ok z).2⟩
  · rw [if_neg z] at h;exact absurd h z
theorem bth_ok {n:Nat} {Q:Nat→Pu} (s:Bool) (h:icode n Q=0):∀ k,k < n + n→pucode (bth s Q n k)=0:=by
  obtain ⟨_,hp⟩:=icode_ok h
  intro k hk
  unfold bth
  by_cases c:k < n
  · rw [if_pos c];exact hp k c
  · rw [if_neg c];exact pucode_img s (hp _ (by omega))
theorem vp_bth {n:Nat} {Q:Nat→Pu} (s:Bool) (h:icode n Q=0):vpcode (n + n) (bth s Q n)=0:=by
  have h8:=(icode_ok h).1
  unfold vpcode
  rw [if_pos (by omega)]
  exact pucodes_none (bth_ok s h)
def echR (n:Nat) (Q:Nat→Pu) (so:Bool) (x:P3) (s t d:Int):Sp.R:=if icode n Q ≠ 0 then ((0,0),icode n Q) else if acode8 x s t d ≠ 0 then ((0,0),acode8 x s t d) else if x.2.2 < 0 then ((0,0),1) else sceQ x s d (bth so Q n) (n + n) t
set_option maxRecDepth 100000 in
set_option maxHeartbeats 4000000 in
theorem ech_i (a:Option Addr) (n c:Nat) (x:P3) (so:Bool) (s t d:Int) (w:World) (PR:Value→World→Prop) (er:Int) (I:Hid (∀ W,Below w.heap.size w W→Calls Tryz.prog 43 #[.slice a n c,.bool so] W fun e w'=>∃ v,e=.returned (.tuple #[v,.int .i64 er])∧PR v w'∧Below W.heap.size W w')) (z:(er != 0)=true):Calls Tryz.prog 22 #[.slice a n c,ptv x,.bool so,.int .i64 s,.int .i64 t,.int .i64 d] w fun e w'=>e=.returned (spr ((0,0),er))∧Below w.heap.size w w':=by
  have X0:=Lib.hid (own_alloc (own_new w x 24) (.cells #[.int .i64 0,.int .i64 0] 34))
  have R0:=Lib.hid (pair_new (w.alloc (ptc x 24)) 0 0 34)
  have B0:=Lib.hid (show Below w.heap.size w ((w.alloc (ptc x 24)).alloc (.cells #[.int .i64 0,.int .i64 0] 34)) by (repeat' (first | exact Below.refl _ _ | refine Below.setCell ?_ (by simp <;> omega) _ | refine balloc ?_ _ | refine Below.drew ?_ | refine bdrewN ?_ _)))
  simp only [World.size_alloc] at R0
  go_enter Tryz.func22,Tryz.ntmps22
  go_wp2_with fail
  refine (I.out _ B0.out).mono ?_
  rintro e w1 ⟨v,rfl,p1,hb1⟩
  have P1:=Lib.hid p1
  have X1:=Lib.hid (own_below X0.out hb1)
  have R1:=Lib.hid (pair_below R0.out hb1)
  have B1:=Lib.hid (bstep B0.out hb1)
  clear p1 hb1
  obtain ⟨g0,g1,g2,g3,gl⟩:=R1.out
  go_wp2
  refine bodyPost_ret (v:=spr ((0,0),er)) (by rw [results_cell_tmp rfl];go_simp) rfl ⟨rfl,?_⟩
  exact pair_set2 B1.out (by show w.heap.size≤w.heap.size + 1;omega)
set_option maxRecDepth 100000 in
set_option maxHeartbeats 4000000 in
theorem ech_c (a:Option Addr) (n c:Nat) (x:P3) (so:Bool) (s t d:Int) (w:World) (PR:Value→World→Prop) (PB:Hid (∀ v W W',PR v W→Below W.heap.size W W'→PR v W')) (cc:Int) (I:Hid (∀ W,Below w.heap.size w W→Calls Tryz.prog 43 #[.slice a n c,.bool so] W fun e w'=>∃ v,e=.returned (.tuple #[v,.int .i64 0])∧PR v w'∧Below W.heap.size W w')) (C:Hid (∀ (v:Value) (W:World) (b:Nat),PR v W→b=W.heap.size→Calls Tryz.prog 24 #[micv x s d,v,.slice (some ⟨b,0,none⟩) 1 1] (W.alloc (.cells #[.int .i64 t] 3)) fun e w'=>e=.returned (.int .i64 cc)∧Below (W.alloc (.cells #[.int .i64 t] 3)).heap.size (W.alloc (.cells #[.int .i64 t] 3)) w')) (z:(cc != 0)=true):Calls Tryz.prog 22 #[.slice a n c,ptv x,.bool so,.int .i64 s,.int .i64 t,.int .i64 d] w fun e w'=>e=.returned (spr ((0,0),cc))∧Below w.heap.size w w':=by
  have X0:=Lib.hid (own_alloc (own_new w x 24) (.cells #[.int .i64 0,.int .i64 0] 34))
  have R0:=Lib.hid (pair_new (w.alloc (ptc x 24)) 0 0 34)
  have B0:=Lib.hid (show Below w.heap.size w ((w.alloc (ptc x 24)).alloc (.cells #[.int .i64 0,.int .i64 0] 34)) by (repeat' (first | exact Below.refl _ _ | refine Below.setCell ?_ (by simp <;> omega) _ | refine balloc ?_ _ | refine Below.drew ?_ | refine bdrewN ?_ _)))
  simp only [World.size_alloc] at R0
  go_enter Tryz.func22,Tryz.ntmps22
  go_wp2_with fail
  refine (I.out _ B0.out).mono ?_
  rintro e w1 ⟨v,rfl,p1,hb1⟩
  have P1:=Lib.hid p1
  have X1:=Lib.hid (own_below X0.out hb1)
  have R1:=Lib.hid (pair_below R0.out hb1)
  have B1:=Lib.hid (bstep B0.out hb1)
  clear p1 hb1
  obtain ⟨x0,x1,x2⟩:=own_cells X1.out
  have hM:=(Below.refl w1.heap.size w1).alloc (Nat.le_refl _) (micb x s d 55)
  have P2:=Lib.hid (PB.out _ _ _ P1.out hM)
  have C0:=Lib.hid (C.out v (w1.alloc (micb x s d 55)) (w1.heap.size + 1) P2.out (by simp))
  have hT:=(Below.refl (w1.alloc (micb x s d 55)).heap.size (w1.alloc (micb x s d 55))).alloc (Nat.le_refl _) (.cells #[.int .i64 t] 3)
  have M2:=Lib.hid (ownMic_below (ownMic_new w1 x s d 55) hT)
  have P3:=Lib.hid (PB.out _ _ _ P2.out hT)
  have X3:=Lib.hid (own_below (own_below X1.out hM) hT)
  have R3:=Lib.hid (pair_below (pair_below R1.out hM) hT)
  have B3:=Lib.hid (bstep (bstep B1.out hM) hT)
  clear hM hT
  go_wp2_with fail
  refine C0.out.mono ?_
  rintro e w4 ⟨rfl,hb4⟩
  have M4:=Lib.hid (ownMic_below M2.out hb4)
  have P4:=Lib.hid (PB.out _ _ _ P3.out hb4)
  have X4:=Lib.hid (own_below X3.out hb4)
  have R4:=Lib.hid (pair_below R3.out hb4)
  have B4:=Lib.hid (bstep B3.out hb4)
  clear hb4 x0 x1 x2 M2 P2 P3 X3 R3 B3
  obtain ⟨g0,g1,g2,g3,gl⟩:=R4.out
  go_wp2
  refine bodyPost_ret (v:=spr ((0,0),cc)) (by rw [results_cell_tmp rfl];go_simp) rfl ⟨rfl,?_⟩
  exact pair_set2 B4.out (by show w.heap.size≤w.heap.size + 1;omega)
set_option maxRecDepth 100000 in
set_option maxHeartbeats 4000000 in
theorem ech_n (a:Option Addr) (n c:Nat) (x:P3) (so:Bool) (s t d:Int) (w:World) (PR:Value→World→Prop) (PB:Hid (∀ v W W',PR v W→Below W.heap.size W W'→PR v W')) (I:Hid (∀ W,Below w.heap.size w W→Calls Tryz.prog 43 #[.slice a n c,.bool so] W fun e w'=>∃ v,e=.returned (.tuple #[v,.int .i64 0])∧PR v w'∧Below W.heap.size W w')) (C:Hid (∀ (v:Value) (W:World) (b:Nat),PR v W→b=W.heap.size→Calls Tryz.prog 24 #[micv x s d,v,.slice (some ⟨b,0,none⟩) 1 1] (W.alloc (.cells #[.int .i64 t] 3)) fun e w'=>e=.returned (.int .i64 0)∧Below (W.alloc (.cells #[.int .i64 t] 3)).heap.size (W.alloc (.cells #[.int .i64 t] 3)) w')) (z:x.2.2 < 0):Calls Tryz.prog 22 #[.slice a n c,ptv x,.bool so,.int .i64 s,.int .i64 t,.int .i64 d] w fun e w'=>e=.returned (spr ((0,0),1))∧Below w.heap.size w w':=by
  have X0:=Lib.hid (own_alloc (own_new w x 24) (.cells #[.int .i64 0,.int .i64 0] 34))
  have R0:=Lib.hid (pair_new (w.alloc (ptc x 24)) 0 0 34)
  have B0:=Lib.hid (show Below w.heap.size w ((w.alloc (ptc x 24)).alloc (.cells #[.int .i64 0,.int .i64 0] 34)) by (repeat' (first | exact Below.refl _ _ | refine Below.setCell ?_ (by simp <;> omega) _ | refine balloc ?_ _ | refine Below.drew ?_ | refine bdrewN ?_ _)))
  simp only [World.size_alloc] at R0
  go_enter Tryz.func22,Tryz.ntmps22
  go_wp2_with fail
  refine (I.out _ B0.out).mono ?_
  rintro e w1 ⟨v,rfl,p1,hb1⟩
  have P1:=Lib.hid p1
  have X1:=Lib.hid (own_below X0.out hb1)
  have R1:=Lib.hid (pair_below R0.out hb1)
  have B1:=Lib.hid (bstep B0.out hb1)
  clear p1 hb1
  obtain ⟨x0,x1,x2⟩:=own_cells X1.out
  have hM:=(Below.refl w1.heap.size w1).alloc (Nat.le_refl _) (micb x s d 55)
  have P2:=Lib.hid (PB.out _ _ _ P1.out hM)
  have C0:=Lib.hid (C.out v (w1.alloc (micb x s d 55)) (w1.heap.size + 1) P2.out (by simp))
  have hT:=(Below.refl (w1.alloc (micb x s d 55)).heap.size (w1.alloc (micb x s d 55))).alloc (Nat.le_refl _) (.cells #[.int .i64 t] 3)
  have M2:=Lib.hid (ownMic_below (ownMic_new w1 x s d 55) hT)
  have P3:=Lib.hid (PB.out _ _ _ P2.out hT)
  have X3:=Lib.hid (own_below (own_below X1.out hM) hT)
  have R3:=Lib.hid (pair_below (pair_below R1.out hM) hT)
  have B3:=Lib.hid (bstep (bstep B1.out hM) hT)
  clear hM hT
  go_wp2_with fail
  refine C0.out.mono ?_
  rintro e w4 ⟨rfl,hb4⟩
  have M4:=Lib.hid (ownMic_below M2.out hb4)
  have P4:=Lib.hid (PB.out _ _ _ P3.out hb4)
  have X4:=Lib.hid (own_below X3.out hb4)
  have R4:=Lib.hid (pair_below R3.out hb4)
  have B4:=Lib.hid (bstep B3.out hb4)
  clear hb4 x0 x1 x2 M2 P2 P3 X3 R3 B3
  obtain ⟨x0,x1,x2⟩:=own_cells X4.out
  obtain ⟨g0,g1,g2,g3,gl⟩:=R4.out
  go_wp2
  refine bodyPost_ret (v:=spr ((0,0),1)) (by rw [results_cell_tmp rfl];go_simp) rfl ⟨rfl,?_⟩
  exact pair_set2 B4.out (by show w.heap.size≤w.heap.size + 1;omega)
set_option maxRecDepth 100000 in
set_option maxHeartbeats 4000000 in
theorem ech_ok (a:Option Addr) (n c:Nat) (x:P3) (so:Bool) (s t d:Int) (w:World) (PR:Value→World→Prop) (PB:Hid (∀ v W W',PR v W→Below W.heap.size W W'→PR v W')) (r:Sp.R) (I:Hid (∀ W,Below w.heap.size w W→Calls Tryz.prog 43 #[.slice a n c,.bool so] W fun e w'=>∃ v,e=.returned (.tuple #[v,.int .i64 0])∧PR v w'∧Below W.heap.size W w')) (C:Hid (∀ (v:Value) (W:World) (b:Nat),PR v W→b=W.heap.size→Calls Tryz.prog 24 #[micv x s d,v,.slice (some ⟨b,0,none⟩) 1 1] (W.alloc (.cells #[.int .i64 t] 3)) fun e w'=>e=.returned (.int .i64 0)∧Below (W.alloc (.cells #[.int .i64 t] 3)).heap.size (W.alloc (.cells #[.int .i64 t] 3)) w')) (z:decide (x.2.2 < 0)=false) (H:Hid (∀ v W,PR v W→Calls Tryz.prog 31 #[micv x s d,v,.int .i64 t] W fun e w'=>e=.returned (spr r)∧Below W.heap.size W w')):Calls Tryz.prog 22 #[.slice a n c,ptv x,.bool so,.int .i64 s,.int .i64 t,.int .i64 d] w fun e w'=>e=.returned (spr r)∧Below w.heap.size w w':=by
  have X0:=Lib.hid (own_alloc (own_new w x 24) (.cells #[.int .i64 0,.int .i64 0] 34))
  have R0:=Lib.hid (pair_new (w.alloc (ptc x 24)) 0 0 34)
  have B0:=Lib.hid (show Below w.heap.size w ((w.alloc (ptc x 24)).alloc (.cells #[.int .i64 0,.int .i64 0] 34)) by (repeat' (first | exact Below.refl _ _ | refine Below.setCell ?_ (by simp <;> omega) _ | refine balloc ?_ _ | refine Below.drew ?_ | refine bdrewN ?_ _)))
  simp only [World.size_alloc] at R0
  go_enter Tryz.func22,Tryz.ntmps22
  go_wp2_with fail
  refine (I.out _ B0.out).mono ?_
  rintro e w1 ⟨v,rfl,p1,hb1⟩
  have P1:=Lib.hid p1
  have X1:=Lib.hid (own_below X0.out hb1)
  have R1:=Lib.hid (pair_below R0.out hb1)
  have B1:=Lib.hid (bstep B0.out hb1)
  clear p1 hb1
  obtain ⟨x0,x1,x2⟩:=own_cells X1.out
  have hM:=(Below.refl w1.heap.size w1).alloc (Nat.le_refl _) (micb x s d 55)
  have P2:=Lib.hid (PB.out _ _ _ P1.out hM)
  have C0:=Lib.hid (C.out v (w1.alloc (micb x s d 55)) (w1.heap.size + 1) P2.out (by simp))
  have hT:=(Below.refl (w1.alloc (micb x s d 55)).heap.size (w1.alloc (micb x s d 55))).alloc (Nat.le_refl _) (.cells #[.int .i64 t] 3)
  have M2:=Lib.hid (ownMic_below (ownMic_new w1 x s d 55) hT)
  have P3:=Lib.hid (PB.out _ _ _ P2.out hT)
  have X3:=Lib.hid (own_below (own_below X1.out hM) hT)
  have R3:=Lib.hid (pair_below (pair_below R1.out hM) hT)
  have B3:=Lib.hid (bstep (bstep B1.out hM) hT)
  clear hM hT
  go_wp2_with fail
  refine C0.out.mono ?_
  rintro e w4 ⟨rfl,hb4⟩
  have M4:=Lib.hid (ownMic_below M2.out hb4)
  have P4:=Lib.hid (PB.out _ _ _ P3.out hb4)
  have X4:=Lib.hid (own_below X3.out hb4)
  have R4:=Lib.hid (pair_below R3.out hb4)
  have B4:=Lib.hid (bstep B3.out hb4)
  clear hb4 x0 x1 x2 M2 P2 P3 X3 R3 B3
  obtain ⟨x0,x1,x2⟩:=own_cells X4.out
  obtain ⟨⟨m0,m1,m2,m3,m4⟩,ml⟩:=M4.out
  go_wp2_with fail
  refine (H.out _ _ P4.out).mono ?_
  rintro e w5 ⟨rfl,hb5⟩
  clear x0 x1 x2 m0 m1 m2 m3 m4 ml
  obtain ⟨g0,g1,g2,g3,gl⟩:=pair_below R4.out hb5
  have B5:=Lib.hid (bstep B4.out hb5)
  go_wp2
  refine bodyPost_ret (v:=spr r) (by rw [results_cell_tmp rfl];go_simp) rfl ⟨rfl,?_⟩
  exact pair_set2 B5.out (by show w.heap.size≤w.heap.size + 1;omega)
theorem ech_any (a:Option Addr) (n c:Nat) (Q:Nat→Pu) (x:P3) (so:Bool) (s t d:Int) (w:World) (rr:LstU w a n Q) (hnil:a=none→c=0) (hn:n≤60):Calls Tryz.prog 22 #[.slice a n c,ptv x,.bool so,.int .i64 s,.int .i64 t,.int .i64 d] w fun e w'=>e=.returned (spr (echR n Q so x s t d))∧Below w.heap.size w w':=by
  have I:=Lib.hid fun W (B:Below w.heap.size w W)=>ims_any a n c Q so W (lstU_below rr B) hnil hn
  unfold echR
  by_cases z0:icode n Q=0
  · rw [if_neg (fun c=>c z0)]
    rw [z0] at I
    have h8:=(icode_ok z0).1
    have C:∀ cc,acode8 x s t d=cc→Hid (∀ (v:Value) (W:World) (b:Nat),PuR W (n + n) 0 (bth so Q n) v→b=W.heap.size→Calls Tryz.prog 24 #[micv x s d,v,.slice (some ⟨b,0,none⟩) 1 1] (W.alloc (.cells #[.int .i64 t] 3)) fun e w'=>e=.returned (.int .i64 cc)∧Below (W.alloc (.cells #[.int .i64 t] 3)).heap.size (W.alloc (.cells #[.int .i64 t] 3)) w'):=fun cc hc=>Lib.hid fun v W b p e=>by
      unfold PuR at p
      rw [if_pos rfl] at p
      obtain ⟨a',c',rfl,l'⟩:=lst_of_pu p
      have z:=mck_any x s d a' (n + n) c' (some ⟨b,0,none⟩) 1 1 (bth so Q n) (fun _=>t) (W.alloc (.cells #[.int .i64 t] 3)) (lstU_below l' ((Below.refl _ _).alloc (Nat.le_refl _) _)) (by omega) (lstT_one W b t e) (by decide)
      rw [scode_m] at z
      unfold scode at z
      rw [if_pos (vp_bth so z0),hc] at z
      exact z
    have PB:Hid (∀ (v:Value) (W W':World),PuR W (n + n) 0 (bth so Q n) v→Below W.heap.size W W'→PuR W' (n + n) 0 (bth so Q n) v):=Lib.hid fun v W W' p b=>puR_below p b
    by_cases z1:acode8 x s t d=0
    · rw [if_neg (fun c=>c z1)]
      by_cases z2:x.2.2 < 0
      · rw [if_pos z2]
        exact ech_n a n c x so s t d w (fun v W=>PuR W (n + n) 0 (bth so Q n) v) PB I (C 0 z1) z2
      · rw [if_neg z2]
        obtain ⟨h2,h3,h4,h5⟩:=acode8_ok z1
        refine ech_ok a n c x so s t d w (fun v W=>PuR W (n + n) 0 (bth so Q n) v) PB _ I (C 0 z1) (decide_eq_false z2) (Lib.hid fun v W p=>?_)
        unfold PuR at p
        rw [if_pos rfl] at p
        obtain ⟨a',c',rfl,l'⟩:=lst_of_pu p
        exact sce_any x s d t a' (n + n) c' (bth so Q n) W l' (by omega) (bth_ok so z0) h2 h3.1 h3.2 h5.1 h5.2 h4.1 h4.2
    · rw [if_pos z1]
      exact ech_c a n c x so s t d w (fun v W=>PuR W (n + n) 0 (bth so Q n) v) PB _ I (C _ rfl) (bne_iff_ne.2 z1)
  · rw [if_pos z0]
    exact ech_i a n c x so s t d w (fun v W=>PuR W (n + n) (icode n Q) (bth so Q n) v) _ I (bne_iff_ne.2 z0)
end Go.Proofs.YtgchcnpgjfoadaaGreat
namespace Go.Proofs.YtgchcnpgjfoadaaGreat
open Go.ChangeShapes Go.WideShapes Go.RowKit
open Sh
theorem tim_mir (k:Int) (a:P3):tim k (mir a)=mir (tim k a):=by
  unfold tim mir
  refine Prod.ext rfl (Prod.ext rfl ?_)
  show k * -a.2.2=-(k * a.2.2)
  exact Int.mul_neg _ _
theorem add_mir (a b:P3):add (mir a) (mir b)=mir (add a b):=by
  unfold add mir
  refine Prod.ext rfl (Prod.ext rfl ?_)
  show -a.2.2 + -b.2.2=-(a.2.2 + b.2.2)
  omega
theorem cutP_mir:∀ (d:Nat) (t:P9),cutP d (mir9 t)=(cutP d t).map mir9
  | 0,_=>rfl
  | d + 1,t=>by
    have e0:qr0 (mir9 t)=mir9 (qr0 t):=by unfold qr0 mir9;simp only [tim_mir,add_mir]
    have e1:qr1 (mir9 t)=mir9 (qr1 t):=by unfold qr1 mir9;simp only [tim_mir,add_mir]
    have e2:qr2 (mir9 t)=mir9 (qr2 t):=by unfold qr2 mir9;simp only [tim_mir,add_mir]
    have e3:qr3 (mir9 t)=mir9 (qr3 t):=by unfold qr3 mir9;simp only [add_mir]
    show cutP d (qr0 (mir9 t)) ++ (cutP d (qr1 (mir9 t)) ++ (cutP d (qr2 (mir9 t)) ++ cutP d (qr3 (mir9 t))))=(cutP d (qr0 t) ++ (cutP d (qr1 t) ++ (cutP d (qr2 t) ++ cutP d (qr3 t)))).map mir9
    rw [e0,e1,e2,e3,cutP_mir d,cutP_mir d,cutP_mir d,cutP_mir d]
    simp only [List.map_append]
theorem ptk_mir (t:P9) (d:Int) {k:Nat} (hk:k < ptn d):ptk (mir9 t) d k=mir9 (ptk t d k):=by
  unfold ptk
  have hl:k < (cutP d.toNat t).length:=by rw [cutP_len];exact hk
  rw [cutP_mir,List.getD_eq_getElem?_getD,List.getD_eq_getElem?_getD,List.getElem?_map,List.getElem?_eq_getElem hl]
  rfl
theorem sq_neg8 (a:Int):-a * -a=a * a:=Int.neg_mul_neg a a
theorem near_mir (t:P9) (c:P3) (h:c.2.2=0):nearN (mir9 t) c=nearN t c:=by
  have e:nst c.2.2 (-t.1.2.2) (-t.2.1.2.2) (-t.2.2.2.2)=-nst c.2.2 t.1.2.2 t.2.1.2.2 t.2.2.2.2:=by
    rw [h]
    unfold nst lo3' hi3'
    simp only [Sp.mn_eq,Sp.mx_eq]
    omega
  have f:(c.2.2 - nst c.2.2 (-t.1.2.2) (-t.2.1.2.2) (-t.2.2.2.2)) * (c.2.2 - nst c.2.2 (-t.1.2.2) (-t.2.1.2.2) (-t.2.2.2.2))=(c.2.2 - nst c.2.2 t.1.2.2 t.2.1.2.2 t.2.2.2.2) * (c.2.2 - nst c.2.2 t.1.2.2 t.2.1.2.2 t.2.2.2.2):=by
    rw [e,h]
    generalize nst 0 t.1.2.2 t.2.1.2.2 t.2.2.2.2=z
    rw [show (0:Int) - -z=z by omega,show (0:Int) - z=-z by omega,sq_neg8]
  show (c.1 - nst c.1 t.1.1 t.2.1.1 t.2.2.1) * (c.1 - nst c.1 t.1.1 t.2.1.1 t.2.2.1) + (c.2.1 - nst c.2.1 t.1.2.1 t.2.1.2.1 t.2.2.2.1) * (c.2.1 - nst c.2.1 t.1.2.1 t.2.1.2.1 t.2.2.2.1) + (c.2.2 - nst c.2.2 (-t.1.2.2) (-t.2.1.2.2) (-t.2.2.2.2)) * (c.2.2 - nst c.2.2 (-t.1.2.2) (-t.2.1.2.2) (-t.2.2.2.2))=(c.1 - nst c.1 t.1.1 t.2.1.1 t.2.2.1) * (c.1 - nst c.1 t.1.1 t.2.1.1 t.2.2.1) + (c.2.1 - nst c.2.1 t.1.2.1 t.2.1.2.1 t.2.2.2.1) * (c.2.1 - nst c.2.1 t.1.2.1 t.2.1.2.1 t.2.2.2.1) + (c.2.2 - nst c.2.2 t.1.2.2 t.2.1.2.2 t.2.2.2.2) * (c.2.2 - nst c.2.2 t.1.2.2 t.2.1.2.2 t.2.2.2.2)
  rw [f]
theorem far_mir (t:P9) (c:P3) (h:c.2.2=0):farN (mir9 t) c=farN t c:=by
  have key:∀ a:P3,sq (sub (mir a) c)=sq (sub a c):=fun a=>by
    show (a.1 - c.1) * (a.1 - c.1) + (a.2.1 - c.2.1) * (a.2.1 - c.2.1) + (-a.2.2 - c.2.2) * (-a.2.2 - c.2.2)=(a.1 - c.1) * (a.1 - c.1) + (a.2.1 - c.2.1) * (a.2.1 - c.2.1) + (a.2.2 - c.2.2) * (a.2.2 - c.2.2)
    rw [h,Int.sub_zero,Int.sub_zero,sq_neg8]
  show hi3' (sq (sub (mir t.1) c)) (sq (sub (mir t.2.1) c)) (sq (sub (mir t.2.2) c))=_
  rw [key,key,key]
  rfl
theorem shG_mir (x:P3) (s d q:Int) (t:P9) (h:x.2.2=0):shG x s d q (mir9 t)=shG x s d q t:=by
  have hc:(tim (scl d) x).2.2=0:=by show scl d * x.2.2=0;rw [h,Int.mul_zero]
  unfold shG giR
  rw [near_mir t _ hc,far_mir t _ hc]
theorem gi_eq {g:P9→Sp.R} {L L':Nat→P9}:∀ {n:Nat},(∀ k,k < n→g (L k)=g (L' k))→gie g L n=gie g L' n∧gis g L n=gis g L' n
  | 0,_=>⟨rfl,rfl⟩
  | n + 1,e=>by
    obtain ⟨a,b⟩:=gi_eq (n:=n) fun k hk=>e k (by omega)
    constructor
    · show (if gie g L n=0 then (g (L n)).2 else gie g L n)=(if gie g L' n=0 then (g (L' n)).2 else gie g L' n)
      rw [a,e n (by omega)]
    · show gis g L n ++ [(g (L n)).1]=gis g L' n ++ [(g (L' n)).1]
      rw [b,e n (by omega)]
theorem hd_mir (x:P3) (s d:Int) (t:P9) (at_ pw tick:Int) (h:x.2.2=0):hdR x s d (mir9 t,at_,pw) tick=hdR x s d (t,at_,pw) tick:=by
  obtain ⟨a,b⟩:=gi_eq (g:=shG x s d (tick - at_)) (L:=ptk (mir9 t) d) (L':=ptk t d) (n:=ptn d) fun k hk=>by rw [ptk_mir t d hk,shG_mir x s d _ _ h]
  unfold hdR
  (try dsimp only)
  rw [a,b]
theorem sm_add (f:Nat→Int) (n:Nat):∀ m,sm f (n + m)=sm f n + sm (fun k=>f (n + k)) m
  | 0=>by show sm f n=sm f n + 0;omega
  | m + 1=>by
    show sm f (n + m) + f (n + m)=sm f n + (sm (fun k=>f (n + k)) m + f (n + m))
    rw [sm_add f n m]
    omega
theorem sm_eq8 {f g:Nat→Int}:∀ {n:Nat},(∀ k,k < n→f k=g k)→sm f n=sm g n
  | 0,_=>rfl
  | n + 1,e=>by
    show sm f n + f n=sm g n + g n
    rw [sm_eq8 (n:=n) fun k hk=>e k (by omega),e n (by omega)]
theorem sm_split {f a b:Nat→Int} {n m:Nat} (h1:∀ k,k < n→f k=a k) (h2:∀ k,k < m→f (n + k)=b k):sm f (n + m)=sm a n + sm b m:=by
  rw [sm_add f n m,sm_eq8 h1,sm_eq8 (f:=fun k=>f (n + k)) h2]
theorem sm_neg (f:Nat→Int):∀ n,sm (fun k=>-f k) n=-sm f n
  | 0=>rfl
  | n + 1=>by
    show sm (fun k=>-f k) n + -f n=-(sm f n + f n)
    rw [sm_neg f n]
    omega
theorem sm_le8 {f g:Nat→Int}:∀ {n:Nat},(∀ k,k < n→f k≤g k)→sm f n≤sm g n
  | 0,_=>Int.le_refl _
  | n + 1,e=>by
    have:=sm_le8 (n:=n) fun k hk=>e k (by omega)
    have:=e n (by omega)
    show sm f n + f n≤sm g n + g n
    omega
theorem sm_bd8 {f:Nat→Int} {B:Int}:∀ {n:Nat},(∀ k,k < n→-B≤f k∧f k≤B)→-((n:Int) * B)≤sm f n∧sm f n≤(n:Int) * B
  | 0,_=>by show -(((0:Nat):Int) * B)≤0∧0≤((0:Nat):Int) * B;simp
  | n + 1,e=>by
    have h1:=sm_bd8 (n:=n) fun k hk=>e k (by omega)
    have h2:=e n (by omega)
    have:((n + 1:Nat):Int) * B=(n:Int) * B + B:=by rw [Int.natCast_add,Int.add_mul];simp
    show -(((n + 1:Nat):Int) * B)≤sm f n + f n∧sm f n + f n≤((n + 1:Nat):Int) * B
    omega
theorem geN_or {g:Nat→Sp.R}:∀ {n:Nat},(∀ k,k < n→hOk (g k))→geN g n=0∨geN g n=10
  | 0,_=>Or.inl rfl
  | n + 1,h=>by
    show (if geN g n=0 then (g n).2 else geN g n)=0∨(if geN g n=0 then (g n).2 else geN g n)=10
    rcases geN_or (n:=n) (fun k hk=>h k (by omega)) with e | e
    · rw [if_pos e]
      rcases h n (by omega) with z | z
      · exact Or.inr z.1
      · exact Or.inl z.1
    · rw [if_neg (by rw [e];decide)]
      exact Or.inr e
theorem geN_iff {g:Nat→Sp.R} {n:Nat}:geN g n=0 ↔ ∀ k,k < n→(g k).2=0:=by
  constructor
  · exact fun h=>geN_all h
  · intro h
    induction n with
    | zero=>rfl
    | succ n ih=>exact geN_next (ih fun k hk=>h k (by omega)) (h n (by omega))
theorem sceR_val {g:Nat→Sp.R} {n:Nat} (h:∀ k,k < n→hOk (g k)) (hn:n≤16) :
    (geN g n=10∧sceR g n=((0,0),10))∨(geN g n=0∧sceR g n=((sm (fun k=>(g k).1.1) n,sm (fun k=>(g k).1.2) n),0)∧sm (fun k=>(g k).1.1) n≤sm (fun k=>(g k).1.2) n∧-13421774400≤sm (fun k=>(g k).1.1) n∧sm (fun k=>(g k).1.2) n≤13421774400):=by
  rcases geN_or h with z | z
  · refine Or.inr ⟨z,?_⟩
    have q:∀ k,k < n→(g k).1.1≤(g k).1.2∧-838860900≤(g k).1.1∧(g k).1.2≤838860900:=fun k hk=>by
      have e:=geN_all z k hk
      rcases h k hk with y | y
      · rw [y.1] at e;cases e
      · exact y.2
    have b1:=sm_bd8 (f:=fun k=>(g k).1.1) (B:=838860900) (n:=n) fun k hk=>by have:=q k hk;(try dsimp only);omega
    have b2:=sm_bd8 (f:=fun k=>(g k).1.2) (B:=838860900) (n:=n) fun k hk=>by have:=q k hk;(try dsimp only);omega
    have le:=sm_le8 (f:=fun k=>(g k).1.1) (g:=fun k=>(g k).1.2) (n:=n) fun k hk=>(q k hk).1
    have e1:sm (fun k=>((gsN g n).getD k (0,0)).1) n=sm (fun k=>(g k).1.1) n:=sm_eq8 fun k hk=>by (try dsimp only);rw [gsN_at hk]
    have e2:sm (fun k=>((gsN g n).getD k (0,0)).2) n=sm (fun k=>(g k).1.2) n:=sm_eq8 fun k hk=>by (try dsimp only);rw [gsN_at hk]
    refine ⟨?_,le,by omega,by omega⟩
    unfold sceR
    rw [if_neg (fun c=>c z)]
    unfold smR8
    rw [if_pos (all_yes fun k hk=>by (try dsimp only);rw [gsN_at hk];have:=q k hk;exact Sp.vld_iff.2 ⟨by omega,this.1,by omega⟩),e1,e2]
    unfold sumR
    rw [if_pos rfl]
    exact Sp.told_yes (Sp.vld_iff.2 ⟨by omega,le,by omega⟩)
  · refine Or.inl ⟨z,?_⟩
    unfold sceR
    rw [if_pos (by rw [z];decide),z]
theorem walls_fact (n:Nat) (Q:Nat→Pu) (x:P3) (s t d:Int) (hx:x.2.2=0) :
    (echR n Q false x s t d).2=(echR n Q true x s t d).2∧((echR n Q false x s t d).2=0→(scnR n Q x s t d).2=0∧scaleR (scnR n Q x s t d).1.1 (scnR n Q x s t d).1.2 2=((echR n Q false x s t d).1,0)∧(echR n Q true x s t d).1.1≤0∧0≤(echR n Q true x s t d).1.2):=by
  unfold echR
  by_cases z0:icode n Q=0
  · have z0':¬ (icode n Q ≠ 0):=fun c=>c z0
    rw [if_neg z0',if_neg z0']
    by_cases z1:acode8 x s t d=0
    · have z1':¬ (acode8 x s t d ≠ 0):=fun c=>c z1
      have z2:¬ (x.2.2 < 0):=by omega
      rw [if_neg z1',if_neg z1',if_neg z2,if_neg z2]
      obtain ⟨h8,hp⟩:=icode_ok z0
      obtain ⟨h2,h3,h4,h5⟩:=acode8_ok z1
      have hv:vpcode n Q=0:=by
        unfold vpcode
        rw [if_pos (by omega)]
        exact pucodes_none hp
      have hs:scnR n Q x s t d=sceQ x s d Q n t:=by
        unfold scnR
        rw [if_pos (by unfold scode;rw [if_pos hv,z1])]
      rw [hs]
      unfold sceQ
      have O:∀ so k,k < n + n→hOk (hdR x s d (bth so Q n k) t):=fun so k hk=>hd_ok (bth_ok so z0 k hk) h2 h3.1 h3.2 h5.1 h5.2 h4.1 h4.2
      have O1:∀ k,k < n→hOk (hdR x s d (Q k) t):=fun k hk=>hd_ok (hp k hk) h2 h3.1 h3.2 h5.1 h5.2 h4.1 h4.2
      have L:∀ so k,k < n→hdR x s d (bth so Q n k) t=hdR x s d (Q k) t:=fun so k hk=>by unfold bth;rw [if_pos hk]
      have Rf:∀ k,k < n→hdR x s d (bth false Q n (n + k)) t=hdR x s d (Q k) t:=fun k hk=>by
        unfold bth
        rw [if_neg (by omega),show n + k - n=k by omega]
        exact hd_mir x s d (Q k).1 (Q k).2.1 (Q k).2.2 t hx
      have Rt:∀ k,k < n→hdR x s d (bth true Q n (n + k)) t=((-(hdR x s d (Q k) t).1.2,-(hdR x s d (Q k) t).1.1),(hdR x s d (Q k) t).2):=fun k hk=>by
        unfold bth
        rw [if_neg (by omega),show n + k - n=k by omega]
        have e:=hd_mir x s d (Q k).1 (Q k).2.1 (-(Q k).2.2) t hx
        exact e.trans (hd_neg (hp k hk) h2 h3.1 h3.2 h5.1 h5.2 h4.1 h4.2)
      have ef:geN (fun k=>hdR x s d (bth false Q n k) t) (n + n)=0 ↔ geN (fun k=>hdR x s d (bth true Q n k) t) (n + n)=0:=by
        rw [geN_iff,geN_iff]
        constructor
        · intro h k hk
          by_cases c:k < n
          · have:=h k hk;(try dsimp only at this ⊢);rw [L _ k c] at this ⊢;exact this
          · obtain ⟨j,rfl⟩:∃ j,k=n + j:=⟨k - n,by omega⟩
            have:=h _ hk;(try dsimp only at this ⊢);rw [Rf j (by omega)] at this;rw [Rt j (by omega)];exact this
        · intro h k hk
          by_cases c:k < n
          · have:=h k hk;(try dsimp only at this ⊢);rw [L _ k c] at this ⊢;exact this
          · obtain ⟨j,rfl⟩:∃ j,k=n + j:=⟨k - n,by omega⟩
            have:=h _ hk;(try dsimp only at this ⊢);rw [Rt j (by omega)] at this;rw [Rf j (by omega)];exact this
      rcases sceR_val (O false) (by omega) with ⟨a1,a2⟩ | ⟨a1,a2,a3,a4,a5⟩
      · rcases sceR_val (O true) (by omega) with ⟨b1,b2⟩ | ⟨b1,_⟩
        · rw [a2,b2]
          exact ⟨rfl,fun h=>absurd h (by decide)⟩
        · rw [ef.2 b1] at a1;cases a1
      · rcases sceR_val (O true) (by omega) with ⟨b1,b2⟩ | ⟨b1,b2,b3,b4,b5⟩
        · rw [ef.1 a1] at b1;cases b1
        · have g0:geN (fun k=>hdR x s d (Q k) t) n=0:=geN_iff.2 fun k hk=>by
            have:=geN_iff.1 a1 k (by omega)
            (try dsimp only at this ⊢)
            rwa [L _ k hk] at this
          rcases sceR_val O1 (by omega) with ⟨c1,_⟩ | ⟨c1,c2,c3,c4,c5⟩
          · rw [g0] at c1;cases c1
          · have f1:sm (fun k=>(hdR x s d (bth false Q n k) t).1.1) (n + n)=sm (fun k=>(hdR x s d (Q k) t).1.1) n + sm (fun k=>(hdR x s d (Q k) t).1.1) n:=sm_split (fun k hk=>congrArg (fun r:Sp.R=>r.1.1) (L false k hk)) (fun k hk=>congrArg (fun r:Sp.R=>r.1.1) (Rf k hk))
            have f2:sm (fun k=>(hdR x s d (bth false Q n k) t).1.2) (n + n)=sm (fun k=>(hdR x s d (Q k) t).1.2) n + sm (fun k=>(hdR x s d (Q k) t).1.2) n:=sm_split (fun k hk=>congrArg (fun r:Sp.R=>r.1.2) (L false k hk)) (fun k hk=>congrArg (fun r:Sp.R=>r.1.2) (Rf k hk))
            have f3:sm (fun k=>(hdR x s d (bth true Q n k) t).1.1) (n + n)=sm (fun k=>(hdR x s d (Q k) t).1.1) n + sm (fun k=>-(hdR x s d (Q k) t).1.2) n:=sm_split (fun k hk=>congrArg (fun r:Sp.R=>r.1.1) (L true k hk)) (fun k hk=>congrArg (fun r:Sp.R=>r.1.1) (Rt k hk))
            have f4:sm (fun k=>(hdR x s d (bth true Q n k) t).1.2) (n + n)=sm (fun k=>(hdR x s d (Q k) t).1.2) n + sm (fun k=>-(hdR x s d (Q k) t).1.1) n:=sm_split (fun k hk=>congrArg (fun r:Sp.R=>r.1.2) (L true k hk)) (fun k hk=>congrArg (fun r:Sp.R=>r.1.2) (Rt k hk))
            rw [sm_neg] at f3 f4
            rw [a2,b2,c2,f1,f2,f3,f4]
            refine ⟨rfl,fun _=>⟨rfl,?_,by (try dsimp only);omega,by (try dsimp only);omega⟩⟩
            (try dsimp only)
            generalize sm (fun k=>(hdR x s d (Q k) t).1.1) n=lo at *
            generalize sm (fun k=>(hdR x s d (Q k) t).1.2) n=hi at *
            unfold scaleR
            rw [if_pos ⟨Sp.vld_iff.2 ⟨by omega,c3,by omega⟩,by decide,by decide⟩,Sp.mn_eq,Sp.mx_eq,Sp.told_yes (Sp.vld_iff.2 (by omega))]
            refine Prod.ext (Prod.ext ?_ ?_) rfl
            · (try dsimp only);omega
            · (try dsimp only);omega
    · rw [if_pos z1,if_pos z1]
      exact ⟨rfl,fun h=>absurd h z1⟩
  · rw [if_pos z0,if_pos z0]
    exact ⟨rfl,fun h=>absurd h z0⟩
end Go.Proofs.YtgchcnpgjfoadaaGreat
