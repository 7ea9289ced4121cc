import Derived.Test.YtpocbdompamnnaaShelf
import Derived.Test.YtpocbdompamnnaaTr2
namespace Go.Proofs.Ytpocbdompamnnaa
open Go.ChangeShapes Go.WideShapes Go.RowKit
open Sh
open Go.Sort (grow)
attribute [local go_sem 1000000] run_min_mn run_max_mx
def or2 (a b:Int):Int:=if a=0 then b else a
set_option maxRecDepth 100000 in
set_option maxHeartbeats 4000000 in
theorem or2_any (x y:Int) (b:Nat) (w:World) (h0:w.cell? ⟨b,0,none⟩=some (.int .i64 x)) (h1:w.cell? ⟨b,1,none⟩=some (.int .i64 y)):Calls Try.prog 98 #[.slice (some ⟨b,0,none⟩) 2 2] w fun e w'=>e=.returned (.int .i64 (or2 x y))∧w'=w:=by
  unfold or2
  by_cases cx:x=0
  · rw [if_pos cx]
    by_cases cy:y=0
    · subst cx
      subst cy
      go_enter Try.func98,Try.ntmps98
      go_wp2
      refine wp_loop_rounds 3 ?_
      rw [rounds_succ]
      go_wp2
      rw [rounds_succ]
      go_wp2
      rw [rounds_succ]
      go_wp2
      go_ret
      exact ⟨rfl,rfl⟩
    · subst cx
      have ey:(y != 0)=true:=bne_iff_ne.2 cy
      go_enter Try.func98,Try.ntmps98
      go_wp2
      refine wp_loop_rounds 3 ?_
      rw [rounds_succ]
      go_wp2
      rw [rounds_succ]
      go_wp2
      go_ret
      exact ⟨rfl,rfl⟩
  · rw [if_neg cx]
    have ex:(x != 0)=true:=bne_iff_ne.2 cx
    go_enter Try.func98,Try.ntmps98
    go_wp2
    refine wp_loop_rounds 3 ?_
    rw [rounds_succ]
    go_wp2
    go_ret
    exact ⟨rfl,rfl⟩
theorem or2_cf (f:Nat→Int) (a b:Nat):or2 (Lib.compareInt (f a) (f b)) (Lib.compareInt (a:Int) (b:Int))=cfN f a b:=rfl
def CmS (w W:World) (p b off n c k:Nat):Prop:=OwnSo W p b off n c k∧Grw w W
theorem cmS_grw {w W W':World} {p b off n c k:Nat} (h:CmS w W p b off n c k) (g:Grw W W'):CmS w W' p b off n c k:=⟨ownSo_below h.1 g.1,grw_step h.2 g⟩
theorem cmS_alloc {w W:World} {p b off n c k:Nat} (h:CmS w W p b off n c k) (o:Obj):CmS w (W.alloc o) p b off n c k:=cmS_grw h (grw_alloc (grw_refl W) o)
theorem cmS_new (w:World) (b off n c k:Nat):CmS w (w.alloc (.cells #[.slice (some ⟨b,off,none⟩) n c,.int .i64 ((k:Nat):Int)] 100)) w.heap.size b off n c k:=⟨ownSo_new w b off n c k,grw_alloc (grw_refl w) _⟩
theorem cmS_drew {w W:World} {p b off n c k:Nat} (h:CmS w W p b off n c k):CmS w W.drew p b off n c k:=cmS_grw h (grw_drew (grw_refl W))
theorem cmS_g {w W:World} {p b off n c k:Nat} (h:CmS w W p b off n c k):Grw w W:=h.2
theorem cmS_cells {w W:World} {p b off n c k:Nat} (h:CmS w W p b off n c k):W.cell? ⟨p,0,none⟩=some (.slice (some ⟨b,off,none⟩) n c)∧W.cell? ⟨p,1,none⟩=some (.int .i64 (k:Int)):=h.1.1
set_option maxRecDepth 100000 in
set_option maxHeartbeats 4000000 in
theorem cmp_walk (b off n c k i j:Nat) (f:Nat→Int) (w:World) (KI:Hid (∀ W,Grw w W→Calls Try.prog 95 #[.agg #[.slice (some ⟨b,off,none⟩) n c,.int .i64 ((k:Nat):Int)],.int .i64 (i:Nat)] W fun e w'=>e=.returned (.int .i64 (f i))∧Grw W w')) (KJ:Hid (∀ W,Grw w W→Calls Try.prog 95 #[.agg #[.slice (some ⟨b,off,none⟩) n c,.int .i64 ((k:Nat):Int)],.int .i64 (j:Nat)] W fun e w'=>e=.returned (.int .i64 (f j))∧Grw W w')):Calls Try.prog 76 #[.agg #[.slice (some ⟨b,off,none⟩) n c,.int .i64 ((k:Nat):Int)],.int .i64 (i:Nat),.int .i64 (j:Nat)] w fun e w'=>e=.returned (.int .i64 (cfN f i j))∧Grw w w':=by
  have C1:=Lib.hid (fun W=>Try.cmp_Compare_int (f i) (f j) W)
  have C2:=Lib.hid (fun W=>Try.cmp_Compare_int (i:Int) (j:Int) W)
  rw [← or2_cf]
  generalize Lib.compareInt (f i) (f j)=u at *
  generalize Lib.compareInt (i:Int) (j:Int)=v at *
  generalize f i=fi at *
  generalize f j=fj at *
  have P0:=Lib.hid (cmS_new w b off n c k)
  go_enter Try.func76,Try.ntmps76
  go_upto_region 1 with fail
  have p0:=cmS_drew P0.out
  go_region_held3 (fun w'=>w'.cell? ⟨w.heap.size,0,none⟩=some (.slice (some ⟨b,off,none⟩) n c)∧w'.cell? ⟨w.heap.size,1,none⟩=some (.int .i64 (k:Int)))
    (first | (with_reducible exact cmS_cells p0) | (with_reducible exact cmS_cells p1) | (with_reducible exact cmS_cells p2) | (with_reducible exact cmS_cells (cmS_alloc p2 _)) | fail)
    (first
      | (go_at_call 95;(first | (with_reducible refine (KI.out _ (cmS_g p1)).mono ?_) | (with_reducible refine (KJ.out _ (cmS_g p1)).mono ?_) | (with_reducible refine (KI.out _ (cmS_g p0)).mono ?_) | (with_reducible refine (KJ.out _ (cmS_g p0)).mono ?_));rintro e y ⟨rfl,hv⟩;(first | (have p2:=cmS_grw p1 hv) | (have p1:=cmS_grw p0 hv)))
      | (go_at_call 99;(first | (with_reducible refine (C1.out _).mono ?_) | (with_reducible refine (C2.out _).mono ?_));rintro e y ⟨rfl,rfl⟩)
      | (go_at_call 98;(refine (or2_any u v _ _ (by go_simp) (by go_simp)).mono ?_);rintro e y ⟨rfl,rfl⟩)
      | fail)
  all_goals
    go_wp2
    go_ret
    exact ⟨rfl,(cmS_alloc p2 _).2⟩
def ChR (w:World) (ob oo:Nat) (L:List Nat):Prop:=ob < w.heap.size∧∀ k,k < L.length→w.cell? ⟨ob,oo + k,none⟩=some (.int .i64 ((L.getD k 0:Nat):Int))
theorem chR_below {w W:World} {ob oo:Nat} {L:List Nat} (h:ChR w ob oo L) (hb:Below w.heap.size w W):ChR W ob oo L :=
  ⟨Nat.lt_of_lt_of_le h.1 hb.size,fun k hk=>(hb.cell (p:=⟨ob,oo + k,none⟩) h.1).trans (h.2 k hk)⟩
theorem take_snoc9 (L:List Nat) {j:Nat} (h:j < L.length):L.take (j + 1)=L.take j ++ [L.getD j 0]:=by
  rw [List.take_add_one,List.getD,List.getElem?_eq_getElem h]
  rfl
theorem getD_mem9 {L:List Nat} {j:Nat} (h:j < L.length):L.getD j 0 ∈ L:=by
  rw [List.getD_eq_getElem?_getD,List.getElem?_eq_getElem h]
  exact List.getElem_mem h
def WdS (w W:World) (p b off n c k ob o:Nat) (x:Int):Prop:=CmS w W p b off n c k∧W.cell? ⟨ob,o,none⟩=some (.int .i64 x)∧ob < W.heap.size
theorem wdS_grw {w W W':World} {p b off n c k ob o:Nat} {x:Int} (h:WdS w W p b off n c k ob o x) (g:Grw W W'):WdS w W' p b off n c k ob o x :=
  ⟨cmS_grw h.1 g,(g.1.cell (p:=⟨ob,o,none⟩) h.2.2).trans h.2.1,Nat.lt_of_lt_of_le h.2.2 g.1.size⟩
theorem wdS_g {w W:World} {p b off n c k ob o:Nat} {x:Int} (h:WdS w W p b off n c k ob o x):Grw w W:=h.1.2
theorem bel_grw {w W0 W:World} {p b off n c k ob o:Nat} {x:Int} (_:WdS w W0 p b off n c k ob o x) (h:Grw W0 W):Below W0.heap.size W0 W:=h.1
theorem wdS_cells {w W:World} {p b off n c k ob o:Nat} {x:Int} (h:WdS w W p b off n c k ob o x):W.cell? ⟨p,0,none⟩=some (.slice (some ⟨b,off,none⟩) n c)∧W.cell? ⟨p,1,none⟩=some (.int .i64 (k:Int))∧W.cell? ⟨ob,o,none⟩=some (.int .i64 x):=⟨h.1.1.1.1,h.1.1.1.2,h.2.1⟩
set_option maxRecDepth 100000 in
set_option maxHeartbeats 4000000 in
theorem wid_any (b off n c k ob oo m cc:Nat) (f:Nat→Int) (L:List Nat) (w:World) (hm:L.length=m) (h1:1≤m) (h96:m≤96) (r:ChR w ob oo L) (fb:∀ i,i ∈ L→-192≤f i∧f i≤192)
    (K:Hid (∀ i:Nat,i ∈ L→∀ W,Grw w W→Calls Try.prog 95 #[.agg #[.slice (some ⟨b,off,none⟩) n c,.int .i64 ((k:Nat):Int)],.int .i64 (i:Nat)] W fun e w'=>e=.returned (.int .i64 (f i))∧Grw W w')):Calls Try.prog 74 #[.agg #[.slice (some ⟨b,off,none⟩) n c,.int .i64 ((k:Nat):Int)],.slice (some ⟨ob,oo,none⟩) m cc] w fun e w'=>e=.returned (.int .i64 (wdK f L))∧Grw w w':=by
  have R:=Lib.hid r
  have c0:=r.2 0 (by omega)
  have lob:=r.1
  rw [Nat.add_zero] at c0
  obtain ⟨x0,ex⟩:∃ x0,L.getD 0 0=x0:=⟨_,rfl⟩
  rw [ex] at c0
  have m0:x0 ∈ L:=ex ▸ getD_mem9 (by omega)
  have K0:=Lib.hid (K.out x0 m0)
  have fb0:=fb x0 m0
  have FB:=Lib.hid fb
  have M0:=Lib.hid m0
  have EX:=Lib.hid ex
  have h1i:(1:Int)≤(m:Int):=by omega
  have h1j:(0:Int) < (m:Int):=by omega
  have h1n:0 < m:=by omega
  have P0:=Lib.hid (show WdS w (w.alloc (.cells #[.slice (some ⟨b,off,none⟩) n c,.int .i64 ((k:Nat):Int)] 100)) w.heap.size b off n c k ob oo (x0:Nat) from ⟨cmS_new w b off n c k,by go_simp,by simp;omega⟩)
  have RB:=Lib.hid ((Below.refl w.heap.size w).alloc (Nat.le_refl _) (.cells #[.slice (some ⟨b,off,none⟩) n c,.int .i64 ((k:Nat):Int)] 100))
  have R1:=Lib.hid (chR_below R.out RB.out)
  clear r m0 fb ex c0
  obtain ⟨fx,efx⟩:∃ fx,f x0=fx:=⟨_,rfl⟩
  have EFX:=Lib.hid efx
  rw [efx] at K0 fb0
  clear efx
  go_enter Try.func74,Try.ntmps74
  go_upto_region 1 with fail
  have p0:WdS w (w.alloc (.cells #[.slice (some ⟨b,off,none⟩) n c,.int .i64 ((k:Nat):Int)] 100)).drew w.heap.size b off n c k ob oo (x0:Nat):=wdS_grw P0.out (grw_drew (grw_refl _))
  have oob:ob < (w.alloc (.cells #[.slice (some ⟨b,off,none⟩) n c,.int .i64 ((k:Nat):Int)] 100)).drew.heap.size:=p0.2.2
  go_region_held3 (fun w'=>w'.cell? ⟨w.heap.size,0,none⟩=some (.slice (some ⟨b,off,none⟩) n c)∧w'.cell? ⟨w.heap.size,1,none⟩=some (.int .i64 (k:Int))∧w'.cell? ⟨ob,oo,none⟩=some (.int .i64 (x0:Nat)))
    (first | (with_reducible exact wdS_cells p0) | (with_reducible exact wdS_cells p1) | (with_reducible exact wdS_cells p2) | fail)
    (first
      | (go_at_call 95;(first | (with_reducible refine (K0.out _ (wdS_g p1)).mono ?_) | (with_reducible refine (K0.out _ (wdS_g p0)).mono ?_));rintro e y ⟨rfl,hv⟩;(first | (have p2:=wdS_grw p1 hv;have g2:=Lib.hid (grw_step g1.out hv)) | (have p1:=wdS_grw p0 hv;have g1:=Lib.hid (grw_step (grw_drew (grw_refl (w.alloc (.cells #[.slice (some ⟨b,off,none⟩) n c,.int .i64 ((k:Nat):Int)] 100)))) hv))))
      | fail)
  have C2:=Lib.hid p2.1
  have R2:=Lib.hid (chR_below R1.out (show Below (w.alloc (.cells #[.slice (some ⟨b,off,none⟩) n c,.int .i64 ((k:Nat):Int)] 100)).heap.size (w.alloc (.cells #[.slice (some ⟨b,off,none⟩) n c,.int .i64 ((k:Nat):Int)] 100)) y from g2.out.1))
  clear p0 p1 p2 oob hv
  go_wp2
  go_loopw [5,6,21] (fun lv mv kv wr=>∃ j:Nat,j≤m∧kv=.int .i64 j∧lv=.int .i64 (mnG f fx (L.take j))∧mv=.int .i64 (mxG f fx (L.take j))∧Grw y wr) (fun _ _ kv _=>m - (intOf kv).toNat)
  case atStart=>exact ⟨0,Nat.zero_le _,rfl,rfl,rfl,grw_refl _⟩
  case round =>
    obtain ⟨j,hj,rfl,rfl,rfl,gg⟩:=hrel
    have GG:=Lib.hid gg
    clear gg
    by_cases hlt:j < m
    · have hj1:(j:Int) < (m:Int):=by omega
      have R3:=chR_below R2.out GG.out.1
      have c0:=R3.2 j (by omega)
      have lo3:=R3.1
      have NX:=Lib.hid (show mnG f fx (L.take (j + 1))=Sp.mn (mnG f fx (L.take j)) (f (L.getD j 0))∧mxG f fx (L.take (j + 1))=Sp.mx (mxG f fx (L.take j)) (f (L.getD j 0)) by rw [take_snoc9 L (by omega),mnG_snoc,mxG_snoc];exact ⟨rfl,rfl⟩)
      have KJ:=Lib.hid (K.out (L.getD j 0) (getD_mem9 (by omega)))
      clear R3
      generalize L.getD j 0=xj at *
      generalize f xj=fj at *
      generalize mnG f fx (L.take j)=lst at *
      generalize mxG f fx (L.take j)=mst at *
      have G0:=Lib.hid (cmS_grw C2.out GG.out)
      go_upto_region 5 with fail
      have p0:=cmS_drew G0.out
      go_region_held3 (fun w'=>w'.cell? ⟨w.heap.size,0,none⟩=some (.slice (some ⟨b,off,none⟩) n c)∧w'.cell? ⟨w.heap.size,1,none⟩=some (.int .i64 (k:Int)))
        (first | (with_reducible exact cmS_cells p0) | (with_reducible exact cmS_cells p1) | (with_reducible exact cmS_cells p2) | fail)
        (first
          | (go_at_call 95;(first | (with_reducible refine (KJ.out _ (cmS_g p1)).mono ?_) | (with_reducible refine (KJ.out _ (cmS_g p0)).mono ?_));rintro e z ⟨rfl,hv⟩;(first | (have p2:=cmS_grw p1 hv;have G5:=Lib.hid (grw_step G4.out hv)) | (have p1:=cmS_grw p0 hv;have G4:=Lib.hid (grw_step (grw_drew GG.out) hv))))
          | fail)
      all_goals
        go_wp2
        go_roundw
        case rel=>exact ⟨j + 1,by omega,by go_num,by rw [NX.out.1],by rw [NX.out.2],G5.out⟩
        case measure=>simp [intOf];omega
    · obtain rfl:j=m:=by omega
      have e9:L.take j=L:=by rw [← hm];exact List.take_length
      rw [e9]
      have FB0:=FB.out
      have b1:=mnG_bd (f:=f) (B:=192) (z:=fx) (L:=L) (by omega) FB0
      have b2:=mxG_bd (f:=f) (B:=192) (z:=fx) (L:=L) (by omega) FB0
      have WD:=Lib.hid (show wdK f L=mxG f fx L - mnG f fx L by unfold wdK;rw [EX.out,EFX.out])
      clear FB0
      generalize mnG f fx L=lst at *
      generalize mxG f fx L=mst at *
      go_wp2
      go_ret
      exact ⟨by rw [WD.out];rfl,grw_step (cmS_g C2.out) GG.out⟩
end Go.Proofs.Ytpocbdompamnnaa
