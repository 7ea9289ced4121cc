import Derived.Test.YtgchcnpgjfoadaaGreatSo57
namespace Go.Proofs.YtgchcnpgjfoadaaGreat
open Go.ChangeShapes Go.WideShapes Go.RowKit
open Sh
open Go.Shelf
def ars (f g:Nat→Int):Nat→List Value
  | 0=>[]
  | k + 1=>ars f g k ++ [.int .i64 (f k),.int .i64 (g k),.int .i64 (k:Int)]
theorem ars_len (f g:Nat→Int):∀ k,(ars f g k).length=k * 3
  | 0=>rfl
  | k + 1=>by show (ars f g k ++ [_,_,_]).length=_;rw [List.length_append,ars_len f g k];simp;omega
theorem ars_at (f g:Nat→Int):∀ {n k:Nat},k < n→(ars f g n)[k * 3]?=some (.int .i64 (f k))∧(ars f g n)[k * 3 + 1]?=some (.int .i64 (g k))∧(ars f g n)[k * 3 + 2]?=some (.int .i64 (k:Int))
  | 0,k,h=>absurd h (Nat.not_lt_zero k)
  | n + 1,k,h=>by
    show (ars f g n ++ [_,_,_])[_]?=_∧(ars f g n ++ [_,_,_])[_]?=_∧(ars f g n ++ [_,_,_])[_]?=_
    have l:=ars_len f g n
    by_cases e:k=n
    · subst e
      rw [List.getElem?_append_right (by omega),List.getElem?_append_right (by omega),List.getElem?_append_right (by omega),l]
      simp
    · have:=ars_at f g (n:=n) (k:=k) (by omega)
      rw [List.getElem?_append_left (by omega),List.getElem?_append_left (by omega),List.getElem?_append_left (by omega)]
      exact this
theorem infoA8:(Tryz.prog.info? 83).map (fun i=>(i.zero,i.size,i.bytes))=some (some (.agg #[.int .i64 0,.int .i64 0,.int .i64 0]),3,24):=by kernel_rfl
theorem ar_new8 (w:World) (b:Nat) (x y z:Int) (t:TypeId) (hb:b=w.heap.size):∀ j u,([.int .i64 x,.int .i64 y,.int .i64 z]:List Value)[j]?=some u→(w.alloc (.cells #[.int .i64 x,.int .i64 y,.int .i64 z] t)).cell? ((⟨b,0,none⟩:Addr).add j)=some u:=by
  subst hb
  intro j u h
  match j,h with
  | 0,h | 1,h | 2,h=>(simp at h;subst h;simp only [Addr.add];go_simp)
  | j + 3,h=>simp at h
theorem nvs_take (L:List Nat) (j:Nat) (h:j < L.length):nvs (L.take (j + 1))=nvs (L.take j) ++ [.int .i64 ((L.getD j 0:Nat):Int)]:=by
  have e:L.take (j + 1)=L.take j ++ [L.getD j 0]:=by
    rw [List.take_add_one,List.getD,List.getElem?_eq_getElem h]
    rfl
  rw [e,nvs_app]
  rfl
theorem ownPu_grown {w w1:World} {b:Nat} {row:Option Nat} {p:Pu} (h:OwnPu w b p) (hg:w.grownBy w1 row) (hne:some b ≠ row):OwnPu w1 b p:=by
  obtain ⟨⟨h0,h1,h2,h3,h4,h5,h6,h7,h8,h9,h10⟩,l⟩:=h
  exact ⟨⟨hg.cell h0 hne,hg.cell h1 hne,hg.cell h2 hne,hg.cell h3 hne,hg.cell h4 hne,hg.cell h5 hne,hg.cell h6 hne,hg.cell h7 hne,hg.cell h8 hne,hg.cell h9 hne,hg.cell h10 hne⟩,Nat.lt_of_lt_of_le l hg.size⟩
theorem ownMic_in {w w1:World} {b N:Nat} {x:P3} {s d:Int} (h:OwnMic w b x s d) (hb:Below N w w1) (hN:b < N):OwnMic w1 b x s d:=by
  obtain ⟨⟨h0,h1,h2,h3,h4⟩,l⟩:=h
  exact ⟨⟨(hb.cell (p:=⟨b,0,none⟩) hN).trans h0,(hb.cell (p:=⟨b,1,none⟩) hN).trans h1,(hb.cell (p:=⟨b,2,none⟩) hN).trans h2,(hb.cell (p:=⟨b,3,none⟩) hN).trans h3,(hb.cell (p:=⟨b,4,none⟩) hN).trans h4⟩,Nat.lt_of_lt_of_le l hb.size⟩
set_option maxRecDepth 100000 in
set_option maxHeartbeats 4000000 in
theorem ord_c (a:Option Addr) (n c:Nat) (x:P3) (s:Int) (mc:Int) (w:World) (C:Hid (∀ W,Below w.heap.size w W→Calls Tryz.prog 24 #[micv x s 0,.slice a n c,.slice none 0 0] W fun e w'=>e=.returned (.int .i64 mc)∧Below W.heap.size W w')) (z:(mc != 0)=true):Calls Tryz.prog 18 #[.slice a n c,ptv x,.int .i64 s] w fun e w'=>e=.returned (.tuple #[.slice none 0 0,.int .i64 mc])∧Below w.heap.size w w':=by
  have M0:=Lib.hid (ownMic_new (w.alloc (ptc x 24)) x s 0 55)
  have B0:=Lib.hid (show Below w.heap.size w ((w.alloc (ptc x 24)).alloc (micb x s 0 55)) by (repeat' (first | exact Below.refl _ _ | refine Below.setCell ?_ (by simp <;> omega) _ | refine balloc ?_ _ | refine Below.drew ?_ | refine bdrewN ?_ _)))
  simp only [World.size_alloc] at M0
  go_enter Tryz.func18,Tryz.ntmps18
  go_wp2_with fail
  refine (C.out _ B0.out).mono ?_
  rintro e w1 ⟨rfl,hb1⟩
  have M1:=Lib.hid (ownMic_below M0.out hb1)
  have B1:=Lib.hid (bstep B0.out hb1)
  clear hb1 M0 B0
  have hB:=B1.out
  go_wp2
  go_ret2
  exact ⟨rfl,by (repeat' (first | with_reducible exact hB | with_reducible refine Below.drew ?_ | (with_reducible refine balloc ?_ _) | (with_reducible refine Below.setCell ?_ (by simp <;> omega) _)))⟩
set_option maxRecDepth 100000 in
set_option maxHeartbeats 4000000 in
theorem ord_ok (a:Option Addr) (n c:Nat) (x:P3) (s:Int) (Q:Nat→Pu) (f g:Nat→Int) (w:World) (C:Hid (∀ W,Below w.heap.size w W→Calls Tryz.prog 24 #[micv x s 0,.slice a n c,.slice none 0 0] W fun e w'=>e=.returned (.int .i64 0)∧Below W.heap.size W w')) (rr:LstU w a n Q) (hn:n≤16)
    (FI:Hid (∀ k,k < n→∀ W,Calls Tryz.prog 25 #[micv x s 0,puv (Q k)] W fun e w'=>e=.returned (.int .i64 (f k))∧Below W.heap.size W w'))
    (LA:Hid (∀ k,k < n→∀ W,Calls Tryz.prog 26 #[micv x s 0,puv (Q k)] W fun e w'=>e=.returned (.int .i64 (g k))∧Below W.heap.size W w'))
    (SO:Hid (∀ W B v,B≤W.heap.size→W.ownsRow B 83 3 v n (ars f g n)→Calls Tryz.prog 41 #[v,.func (.func 42) #[] #[]] W fun e w'=>e=.returned (.tuple #[])∧∃ A c L,v=.slice A n c∧SrtA f g n L∧(∀ k,k < n→∃ q e0 e1,A=some ⟨q,0,none⟩∧q < w'.heap.size∧w'.cell? ⟨q,k * 3,none⟩=some (.int .i64 e0)∧w'.cell? ⟨q,k * 3 + 1,none⟩=some (.int .i64 e1)∧w'.cell? ⟨q,k * 3 + 1 + 1,none⟩=some (.int .i64 ((L.getD k 0:Nat):Int)))∧Below B W w')) :
    Calls Tryz.prog 18 #[.slice a n c,ptv x,.int .i64 s] w fun e w'=>∃ v L,e=.returned (.tuple #[v,.int .i64 0])∧SrtA f g n L∧w'.ownsRow w.heap.size 3 1 v n (nvs L)∧Below w.heap.size w w':=by
  obtain ⟨i0,hi,hz0,hz1,hz2⟩:=info_parts infoA8
  have HI:=Lib.hid hi
  have HZ0:=Lib.hid hz0
  have HZ1:=Lib.hid hz1
  have HZ2:=Lib.hid hz2
  have hn':(n:Int)≤16:=by omega
  have RR:=Lib.hid rr
  clear hi hz0 hz1 hz2 rr
  have M0:=Lib.hid (ownMic_new (w.alloc (ptc x 24)) x s 0 55)
  have B0:=Lib.hid (show Below w.heap.size w ((w.alloc (ptc x 24)).alloc (micb x s 0 55)) by (repeat' (first | exact Below.refl _ _ | refine Below.setCell ?_ (by simp <;> omega) _ | refine balloc ?_ _ | refine Below.drew ?_ | refine bdrewN ?_ _)))
  simp only [World.size_alloc] at M0
  go_enter Tryz.func18,Tryz.ntmps18
  go_wp2_with fail
  refine (C.out _ B0.out).mono ?_
  rintro e w1 ⟨rfl,hb1⟩
  have M1:=Lib.hid (ownMic_below M0.out hb1)
  have B1:=Lib.hid (bstep B0.out hb1)
  clear hb1 M0 B0
  have lm:w.heap.size + 1 < w1.heap.size:=M1.out.2
  go_wp2
  go_loopw [10,27] (fun sv kv wr=>∃ k:Nat,k≤n∧kv=.int .i64 k∧wr.ownsRow w1.heap.size 83 3 sv k (ars f g k)∧Below w1.heap.size w1 wr) (fun _ kv _=>n - (intOf kv).toNat)
  case atStart=>exact ⟨0,Nat.zero_le _,rfl,World.ownsRow_nil _ _ _ _,Below.refl _ _⟩
  case round =>
    obtain ⟨k,hk,rfl,how,hbb⟩:=hrel
    have OW0:=Lib.hid how
    have BB:=Lib.hid hbb
    have szw:=hbb.size
    clear how hbb
    by_cases hlt:k < n
    · have hk1:(k:Int) < (n:Int):=by omega
      have hk16:k + 1≤16:=by omega
      obtain ⟨b,off,rfl,rw0⟩:=RR.out (show 0 < n by omega)
      have r2:=rowU_in (rowU_in rw0 B1.out rw0.1) BB.out (Nat.lt_of_lt_of_le rw0.1 B1.out.size)
      have KR:=Lib.hid (show KP w1 wr (w.heap.size + 1) b off n Q x s from ⟨ownMic_in M1.out BB.out lm,r2,BB.out⟩)
      obtain ⟨c0,c1,c2,c3,c4,c5,c6,c7,c8,c9,c10⟩:=r2.2 k hlt
      have lbw:=r2.1
      have RU1:=Lib.hid (rowU_in rw0 B1.out rw0.1)
      have lb1:b < w1.heap.size:=RU1.out.1
      have NE:=Lib.hid (show some wr.heap.size ≠ Value.ownBlock u10 from fun e=>by have:=(OW0.out.lt _ e.symm).2;omega)
      have F1:=Lib.hid (FI.out k hlt)
      have G1:=Lib.hid (LA.out k hlt)
      have NX:=Lib.hid (show ars f g (k + 1)=ars f g k ++ [.int .i64 (f k),.int .i64 (g k),.int .i64 (k:Int)] from rfl)
      clear r2 rw0
      generalize Q k=q at *
      generalize f k=fk at *
      generalize g k=gk at *
      go_upto_region 9 with fail
      have p0:KB w1 (wr.alloc (pub q 61)).drew (w.heap.size + 1) b off n Q x s wr.heap.size q:=⟨kp_drew (kp_below KR.out ((Below.refl _ _).alloc (Nat.le_refl _) _)),ownPu_drew (ownPu_new wr q 61)⟩
      have R0:=Lib.hid (show (wr.alloc (pub q 61)).drew.ownsRow w1.heap.size 83 3 _ k (ars f g k) from World.ownsRow.alloc OW0.out _)
      clear c0 c1 c2 c3 c4 c5 c6 c7 c8 c9 c10
      go_region_held3 (fun w'=>w'.cell? ⟨wr.heap.size,0,none⟩=some (.int .i64 q.1.1.1)∧w'.cell? ⟨wr.heap.size,1,none⟩=some (.int .i64 q.1.1.2.1)∧w'.cell? ⟨wr.heap.size,2,none⟩=some (.int .i64 q.1.1.2.2)∧w'.cell? ⟨wr.heap.size,3,none⟩=some (.int .i64 q.1.2.1.1)∧w'.cell? ⟨wr.heap.size,4,none⟩=some (.int .i64 q.1.2.1.2.1)∧w'.cell? ⟨wr.heap.size,5,none⟩=some (.int .i64 q.1.2.1.2.2)∧w'.cell? ⟨wr.heap.size,6,none⟩=some (.int .i64 q.1.2.2.1)∧w'.cell? ⟨wr.heap.size,7,none⟩=some (.int .i64 q.1.2.2.2.1)∧w'.cell? ⟨wr.heap.size,8,none⟩=some (.int .i64 q.1.2.2.2.2)∧w'.cell? ⟨wr.heap.size,9,none⟩=some (.int .i64 q.2.1)∧w'.cell? ⟨wr.heap.size,10,none⟩=some (.int .i64 q.2.2)∧w'.cell? ⟨w.heap.size + 1,0,none⟩=some (.int .i64 x.1)∧w'.cell? ⟨w.heap.size + 1,1,none⟩=some (.int .i64 x.2.1)∧w'.cell? ⟨w.heap.size + 1,2,none⟩=some (.int .i64 x.2.2)∧w'.cell? ⟨w.heap.size + 1,3,none⟩=some (.int .i64 s)∧w'.cell? ⟨w.heap.size + 1,4,none⟩=some (.int .i64 0))
        (first | (with_reducible exact kb_cells p0) | (with_reducible exact kb_cells p1) | (with_reducible exact kb_cells p2) | (with_reducible exact kb_cells p3) | (with_reducible exact kb_cells p5) | fail)
        (first | (go_at_call 25;(with_reducible refine (F1.out _).mono ?_);rintro e y ⟨rfl,hv⟩;(first | (have p2:=kb_below p1 hv;have R2:=Lib.hid (own_below9 R1.out hv);have p3:=kb_below p2 ((Below.refl y.heap.size y).alloc (Nat.le_refl _) (.cells #[.int .i64 fk,.int .i64 gk,.int .i64 (k:Int)] 83))) | (have p1:=kb_below p0 hv;have R1:=Lib.hid (own_below9 R0.out hv)))) | (go_at_call 26;(with_reducible refine (G1.out _).mono ?_);rintro e y ⟨rfl,hv⟩;(first | (have p2:=kb_below p1 hv;have R2:=Lib.hid (own_below9 R1.out hv);have p3:=kb_below p2 ((Below.refl y.heap.size y).alloc (Nat.le_refl _) (.cells #[.int .i64 fk,.int .i64 gk,.int .i64 (k:Int)] 83))) | (have p1:=kb_below p0 hv;have R1:=Lib.hid (own_below9 R0.out hv)))) | (refine step_at8 rfl (.tmp 32) (.tmp 41) 81 rfl w1.heap.size 83 i0 (.agg #[.int .i64 0,.int .i64 0,.int .i64 0]) 3 24 Tryz.underlying81 HI.out HZ0.out HZ1.out HZ2.out rfl (by decide) _ k (ars f g k) (by simp [Act.eval]) (World.ownsRow.alloc R2.out _) ⟨y.heap.size,0,none⟩ 1 1 (by simp [Act.eval]) [.int .i64 fk,.int .i64 gk,.int .i64 (k:Int)] (ar_new8 _ _ _ _ _ _ (by simp)) rfl (by intro u hu;simp at hu;rcases hu with rfl | rfl | rfl <;> rfl) (by unfold maxLen;omega) (by omega) (by have:=p2.1.2.2.size;simp;omega) ?_;intro v' w5 hown' hgrow hblk;have OW5:=Lib.hid hown';have b5:=Lib.hid (p3.1.2.2.grown hgrow (by have:=p2.1.2.2.size;simp;omega) (fun gg hg=>(R2.out.lt gg hg).1));have p5:KB w1 w5 (w.heap.size + 1) b off n Q x s wr.heap.size q:=⟨⟨ownMic_in M1.out b5.out lm,rowU_in RU1.out b5.out lb1,b5.out⟩,ownPu_grown (ownPu_alloc p2.2 _) hgrow NE.out⟩;clear hown' hgrow hblk) | fail)
      all_goals
        go_wp2
        go_roundw
        case rel=>exact ⟨k + 1,by omega,by go_num,by rw [NX.out];exact OW5.out,b5.out⟩
        case measure=>simp [intOf];omega
    · obtain rfl:k=n:=by omega
      have SO1:=Lib.hid (SO.out _ _ _ szw OW0.out)
      clear OW0
      go_wp2_with fail
      with_reducible refine SO1.out.mono ?_
      rintro e w4 ⟨rfl,A,c9,L,hv,srt,cl,hb4⟩
      subst hv
      have SRT:=Lib.hid srt
      have CL:=Lib.hid cl
      have B4:=Lib.hid (BB.out.trans hb4)
      have s4:w1.heap.size≤w4.heap.size:=B4.out.size
      have LL:L.length=k:=by have:=srt.1.length_eq;rwa [List.length_range] at this
      clear hb4 srt cl SO1 SO FI LA BB HI HZ0 HZ1 HZ2
      obtain ⟨i1,hi,hz0,hz1,hz2⟩:=info_parts infoI1
      have HI:=Lib.hid hi
      have HZ0:=Lib.hid hz0
      have HZ1:=Lib.hid hz1
      have HZ2:=Lib.hid hz2
      clear hi hz0 hz1 hz2
      go_wp2
      go_loopw [13,48] (fun sv kv wr=>∃ j:Nat,j≤k∧kv=.int .i64 j∧wr.ownsRow w4.heap.size 3 1 sv j (nvs (L.take j))∧Below w4.heap.size w4 wr) (fun _ kv _=>k - (intOf kv).toNat)
      case atStart=>exact ⟨0,Nat.zero_le _,rfl,World.ownsRow_nil _ _ _ _,Below.refl _ _⟩
      case round =>
        obtain ⟨j,hj,rfl,how,hbb⟩:=hrel
        have OW0:=Lib.hid how
        have BB:=Lib.hid hbb
        have szw:=hbb.size
        clear how
        by_cases hlt:j < k
        · have hj1:(j:Int) < (k:Int):=by omega
          have hj16:j + 1≤16:=by omega
          obtain ⟨q,e0,e1,rfl,lq,c0,c1,c2⟩:=CL.out j hlt
          have c0:=(hbb.cell (p:=⟨q,j * 3,none⟩) lq).trans c0
          have c1:=(hbb.cell (p:=⟨q,j * 3 + 1,none⟩) lq).trans c1
          have c2:=(hbb.cell (p:=⟨q,j * 3 + 1 + 1,none⟩) lq).trans c2
          have NX:=Lib.hid (nvs_take L j (by omega))
          clear hbb
          generalize ((L.getD j 0:Nat):Int)=v at *
          go_wp2_with (at_builtin;go_loud (refine wpList_append_own _ rfl _ _ 47 rfl w4.heap.size 3 i1 (.int .i64 0) 1 8 Tryz.underlying47 HI.out HZ0.out HZ1.out HZ2.out rfl (by decide) _ j (nvs (L.take j)) rfl (World.ownsRow.alloc (World.ownsRow.alloc OW0.out _) _) ⟨_,0,none⟩ 1 1 [.int .i64 v] rfl rfl (one_new' _ _ _ _ (by simp)) (by intro u hu;simp at hu;subst hu;rfl) (by unfold maxLen;omega) (by omega) (by simp;omega) ?_);intro v' w7 hown' hgrow _;have OW:=Lib.hid hown';have GR:=Lib.hid hgrow;clear hown' hgrow)
          have BG:=Lib.hid (((BB.out.alloc szw _).alloc (by simp;omega) _).grown GR.out (by simp;omega) (fun gg hg=>(OW0.out.lt gg hg).1))
          go_roundw
          case rel=>exact ⟨j + 1,by omega,by go_num,by rw [NX.out];exact OW.out,BG.out⟩
          case measure=>simp [intOf];omega
        · obtain rfl:j=k:=by omega
          have hB:=B1.out.trans ((B4.out.trans (hbb.mono s4)).mono B1.out.size)
          have e9:L.take j=L:=by rw [← LL];exact List.take_length
          have RW:=own_base9 OW0.out (Nat.le_trans B1.out.size s4)
          rw [e9] at RW
          clear hbb
          go_wp2
          go_ret2
          exact ⟨_,L,rfl,SRT.out,RW,hB⟩
end Go.Proofs.YtgchcnpgjfoadaaGreat
