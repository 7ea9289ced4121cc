import Derived.Shelf.SlSortCmp.Kit1
import Derived.Test.YtpocbdompamnnaaTr3
namespace Go.Proofs.Ytpocbdompamnnaa
open Go.ChangeShapes Go.WideShapes Go.RowKit
open Sh
def bstA (Q:Nat→Ch) (L:List Nat):Nat→Nat
  | 0=>0
  | 1=>0
  | 2=>widA Q L
  | _=>widC Q L
theorem bst_succ (Q:Nat→Ch) (L:List Nat) {j:Nat} (h1:1≤j) (h3:j < 3):bstA Q L (j + 1)=if wdK (keyC Q (bstA Q L j)) L < wdK (keyC Q j) L then j else bstA Q L j:=by
  have:j=1∨j=2:=by omega
  rcases this with rfl | rfl
  · rfl
  · rfl
theorem bst_lt (Q:Nat→Ch) (L:List Nat):∀ j,bstA Q L j < 3
  | 0=>Nat.zero_lt_succ _
  | 1=>Nat.zero_lt_succ _
  | 2=>by
    show widA Q L < 3
    unfold widA
    split <;> omega
  | j + 3=>widC_lt Q L
def encN (a:Nat):Value:=.int .i64 (a:Int)
def SrtO (W w':World) (ob oo:Nat) (L:List Nat):Prop:=SW encN W ob oo L.toArray w'
def FzS (w:World) (p:Nat):Prop:=(w.frozen? ⟨p,0,none⟩=false∧w.frozen? ⟨p,1,none⟩=false)∧p < w.heap.size
theorem fzS_below {w W:World} {p:Nat} (h:FzS w p) (hb:Below w.heap.size w W):FzS W p :=
  ⟨⟨(hb.frozen (p:=⟨p,0,none⟩) h.2).trans h.1.1,(hb.frozen (p:=⟨p,1,none⟩) h.2).trans h.1.2⟩,Nat.lt_of_lt_of_le h.2 hb.size⟩
theorem fzS_put {W:World} {p:Nat} (h:FzS W p) (u v:Value):FzS ((W.setCell ⟨p,0,none⟩ u).setCell ⟨p,1,none⟩ v) p:=by
  obtain ⟨⟨h0,h1⟩,h2⟩:=h
  exact ⟨⟨by go_simp,by go_simp⟩,by simp;exact h2⟩
theorem bel_g {w W V:World} (h:Below w.heap.size w W) (g:Grw W V):Below w.heap.size w V:=bstep h g.1
def SpS (w0 W:World) (sb bb b off n c j kb:Nat):Prop:=OwnSo W sb b off n c j∧OwnSo W bb b off n c kb∧Grw w0 W
theorem spS_grw {w0 W W':World} {sb bb b off n c j kb:Nat} (h:SpS w0 W sb bb b off n c j kb) (g:Grw W W'):SpS w0 W' sb bb b off n c j kb:=⟨ownSo_below h.1 g.1,ownSo_below h.2.1 g.1,grw_step h.2.2 g⟩
theorem spS_g {w0 W:World} {sb bb b off n c j kb:Nat} (h:SpS w0 W sb bb b off n c j kb):Grw w0 W:=h.2.2
theorem spS_cells {w0 W:World} {sb bb b off n c j kb:Nat} (h:SpS w0 W sb bb b off n c j kb):W.cell? ⟨sb,0,none⟩=some (.slice (some ⟨b,off,none⟩) n c)∧W.cell? ⟨sb,1,none⟩=some (.int .i64 (j:Int))∧W.cell? ⟨bb,0,none⟩=some (.slice (some ⟨b,off,none⟩) n c)∧W.cell? ⟨bb,1,none⟩=some (.int .i64 (kb:Int)):=⟨h.1.1.1,h.1.1.2,h.2.1.1.1,h.2.1.1.2⟩
theorem spS_new {w0 wr:World} {bb b off n c j kb:Nat} (h:OwnSo wr bb b off n c kb) (g:Grw w0 wr):SpS w0 (wr.alloc (.cells #[.slice (some ⟨b,off,none⟩) n c,.int .i64 ((j:Nat):Int)] 100)).drew wr.heap.size bb b off n c j kb :=
  have z:=grw_drew (grw_alloc (grw_refl wr) (.cells #[.slice (some ⟨b,off,none⟩) n c,.int .i64 ((j:Nat):Int)] 100))
  ⟨ownSo_new wr b off n c j,ownSo_below h z.1,grw_step g z⟩
theorem ownSo_put {W:World} {bb b off n c k j:Nat} (h:OwnSo W bb b off n c k):OwnSo ((W.setCell ⟨bb,0,none⟩ (.slice (some ⟨b,off,none⟩) n c)).setCell ⟨bb,1,none⟩ (.int .i64 (j:Int))) bb b off n c j:=by
  obtain ⟨⟨h0,h1⟩,h2⟩:=h
  exact ⟨⟨by go_simp,by go_simp⟩,by simp;exact h2⟩
set_option maxRecDepth 100000 in
set_option maxHeartbeats 4000000 in
theorem spn_walk (b off n c ob oo m cc:Nat) (Q:Nat→Ch) (L:List Nat) (w:World)
    (WD:Hid (∀ k:Nat,k < 3→∀ W,Below w.heap.size w W→Calls Try.prog 74 #[.agg #[.slice (some ⟨b,off,none⟩) n c,.int .i64 ((k:Nat):Int)],.slice (some ⟨ob,oo,none⟩) m cc] W fun e w'=>e=.returned (.int .i64 (wdK (keyC Q k) L))∧Grw W w'))
    (SO9:Hid (∀ k:Nat,k < 3→∀ W,Below w.heap.size w W→Calls Try.prog 75 #[.slice (some ⟨ob,oo,none⟩) m cc,.func (.func 76) #[.agg #[.slice (some ⟨b,off,none⟩) n c,.int .i64 ((k:Nat):Int)]] #[]] W fun e w'=>e=.returned (.tuple #[])∧SrtO W w' ob oo (srtK (keyC Q k) L))) :
    Calls Try.prog 49 #[.slice (some ⟨b,off,none⟩) n c,.slice (some ⟨ob,oo,none⟩) m cc] w fun e w'=>e=.returned (.tuple #[])∧∃ w1,Below w.heap.size w w1∧SrtO w1 w' ob oo (srtK (keyC Q (widC Q L)) L):=by
  have O0:=Lib.hid (ownSo_new w b off n c 0)
  have F0:=Lib.hid (show FzS (w.alloc (.cells #[.slice (some ⟨b,off,none⟩) n c,.int .i64 ((0:Nat):Int)] 100)) w.heap.size from ⟨⟨by go_simp,by go_simp⟩,by simp⟩)
  have B0:=Lib.hid ((Below.refl w.heap.size w).alloc (Nat.le_refl _) (.cells #[.slice (some ⟨b,off,none⟩) n c,.int .i64 ((0:Nat):Int)] 100))
  go_enter Try.func49,Try.ntmps49
  go_wp2
  go_loopw [5] (fun kv wr=>∃ j:Nat,1≤j∧j≤3∧kv=.int .i64 j∧OwnSo wr w.heap.size b off n c (bstA Q L j)∧FzS wr w.heap.size∧Below w.heap.size w wr) (fun kv _=>3 - (intOf kv).toNat)
  case atStart=>exact ⟨1,Nat.le_refl _,by omega,rfl,O0.out,F0.out,B0.out⟩
  case round =>
    obtain ⟨j,hj1,hj,rfl,oo1,ff1,bb1⟩:=hrel
    have F1:=Lib.hid ff1
    clear ff1
    have O1:=Lib.hid oo1
    have B1:=Lib.hid bb1
    have szw:=bb1.size
    clear bb1
    by_cases hlt:j < 3
    · have hj3:(j:Int) < 3:=by omega
      have bs:=Lib.hid (bst_succ Q L hj1 hlt)
      have W1:=Lib.hid (fun W B=>WD.out j hlt W B)
      have W2:=Lib.hid (fun W B=>WD.out (bstA Q L j) (bst_lt Q L j) W B)
      clear oo1
      generalize bstA Q L j=kb at *
      generalize wdK (keyC Q kb) L=wk at *
      generalize wdK (keyC Q j) L=wj at *
      have D2:=Lib.hid (ownSo_below O1.out ((Below.refl wr.heap.size wr).alloc (Nat.le_refl _) (.cells #[.slice (some ⟨b,off,none⟩) n c,.int .i64 ((j:Nat):Int)] 100)))
      go_upto_region 5 with fail
      have p0:SpS wr (wr.alloc (.cells #[.slice (some ⟨b,off,none⟩) n c,.int .i64 ((j:Nat):Int)] 100)).drew wr.heap.size w.heap.size b off n c j kb:=spS_new O1.out (grw_refl _)
      go_region_held3 (fun w'=>w'.cell? ⟨wr.heap.size,0,none⟩=some (.slice (some ⟨b,off,none⟩) n c)∧w'.cell? ⟨wr.heap.size,1,none⟩=some (.int .i64 (j:Int))∧w'.cell? ⟨w.heap.size,0,none⟩=some (.slice (some ⟨b,off,none⟩) n c)∧w'.cell? ⟨w.heap.size,1,none⟩=some (.int .i64 (kb:Int)))
        (first | (with_reducible exact spS_cells p0) | (with_reducible exact spS_cells p1) | (with_reducible exact spS_cells p2) | fail)
        (first
          | (go_at_call 74;(first | (with_reducible refine (W1.out _ (bel_g B1.out (spS_g p1))).mono ?_) | (with_reducible refine (W2.out _ (bel_g B1.out (spS_g p1))).mono ?_) | (with_reducible refine (W1.out _ (bel_g B1.out (spS_g p0))).mono ?_) | (with_reducible refine (W2.out _ (bel_g B1.out (spS_g p0))).mono ?_));rintro e z ⟨rfl,hv⟩;(first | (have p2:=spS_grw p1 hv) | (have p1:=spS_grw p0 hv)))
          | fail)
      have B2:=Lib.hid (bel_g B1.out (spS_g p2))
      have Q2:=Lib.hid p2.2.1
      have F2:=Lib.hid (fzS_below F1.out (spS_g p2).1)
      obtain ⟨⟨f0,f1⟩,f2⟩:=F2.out
      obtain ⟨⟨s0,s1⟩,s2⟩:=p2.1
      obtain ⟨⟨t0,t1⟩,t2⟩:=p2.2.1
      clear p0 p1 p2
      by_cases gt:wk < wj
      · have bs1:bstA Q L (j + 1)=j:=by rw [bs.out,if_pos gt]
        have BS:=Lib.hid bs1
        clear bs1 bs
        go_wp2
        go_roundw
        case rel=>exact ⟨j + 1,by omega,by omega,by go_num,by rw [BS.out];exact ownSo_put Q2.out,fzS_put F2.out _ _,by (refine Below.setCell (Below.setCell B2.out ?_ _) ?_ _ <;> simp)⟩
        case measure=>simp [intOf];omega
      · have bs1:bstA Q L (j + 1)=kb:=by rw [bs.out,if_neg gt]
        have gf:decide (wk < wj)=false:=decide_eq_false gt
        have BS:=Lib.hid bs1
        clear bs1 bs
        go_wp2
        go_roundw
        case rel=>exact ⟨j + 1,by omega,by omega,by go_num,by rw [BS.out];exact Q2.out,F2.out,B2.out⟩
        case measure=>simp [intOf];omega
    · obtain rfl:j=3:=by omega
      have SW9:=Lib.hid (SO9.out (widC Q L) (widC_lt Q L) _ B1.out)
      have oo2:OwnSo wr w.heap.size b off n c (widC Q L):=oo1
      obtain ⟨⟨s0,s1⟩,s2⟩:=oo2
      go_wp2_with fail
      with_reducible refine SW9.out.mono ?_
      rintro e w4 ⟨rfl,so⟩
      go_wp2
      go_end0
      exact ⟨rfl,_,B1.out,so⟩
end Go.Proofs.Ytpocbdompamnnaa
