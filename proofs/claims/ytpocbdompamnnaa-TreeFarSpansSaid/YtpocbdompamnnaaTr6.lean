import Derived.Test.YtpocbdompamnnaaTr5
namespace Go.Proofs.Ytpocbdompamnnaa
open Go.ChangeShapes Go.WideShapes Go.RowKit
open Sh
open Go.Sort (Holds swp grow)
set_option maxRecDepth 100000 in
set_option maxHeartbeats 4000000 in
theorem pdq_few (ob oo m cc:Nat) (lim:Int) (rc:Value) (w:World) (R:World→Prop) (h12:m≤12)
    (I:Hid (Calls Try.prog 112 #[.slice (some ⟨ob,oo,none⟩) m cc,.int .i64 0,.int .i64 (m:Int),.func (.func 76) #[rc] #[]] w fun e w'=>e=.returned (.tuple #[])∧R w')) :
    Calls Try.prog 96 #[.slice (some ⟨ob,oo,none⟩) m cc,.int .i64 0,.int .i64 (m:Int),.int .i64 lim,.func (.func 76) #[rc] #[]] w fun e w'=>e=.returned (.tuple #[])∧R w':=by
  have h12':(m:Int)≤12:=by omega
  go_enter Try.func96,Try.ntmps96
  go_wp2
  refine wp_loop_rounds 1 ?_
  rw [rounds_succ]
  go_wp2_with fail
  with_reducible refine I.out.mono ?_
  rintro e w1 ⟨rfl,h1⟩
  go_wp2
  (try simp only [Exit.inBlock,Exit.then])
  refine bodyPost_ret (results_none rfl _ _ _) rfl ?_
  exact ⟨rfl,h1⟩
set_option maxRecDepth 100000 in
set_option maxHeartbeats 4000000 in
theorem sof_few (ob oo m cc:Nat) (rc:Value) (w:World) (R:World→Prop) (h12:m≤12)
    (I:Hid (Calls Try.prog 112 #[.slice (some ⟨ob,oo,none⟩) m cc,.int .i64 0,.int .i64 (m:Int),.func (.func 76) #[rc] #[]] w fun e w'=>e=.returned (.tuple #[])∧R w')) :
    Calls Try.prog 75 #[.slice (some ⟨ob,oo,none⟩) m cc,.func (.func 76) #[rc] #[]] w fun e w'=>e=.returned (.tuple #[])∧R w':=by
  have h12':(m:Int)≤12:=by omega
  have h00:(0:Int)≤(m:Int):=by omega
  have P:=Lib.hid (fun lim=>pdq_few ob oo m cc lim rc w R h12 I)
  have B:=Lib.hid (fun W=>Try.bits_Len (m:Int) W (by omega) (by omega))
  go_enter Try.func75,Try.ntmps75
  go_wp2_with fail
  refine (B.out _).mono ?_
  rintro e w1 ⟨rfl,rfl⟩
  go_wp2_with fail
  with_reducible refine (P.out _).mono ?_
  rintro e w2 ⟨rfl,h2⟩
  go_wp2
  go_end0
  exact ⟨rfl,h2⟩
theorem cell_sw9 {W0:World} {ob oo q:Nat} {d:Array Nat} {os:Array Obj} {a:Addr} (ne:a.block ≠ ob) (lt:a.block < W0.heap.size):(sortWorld encN W0 ob oo q d os).cell? a=W0.cell? a:=by
  unfold sortWorld
  rw [Go.Sort.cell?_grow _ _ _ (by rw [Go.Sort.size_putRow];exact lt),Go.Sort.cell?_putRow_other _ _ _ _ _ _ (Or.inl ne)]
  rfl
theorem rowC_sw {W0 W:World} {b off n ob oo:Nat} {Q:Nat→Ch} {d:Array Nat} (r:RowC W0 b off n Q) (h:SW encN W0 ob oo d W) (ne:b ≠ ob):RowC W b off n Q:=by
  refine ⟨Nat.lt_of_lt_of_le r.1 h.le,fun k hk=>?_⟩
  obtain ⟨q,os,rfl⟩:=h
  have z:=fun o=>cell_sw9 (W0:=W0) (ob:=ob) (oo:=oo) (q:=q) (d:=d) (os:=os) (a:=⟨b,o,none⟩) ne r.1
  simp only [z]
  exact r.2 k hk
theorem chR_of {W:World} {ob oo:Nat} {L:List Nat} (h:Holds encN W ob oo L.toArray) (hb:ob < W.heap.size):ChR W ob oo L:=by
  refine ⟨hb,fun k hk=>?_⟩
  have z:=(h k (by simpa using hk)).1
  rw [getElem!_pos _ k (by simpa using hk)] at z
  rw [List.getD_eq_getElem?_getD,List.getElem?_eq_getElem hk]
  exact z
theorem holds_below {W W':World} {ob oo:Nat} {d:Array Nat} (h:Holds encN W ob oo d) (hb:Below W.heap.size W W') (lt:ob < W.heap.size):Holds encN W' ob oo d :=
  fun j hj=>⟨(hb.cell (p:=⟨ob,oo + j,none⟩) lt).trans (h j hj).1,(hb.frozen (p:=⟨ob,oo + j,none⟩) lt).trans (h j hj).2⟩
def SpnC (M:Nat):Prop:=∀ (b off n c ob oo m cc:Nat) (Q:Nat→Ch) (L:List Nat) (w:World),RowC w b off n Q→(∀ i,i ∈ L→i < n)→L.Nodup→L.length=m→1≤m→m≤M→m≤96→BdQ Q L→b ≠ ob→Holds encN w ob oo L.toArray→ob < w.heap.size →
  Calls Try.prog 49 #[.slice (some ⟨b,off,none⟩) n c,.slice (some ⟨ob,oo,none⟩) m cc] w fun e w'=>e=.returned (.tuple #[])∧∃ w1,Below w.heap.size w w1∧SrtO w1 w' ob oo (srtK (keyC Q (widC Q L)) L)
def SofC (M:Nat):Prop:=∀ (ob oo m cc:Nat) (f:Nat→Int) (L:List Nat) (rc:Value) (W0:World),L.length=m→1≤m→m≤M→m≤96→L.Nodup→Holds encN W0 ob oo L.toArray→ob < W0.heap.size →
  Hid (∀ (M:List Nat) W,M.length=L.length→SW encN W0 ob oo M.toArray W→∀ a b:Nat,a ∈ L→b ∈ L→Calls Try.prog 76 #[rc,.int .i64 (a:Int),.int .i64 (b:Int)] W fun e w'=>e=.returned (.int .i64 (cfN f a b))∧Grw W w') →
  Calls Try.prog 75 #[.slice (some ⟨ob,oo,none⟩) m cc,.func (.func 76) #[rc] #[]] W0 fun e w'=>e=.returned (.tuple #[])∧SW encN W0 ob oo (srtK f L).toArray w'
theorem sofC_12:SofC 12:=fun ob oo m cc f L rc W0 hm h1 h12 h96 nd hH hb CM =>
  sof_few ob oo m cc rc W0 (fun w'=>SW encN W0 ob oo (srtK f L).toArray w') h12 (Lib.hid (insN_any ob oo m cc f L rc W0 W0 hm h1 h96 nd hH hb (SW.start hH) CM))
theorem spn_of {M:Nat} (S:SofC M):SpnC M:=fun b off n c ob oo m cc Q L w r hl nd hm h1 hM h96 bd ne hH hb =>
  spn_walk b off n c ob oo m cc Q L w
    (Lib.hid fun k hk W B=>wid_any b off n c k ob oo m cc (keyC Q k) L W hm h1 h96 (chR_below (chR_of hH hb) B) (fun i hi=>keyC_bd bd k hi)
      (Lib.hid fun i hi V G=>key_any b off n c Q k i V (rowC_in (rowC_in r B r.1) G.1 (Nat.lt_of_lt_of_le r.1 B.size)) (hl i hi) hk (bd i hi)))
    (Lib.hid fun k hk W B=>by
      have hbW:ob < W.heap.size:=Nat.lt_of_lt_of_le hb B.size
      have rW:=rowC_in r B r.1
      exact S ob oo m cc (keyC Q k) L (.agg #[.slice (some ⟨b,off,none⟩) n c,.int .i64 (k:Int)]) W hm h1 hM h96 nd (holds_below hH B hb) hbW
        (Lib.hid fun M' V _ sv x y hx hy=>cmp_walk b off n c k x y (keyC Q k) V
          (Lib.hid fun U g=>key_any b off n c Q k x U (rowC_in (rowC_sw rW sv ne) g.1 (rowC_sw rW sv ne).1) (hl x hx) hk (bd x hx))
          (Lib.hid fun U g=>key_any b off n c Q k y U (rowC_in (rowC_sw rW sv ne) g.1 (rowC_sw rW sv ne).1) (hl y hy) hk (bd y hy))))
end Go.Proofs.Ytpocbdompamnnaa
