import Derived.Test.YtbcjiigmbcfkeaaGreatSoMa
import Derived.Test.YtbcjiigmbcfkeaaGreatInvM
import Derived.Test.YtbcjiigmbcfkeaaGreatSumM
import Derived.Test.YtbcjiigmbcfkeaaGreatFiCo
import Derived.Deep.DeepCutAuto
import Derived.Test.YtbcjiigmbcfkeaaGreatScM
namespace Go.Proofs.YtbcjiigmbcfkeaaGreat
open Go.ChangeShapes Go.WideShapes Go.RowKit
open Sh
attribute [local go_sem 1000000] run_min_mn run_max_mx
def scl (d:Int):Int:=2 ^ d.toNat
end Go.Proofs.YtbcjiigmbcfkeaaGreat
namespace Go.Proofs.YtbcjiigmbcfkeaaGreat
open Go.ChangeShapes Go.WideShapes Go.RowKit
open Sh
def RowP (w:World) (b off n:Nat) (L:Nat→P9):Prop:=b<w.heap.size∧∀ k,k<n→w.cell? ⟨b,off+k*9,none⟩=some (.int .i64 (L k).1.1)∧w.cell? ⟨b,off+k*9+1,none⟩=some (.int .i64 (L k).1.2.1)∧w.cell? ⟨b,off+k*9+1+1,none⟩=some (.int .i64 (L k).1.2.2)∧w.cell? ⟨b,off+k*9+1+1+1,none⟩=some (.int .i64 (L k).2.1.1)∧w.cell? ⟨b,off+k*9+1+1+1+1,none⟩=some (.int .i64 (L k).2.1.2.1)∧w.cell? ⟨b,off+k*9+1+1+1+1+1,none⟩=some (.int .i64 (L k).2.1.2.2)∧w.cell? ⟨b,off+k*9+1+1+1+1+1+1,none⟩=some (.int .i64 (L k).2.2.1)∧w.cell? ⟨b,off+k*9+1+1+1+1+1+1+1,none⟩=some (.int .i64 (L k).2.2.2.1)∧w.cell? ⟨b,off+k*9+1+1+1+1+1+1+1+1,none⟩=some (.int .i64 (L k).2.2.2.2)
theorem rowP_in {w wr:World} {B b off n:Nat} {L:Nat→P9} (r:RowP w b off n L) (hb:Below B w wr) (h:b<B):RowP wr b off n L:=by
  refine ⟨Nat.lt_of_lt_of_le r.1 hb.size,fun k hk=>?_⟩
  obtain ⟨h0,h1,h2,h3,h4,h5,h6,h7,h8⟩:=r.2 k hk
  exact ⟨(hb.cell (p:=⟨b,off+k*9,none⟩) h).trans h0,(hb.cell (p:=⟨b,off+k*9+1,none⟩) h).trans h1,(hb.cell (p:=⟨b,off+k*9+1+1,none⟩) h).trans h2,(hb.cell (p:=⟨b,off+k*9+1+1+1,none⟩) h).trans h3,(hb.cell (p:=⟨b,off+k*9+1+1+1+1,none⟩) h).trans h4,(hb.cell (p:=⟨b,off+k*9+1+1+1+1+1,none⟩) h).trans h5,(hb.cell (p:=⟨b,off+k*9+1+1+1+1+1+1,none⟩) h).trans h6,(hb.cell (p:=⟨b,off+k*9+1+1+1+1+1+1+1,none⟩) h).trans h7,(hb.cell (p:=⟨b,off+k*9+1+1+1+1+1+1+1+1,none⟩) h).trans h8⟩
def svs (l:List (Int × Int)):List Value:=l.flatMap fun r=>[.int .i64 r.1,.int .i64 r.2]
theorem svs_snoc (l:List (Int × Int)) (r:Int × Int):svs l ++ [.int .i64 r.1,.int .i64 r.2]=svs (l ++ [r]):=by simp [svs]
theorem infoSp8:(Tryz.prog.info? 39).map (fun i=>(i.zero,i.size,i.bytes))=some (some (.agg #[.int .i64 0,.int .i64 0]),2,16):=by kernel_rfl
theorem sp2_new (w:World) (x y:Int) (t:TypeId):∀ j u,([.int .i64 x,.int .i64 y]:List Value)[j]?=some u→(w.alloc (.cells #[.int .i64 x,.int .i64 y] t)).cell? ((⟨w.heap.size,0,none⟩:Addr).add j)=some u:=by
  intro j u hu
  match j,hu with
 |0,hu =>
    have:u=.int .i64 x:=by simp at hu;exact hu.symm
    subst this
    show (w.alloc (.cells #[.int .i64 x,.int .i64 y] t)).cell? ⟨w.heap.size,0,none⟩=_
    go_simp
 |1,hu =>
    have:u=.int .i64 y:=by simp at hu;exact hu.symm
    subst this
    show (w.alloc (.cells #[.int .i64 x,.int .i64 y] t)).cell? ⟨w.heap.size,1,none⟩=_
    go_simp
theorem own_below9 {w w1:World} {base:Nat} {e:TypeId} {n:Nat} {v:Value} {k:Nat} {xs:List Value} (h:w.ownsRow base e n v k xs) (hb:Below w.heap.size w w1):w1.ownsRow base e n v k xs:=by
  refine ⟨h.1,?_⟩
  rcases h.2 with hn|⟨g,cap,cur,rfl,hg,hgg,rest⟩
  · exact .inl hn
  · exact .inr ⟨g,cap,cur,rfl,hg,by rw [hb.block g (Array.getElem?_eq_some_iff.1 hgg).1];exact hgg,rest⟩
def gis (g:P9→Sp.R) (L:Nat→P9):Nat→List (Int × Int)
 |0=>[]
 |k+1=>gis g L k ++ [(g (L k)).1]
theorem gis_len (g:P9→Sp.R) (L:Nat→P9):∀ k,(gis g L k).length=k
 |0=>rfl
 |k+1=>by show (gis g L k ++ [_]).length=_;rw [List.length_append,gis_len g L k];rfl
theorem first_bad8 (f:Nat→Bool) (n:Nat):(∀ k,k<n→f k=true)∨∃ k0,k0<n∧f k0=false∧∀ k,k<k0→f k=true:=by
  induction n with
 |zero=>exact Or.inl (fun k hk=>absurd hk (Nat.not_lt_zero k))
 |succ n ih =>
    rcases ih with ih|⟨k0,h1,h2,h3⟩
    · cases e:f n with
     |true=>exact Or.inl (fun k hk=>by
          by_cases c:k=n
          · rw [c,e]
          · exact ih k (by omega))
     |false=>exact Or.inr ⟨n,by omega,e,ih⟩
    · exact Or.inr ⟨k0,by omega,h2,h3⟩
def mnR8 (l h:Nat→Int) (n:Nat):Sp.R:=if (List.range n).all (fun k=>Sp.vldB (l k) (h k))=true then meanR (sm l n) (sm h n) 0 n else ((0,0),1)
theorem all_yes {f:Nat→Bool} {n:Nat} (h:∀ k,k<n→f k=true):(List.range n).all f=true:=by
  rw [List.all_eq_true]
  exact fun k hk=>h k (List.mem_range.1 hk)
theorem all_no {f:Nat→Bool} {n k:Nat} (hk:k<n) (h:f k=false):¬ (List.range n).all f=true:=fun c=>by
  rw [List.all_eq_true] at c
  have:=c k (List.mem_range.2 hk)
  rw [h] at this
  cases this
theorem mean8_any (b off n cap:Nat) (l h:Nat→Int) (w:World) (r:Row w b off n l h) (hm:n≤1000) :
    Calls Tryz.prog 117 #[.slice (some ⟨b,off,none⟩) n cap] w fun e w'=>e=.returned (spr (mnR8 l h n))∧Below w.heap.size w w':=by
  unfold mnR8
  rcases first_bad8 (fun k=>Sp.vldB (l k) (h k)) n with v|⟨k0,hk,nv,v⟩
  · rw [if_pos (all_yes v)]
    have bd1:=sm_bd (f:=l) (k:=n) (fun i hi=>by have:=Sp.vld_iff.1 (v i hi);omega)
    have bd2:=sm_bd (f:=h) (k:=n) (fun i hi=>by have:=Sp.vld_iff.1 (v i hi);omega)
    have T1:TotC 173 (some ⟨b,off,none⟩) n cap (sm l n) (sm h n) 0 w:=fun W B=>total_ok b off n cap l h W (row_below r B) (by omega) v
    have S1:Sm (sm l n) (n:Int):=⟨by omega,by omega,by omega,by omega⟩
    have S2:Sm (sm h n) (n:Int):=⟨by omega,by omega,by omega,by omega⟩
    exact mean_any _ n cap _ _ 0 w w (Lib.hid T1) (Below.refl _ _) (by omega) (Lib.hid S1) (Lib.hid S2)
  · rw [if_neg (all_no hk nv)]
    have T1:TotC 173 (some ⟨b,off,none⟩) n cap 0 0 1 w:=fun W B=>total_bad b off n cap k0 l h W (row_below r B) (by omega) hk v nv
    have S1:Sm 0 (n:Int):=⟨by omega,by omega,by omega,by omega⟩
    exact mean_any _ n cap 0 0 1 w w (Lib.hid T1) (Below.refl _ _) (by omega) (Lib.hid S1) (Lib.hid S1)
theorem rowP_of {w:World} {base n cap:Nat} {g:Nat} {l:List P9} (h:w.ownsRow base 77 9 (.slice (some ⟨g,0,none⟩) n cap) n (pcs l)) (hn:l.length=n):RowP w g 0 n (fun k=>l.getD k ((0,0,0),(0,0,0),(0,0,0))):=by
  have key:∀ (l:List P9) (k:Nat),k<l.length→∀ j,j<9→(pcs l)[k*9+j]?=(pcs9 (l.getD k ((0,0,0),(0,0,0),(0,0,0))))[j]?:=by
    intro l
    induction l with
   |nil=>intro k hk;exact absurd hk (Nat.not_lt_zero k)
   |cons t l ih =>
      intro k hk j hj
      have e:pcs (t :: l)=pcs9 t ++ pcs l:=by simp [pcs]
      have e9:(pcs9 t).length=9:=rfl
      cases k with
     |zero =>
        rw [e,List.getElem?_append_left (by rw [e9];omega),Nat.zero_mul,Nat.zero_add]
        rfl
     |succ k =>
        rw [e,List.getElem?_append_right (by rw [e9];omega),e9,show (k+1)*9+j - 9=k*9+j by omega]
        exact ih k (by simpa using hk) j hj
  refine ⟨(h.lt g rfl).2,fun k hk=>?_⟩
  have cc:∀ j,j<9→w.cell? ⟨g,0+k*9+j,none⟩=(pcs9 (l.getD k ((0,0,0),(0,0,0),(0,0,0))))[j]?:=fun j hj=>by
    rw [Nat.zero_add,h.cellAt (k*9+j) (by omega),key l k (by omega) j hj]
  exact ⟨cc 0 (by decide),cc 1 (by decide),cc 2 (by decide),cc 3 (by decide),cc 4 (by decide),cc 5 (by decide),cc 6 (by decide),cc 7 (by decide),cc 8 (by decide)⟩
theorem row_of8 {w:World} {base n cap:Nat} {g:Nat} {l:List (Int × Int)} (h:w.ownsRow base 39 2 (.slice (some ⟨g,0,none⟩) n cap) n (svs l)) (hn:l.length=n):Row w g 0 n (fun k=>(l.getD k (0,0)).1) (fun k=>(l.getD k (0,0)).2):=by
  have key:∀ (l:List (Int × Int)) (k:Nat),k<l.length→(svs l)[k*2]?=some (.int .i64 (l.getD k (0,0)).1)∧(svs l)[k*2+1]?=some (.int .i64 (l.getD k (0,0)).2):=by
    intro l
    induction l with
   |nil=>intro k hk;exact absurd hk (Nat.not_lt_zero k)
   |cons t l ih =>
      intro k hk
      have e:svs (t :: l)=.int .i64 t.1 :: .int .i64 t.2 :: svs l:=by simp [svs]
      cases k with
     |zero=>rw [e];exact ⟨rfl,rfl⟩
     |succ k =>
        rw [e,show (k+1)*2=k*2+1+1 by omega]
        exact ih k (by simpa using hk)
  refine ⟨(h.lt g rfl).2,fun k hk=>?_⟩
  rw [Nat.zero_add,h.cellAt (k*2) (by omega),h.cellAt (k*2+1) (by omega)]
  exact key l k (by omega)
theorem own_slice8 {w:World} {base:Nat} {e:TypeId} {s:Nat} {v:Value} {n:Nat} {xs:List Value} (h:w.ownsRow base e s v n xs) (h0:0<n):∃ g cap,v=.slice (some ⟨g,0,none⟩) n cap:=by
  rcases h.2 with ⟨_,h1⟩|⟨g,cap,cur,e,_⟩
  · omega
  · exact ⟨g,cap,e⟩
def ptk (t:P9) (d:Int) (k:Nat):P9:=(cutP d.toNat t).getD k ((0,0,0),(0,0,0),(0,0,0))
def ptn (d:Int):Nat:=4 ^ d.toNat
end Go.Proofs.YtbcjiigmbcfkeaaGreat
