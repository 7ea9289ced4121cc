import Derived.Deep.Heap
import Derived.Test.YtbcjiigmbcfkeaaGreatHo32
namespace Go.Proofs.YtbcjiigmbcfkeaaGreat
open Go.Lib (hid)
set_option maxRecDepth 100000
set_option maxHeartbeats 2000000
open Go.ChangeShapes Go.WideShapes Go.RowKit
open Sh
def Sf (p:Nat) (w w':World):Prop:=Below p w w'/\∀ b,p<b->b<w.heap.size->w'.heap[b]?=w.heap[b]?
theorem sf_refl (p:Nat) (w:World):Sf p w w:=⟨Below.refl _ _,fun _ _ _=>rfl⟩
theorem sf_trans {p:Nat} {a b c:World} (h:Sf p a b) (k:Sf p b c):Sf p a c:=⟨h.1.trans k.1,fun i hi hl=>(k.2 i hi (Nat.lt_of_lt_of_le hl h.1.size)).trans (h.2 i hi hl)⟩
theorem sf_of {p:Nat} {w w':World} (h:Below w.heap.size w w') (hp:p<=w.heap.size):Sf p w w':=⟨h.mono hp,fun b _ hb=>h.block b hb⟩
theorem sf_step {p:Nat} {a w w':World} (h:Sf p a w) (hp:p<a.heap.size) (hb:Below w.heap.size w w'):Sf p a w':=sf_trans h (sf_of hb (Nat.le_trans (Nat.le_of_lt hp) h.1.size))
theorem sf_set {p i:Nat} {a w:World} (h:Sf p a w) (x:Value):Sf p a (w.setCell ⟨p,i,none⟩ x):=⟨h.1.setCell (Nat.le_refl _) _,fun b hb hl=>by
  have e:(w.setCell ⟨p,i,none⟩ x).heap[b]?=w.heap[b]?:=Go.Deep.blk_setCell_other w ⟨p,i,none⟩ x b (by show b ≠ p;omega)
  rw [e];exact h.2 b hb hl⟩
theorem sf_drew {p:Nat} {a w:World} (h:Sf p a w):Sf p a w.drew:=⟨Below.drew h.1,h.2⟩
theorem sf_blk {p b:Nat} {w w':World} (h:Sf p w w') (n:b ≠ p) (l:b<w.heap.size):w'.heap[b]?=w.heap[b]?:=by
  rcases Nat.lt_or_ge b p with k|k
  · exact h.1.block b k
  · exact h.2 b (by omega) l
theorem sf_rowI {p b off n:Nat} {w w':World} {c:Nat->Int} (h:Sf p w w') (hb:b ≠ p) (r:RowI w b off n c):RowI w' b off n c:=⟨Nat.lt_of_lt_of_le r.1 h.1.size,fun k hk=>by
  have e:=sf_blk h hb r.1
  have:=r.2 k hk
  unfold World.cell? at this ⊢
  rw [show w'.heap[(⟨b,off+k,none⟩:Addr).block]?=w.heap[(⟨b,off+k,none⟩:Addr).block]? from e]
  exact this⟩
def Sst (w:World) (p:Nat) (t1 t2:Value) (r:Int) (best:Value) (wd tr:Int):Prop:=w.cell? ⟨p,0,none⟩=some t1/\w.cell? ⟨p,1,none⟩=some t2/\w.cell? ⟨p,2,none⟩=some (.int .i64 r)/\w.cell? ⟨p,3,none⟩=some best/\w.cell? ⟨p,4,none⟩=some (.int .i64 wd)/\w.cell? ⟨p,5,none⟩=some (.int .i64 tr) /\
  w.frozen? ⟨p,3,none⟩=false/\w.frozen? ⟨p,4,none⟩=false/\w.frozen? ⟨p,5,none⟩=false/\p<w.heap.size
theorem sst_below {w w1:World} {p:Nat} {t1 t2 best:Value} {r wd tr:Int} (h:Sst w p t1 t2 r best wd tr) (hb:Below w.heap.size w w1):Sst w1 p t1 t2 r best wd tr:=by
  obtain ⟨h0,h1,h2,h3,h4,h5,f3,f4,f5,l⟩:=h
  exact ⟨(hb.cell (p:=⟨p,0,none⟩) l).trans h0,(hb.cell (p:=⟨p,1,none⟩) l).trans h1,(hb.cell (p:=⟨p,2,none⟩) l).trans h2,(hb.cell (p:=⟨p,3,none⟩) l).trans h3,(hb.cell (p:=⟨p,4,none⟩) l).trans h4,(hb.cell (p:=⟨p,5,none⟩) l).trans h5,(hb.frozen (p:=⟨p,3,none⟩) l).trans f3,(hb.frozen (p:=⟨p,4,none⟩) l).trans f4,(hb.frozen (p:=⟨p,5,none⟩) l).trans f5,Nat.lt_of_lt_of_le l hb.size⟩
theorem sst_set34 {w:World} {p:Nat} {t1 t2 best:Value} {r wd tr:Int} (h:Sst w p t1 t2 r best wd tr) (b':Value) (wd':Int):Sst ((w.setCell ⟨p,3,none⟩ b').setCell ⟨p,4,none⟩ (.int .i64 wd')) p t1 t2 r b' wd' tr:=by
  obtain ⟨h0,h1,h2,h3,h4,h5,f3,f4,f5,l⟩:=h
  exact ⟨by go_simp,by go_simp,by go_simp,by go_simp,by go_simp,by go_simp,by go_simp,by go_simp,by go_simp,by simp<;>omega⟩
theorem sst_set5 {w:World} {p:Nat} {t1 t2 best:Value} {r wd tr:Int} (h:Sst w p t1 t2 r best wd tr) (t':Int):Sst (w.setCell ⟨p,5,none⟩ (.int .i64 t')) p t1 t2 r best wd t':=by
  obtain ⟨h0,h1,h2,h3,h4,h5,f3,f4,f5,l⟩:=h
  exact ⟨by go_simp,by go_simp,by go_simp,by go_simp,by go_simp,by go_simp,by go_simp,by go_simp,by go_simp,by simp<;>omega⟩
theorem hof_no (p g1 c1 g2 c2 n b off cap:Nat) (r wd tr am wd':Int) (best:Value) (w:World) (S:Sst w p (.slice (some ⟨g1,0,none⟩) n c1) (.slice (some ⟨g2,0,none⟩) n c2) r best wd tr) (WD:Hid (∀ W,Below w.heap.size w W->Calls Tryz.prog 130 #[bdv g1 c1 g2 c2 n r,.slice (some ⟨b,off,none⟩) n cap] W fun e w'=>e=.returned (.int .i64 wd')/\Below W.heap.size W w')) (h:am<wd') :
    Calls Tryz.prog 131 #[.pointer (some ⟨p,0,none⟩),.slice (some ⟨b,off,none⟩) n cap,.int .i64 am] w fun e w'=>e=.returned (.bool false)/\Sst w' p (.slice (some ⟨g1,0,none⟩) n c1) (.slice (some ⟨g2,0,none⟩) n c2) r best wd tr/\Sf p w w':=by
  have S0:=hid S
  have lp:p<w.heap.size:=S.2.2.2.2.2.2.2.2.2
  obtain ⟨h0,h1,h2,h3,h4,h5,f3,f4,f5,l⟩:=S
  clear l
  go_enter Tryz.func131,Tryz.ntmps131
  go_wp2_with fail
  with_reducible refine (WD.out _ ?_).mono ?_
  · (repeat' (first|exact Below.refl _ _|refine Below.drew ?_))
  rintro e w1 ⟨rfl,hb1⟩
  have S1:=hid (sst_below S0.out hb1)
  have B1:=hid (sf_of hb1 (Nat.le_of_lt lp))
  clear hb1 h0 h1 h2 h3 h4 h5 f3 f4 f5
  go_wp2
  go_ret
  exact ⟨rfl,S1.out,B1.out⟩
theorem hof_yes (p g1 c1 g2 c2 n b off cap:Nat) (r wd tr am wd':Int) (best:Value) (w:World) (S:Sst w p (.slice (some ⟨g1,0,none⟩) n c1) (.slice (some ⟨g2,0,none⟩) n c2) r best wd tr) (WD:Hid (∀ W,Below w.heap.size w W->Calls Tryz.prog 130 #[bdv g1 c1 g2 c2 n r,.slice (some ⟨b,off,none⟩) n cap] W fun e w'=>e=.returned (.int .i64 wd')/\Below W.heap.size W w')) (h:wd'<=am) :
    Calls Tryz.prog 131 #[.pointer (some ⟨p,0,none⟩),.slice (some ⟨b,off,none⟩) n cap,.int .i64 am] w fun e w'=>e=.returned (.bool true)/\Sst w' p (.slice (some ⟨g1,0,none⟩) n c1) (.slice (some ⟨g2,0,none⟩) n c2) r (.slice (some ⟨b,off,none⟩) n cap) wd' tr/\Sf p w w':=by
  have hn:¬ am<wd':=by omega
  have S0:=hid S
  have lp:p<w.heap.size:=S.2.2.2.2.2.2.2.2.2
  obtain ⟨h0,h1,h2,h3,h4,h5,f3,f4,f5,l⟩:=S
  clear l
  go_enter Tryz.func131,Tryz.ntmps131
  go_wp2_with fail
  with_reducible refine (WD.out _ ?_).mono ?_
  · (repeat' (first|exact Below.refl _ _|refine Below.drew ?_))
  rintro e w1 ⟨rfl,hb1⟩
  have S1:=hid (sst_below S0.out hb1)
  have B1:=hid (sf_of hb1 (Nat.le_of_lt lp))
  clear hb1 h0 h1 h2 h3 h4 h5 f3 f4 f5
  obtain ⟨h0,h1,h2,h3,h4,h5,f3,f4,f5,l⟩:=S1.out
  go_wp2
  go_ret
  exact ⟨rfl,sst_set34 S1.out _ _,sf_set (sf_set B1.out _) _⟩
end Go.Proofs.YtbcjiigmbcfkeaaGreat
