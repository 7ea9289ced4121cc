import Derived.Test.YtbcjiigmbcfkeaaGreatFgMb
import Derived.Laws.EntriesVeiled
namespace Go.Proofs.YtbcjiigmbcfkeaaGreat
open Go.Lib (hid)
open Go.ChangeShapes Go.WideShapes Go.RowKit
open Sh
def gA (gs:List (Nat × P9)) (k:Nat):Nat × P9:=gs.getD k (0,(0,0,0),(0,0,0),(0,0,0))
theorem gcs_at (gs:List (Nat × P9)):∀ k j,k<gs.length->j<7->(gcs gs)[k*7+j]?=(gcs1 (gA gs k))[j]?:=by
  induction gs with
 |nil=>intro k j h;cases h
 |cons g gs ih =>
    intro k j hk hj
    have e:gcs (g :: gs)=gcs1 g ++ gcs gs:=by simp [gcs]
    have l7:(gcs1 g).length=7:=rfl
    rw [e]
    cases k with
   |zero=>rw [List.getElem?_append_left (by rw [l7];omega),Nat.zero_mul,Nat.zero_add];rfl
   |succ k =>
      rw [List.getElem?_append_right (by rw [l7];omega),l7,show (k+1)*7+j - 7=k*7+j by omega,ih k j (by simpa using hk) hj]
      rfl
def RowGs (w:World) (q n:Nat) (gs:List (Nat × P9)):Prop:=q<w.heap.size/\∀ k,k<n->(w.cell? ⟨q,k*7,none⟩=some (.slice (some ⟨(gA gs k).1,0,none⟩) 3 3)/\w.cell? ⟨q,k*7+1,none⟩=some (.int .i64 (loN (P3F (gA gs k).2) 3).1)/\w.cell? ⟨q,k*7+1+1,none⟩=some (.int .i64 (loN (P3F (gA gs k).2) 3).2.1)/\w.cell? ⟨q,k*7+1+1+1,none⟩=some (.int .i64 (loN (P3F (gA gs k).2) 3).2.2)/\w.cell? ⟨q,k*7+1+1+1+1,none⟩=some (.int .i64 (hiN (P3F (gA gs k).2) 3).1)/\w.cell? ⟨q,k*7+1+1+1+1+1,none⟩=some (.int .i64 (hiN (P3F (gA gs k).2) 3).2.1)/\w.cell? ⟨q,k*7+1+1+1+1+1+1,none⟩=some (.int .i64 (hiN (P3F (gA gs k).2) 3).2.2))/\PtB w (gA gs k).1 (gA gs k).2
theorem rowgs_in {w w1:World} {q n:Nat} {gs:List (Nat × P9)} (r:RowGs w q n gs) (hb:Below w.heap.size w w1):RowGs w1 q n gs:=by
  refine ⟨Nat.lt_of_lt_of_le r.1 hb.size,fun k hk=>?_⟩
  obtain ⟨⟨h0,h1,h2,h3,h4,h5,h6⟩,hp⟩:=r.2 k hk
  exact ⟨⟨(hb.cell (p:=⟨q,_,none⟩) r.1).trans h0,(hb.cell (p:=⟨q,_,none⟩) r.1).trans h1,(hb.cell (p:=⟨q,_,none⟩) r.1).trans h2,(hb.cell (p:=⟨q,_,none⟩) r.1).trans h3,(hb.cell (p:=⟨q,_,none⟩) r.1).trans h4,(hb.cell (p:=⟨q,_,none⟩) r.1).trans h5,(hb.cell (p:=⟨q,_,none⟩) r.1).trans h6⟩,ptb_below hp hb⟩
theorem rowgs_of {w:World} {base:Nat} {v:Value} {gs:List (Nat × P9)} (h:w.ownsRow base 138 7 v gs.length (gcs gs)) (h0:0<gs.length) (hp:∀ g,g ∈ gs->PtB w g.1 g.2):∃ q cap,v=.slice (some ⟨q,0,none⟩) gs.length cap/\RowGs w q gs.length gs:=by
  rcases h.2 with ⟨_,h'⟩|⟨q,cap,cur,rfl,hb,hg,_⟩
  · omega
  · refine ⟨q,cap,rfl,(Array.getElem?_eq_some_iff.1 hg).1,fun k hk=>?_⟩
    have c (j:Nat) (hj:j<7):w.cell? ⟨q,k*7+j,none⟩=(gcs1 (gA gs k))[j]?:=by rw [h.cellAt (k*7+j) (by omega)];exact gcs_at gs k j hk hj
    refine ⟨⟨c 0 (by omega),c 1 (by omega),c 2 (by omega),c 3 (by omega),c 4 (by omega),c 5 (by omega),c 6 (by omega)⟩,?_⟩
    have hm:gA gs k ∈ gs:=by
      unfold gA
      rw [List.getD_eq_getElem?_getD,List.getElem?_eq_getElem hk]
      exact List.getElem_mem hk
    exact hp _ hm
set_option maxRecDepth 100000 in
set_option maxHeartbeats 2000000 in
theorem gsl_any (d m e:Nat) (bl bh:P3) (sc:Int) (kv:Value) (q n c:Nat) (gs:List (Nat × P9)) (f:Nat->Int) (w:World) (r:RowGs w q n gs) (hn:n<=1000) (CC:Hid (∀ k,k<n->∀ W,Below w.heap.size w W->Calls Tryz.prog 154 #[vwv d m e bl bh sc kv,grv (gA gs k).1 3 3 (loN (P3F (gA gs k).2) 3) (hiN (P3F (gA gs k).2) 3)] W fun e w'=>e=.returned (.int .i64 (f k))/\Below W.heap.size W w')) (BD:Hid (∀ k,k<=n->-4611686018427387904<=sm f k/\sm f k<=4611686018427387904)) :
    Calls Tryz.prog 191 #[.slice (some ⟨q,0,none⟩) n c,.func (.func 154) #[vwv d m e bl bh sc kv] #[]] w fun e w'=>e=.returned (.int .i64 (sm f n))/\Below w.heap.size w w':=by
  have hn':(n:Int)<=1000:=by omega
  have R:=hid r
  clear r
  go_enter Tryz.func191,Tryz.ntmps191
  go_wp2
  go_loopw [5,10] (fun tv jv wr=>∃ k:Nat,k<=n/\jv=.int .i64 k/\tv=.int .i64 (sm f k)/\Below w.heap.size w wr) (fun _ jv _=>n - (intOf jv).toNat)
  case atStart=>exact ⟨0,Nat.zero_le _,rfl,rfl,Below.refl _ _⟩
  case round =>
    obtain ⟨k,hk,rfl,rfl,BB⟩:=hrel
    have B0:=hid BB
    clear BB
    by_cases hlt:k<n
    · have hk1:(k:Int)<(n:Int):=by omega
      have q1:=rowgs_in R.out B0.out
      obtain ⟨⟨c0,c1,c2,c3,c4,c5,c6⟩,_⟩:=q1.2 k hlt
      have s1:=q1.1
      have NX:=hid (show sm f (k+1)=sm f k+f k from rfl)
      have bb:=BD.out (k+1) hlt
      rw [NX.out] at bb
      obtain ⟨b1,b2⟩:=bb
      have CK:=hid (CC.out k hlt)
      clear q1 CC BD
      generalize loN (P3F (gA gs k).2) 3=lo at *
      generalize hiN (P3F (gA gs k).2) 3=hi at *
      generalize (gA gs k).1=g at *
      generalize f k=y at *
      generalize sm f k=x at *
      go_wp2_with fail
      go_at_call 154
      refine (CK.out _ (by have hB:=B0.out;(repeat' (first|exact Below.refl _ _|refine bstep ?_ hB|refine Below.setCell ?_ (by simp<;>omega) _|refine balloc ?_ _|refine Below.drew ?_|refine bdrewN ?_ _)))).mono ?_
      rintro e w1 ⟨rfl,hb⟩
      go_wp2
      go_roundw
      case rel=>exact ⟨k+1,by omega,by go_num,by rw [NX.out],by have hB:=B0.out;(repeat' (first|exact Below.refl _ _|refine bstep ?_ hb|refine bstep ?_ hB|refine Below.setCell ?_ (by simp<;>omega) _|refine balloc ?_ _|refine Below.drew ?_|refine bdrewN ?_ _))⟩
      case measure=>simp [intOf];omega
    · obtain rfl:k=n:=by omega
      go_wp2
      go_ret
      exact ⟨rfl,B0.out⟩
theorem sm_pos9 {f:Nat->Int} {B:Int}:∀ {n:Nat},(∀ k,k<n->0<=f k/\f k<=B)->0<=sm f n/\sm f n<=(n:Int)*B
 |0,_=>by show (0:Int)<=0/\(0:Int)<=(0:Nat)*B;omega
 |n+1,h=>by
    obtain ⟨h1,h2⟩:=sm_pos9 (n:=n) fun k hk=>h k (by omega)
    obtain ⟨h3,h4⟩:=h n (by omega)
    show 0<=sm f n+f n/\sm f n+f n<=((n+1:Nat):Int)*B
    rw [Int.natCast_succ,Int.add_mul]
    omega
theorem tdiv_pos9 {x d:Int} (h:0<=x):x.tdiv d=x / d:=Int.tdiv_eq_ediv_of_nonneg h
theorem mn_bd9 {M a b:Int} (h:-M<=a/\a<=M) (k:-M<=b/\b<=M):-M<=Sp.mn a b/\Sp.mn a b<=M:=by rw [Sp.mn_eq];omega
theorem mx_bd9 {M a b:Int} (h:-M<=a/\a<=M) (k:-M<=b/\b<=M):-M<=Sp.mx a b/\Sp.mx a b<=M:=by rw [Sp.mx_eq];omega
theorem mn3_bd {M:Int} {a b:P3} (h:BdP M a) (k:BdP M b):BdP M (mn3 a b):=by
  obtain ⟨a1,a2,a3,a4,a5,a6⟩:=h
  obtain ⟨b1,b2,b3,b4,b5,b6⟩:=k
  have x:=mn_bd9 ⟨a1,a2⟩ ⟨b1,b2⟩
  have y:=mn_bd9 ⟨a3,a4⟩ ⟨b3,b4⟩
  have z:=mn_bd9 ⟨a5,a6⟩ ⟨b5,b6⟩
  exact ⟨x.1,x.2,y.1,y.2,z.1,z.2⟩
theorem mx3_bd {M:Int} {a b:P3} (h:BdP M a) (k:BdP M b):BdP M (mx3 a b):=by
  obtain ⟨a1,a2,a3,a4,a5,a6⟩:=h
  obtain ⟨b1,b2,b3,b4,b5,b6⟩:=k
  have x:=mx_bd9 ⟨a1,a2⟩ ⟨b1,b2⟩
  have y:=mx_bd9 ⟨a3,a4⟩ ⟨b3,b4⟩
  have z:=mx_bd9 ⟨a5,a6⟩ ⟨b5,b6⟩
  exact ⟨x.1,x.2,y.1,y.2,z.1,z.2⟩
theorem lo3_bd {M:Int} {t:P9} (h:BdT M t):BdP M (loN (P3F t) 3):=mn3_bd (mn3_bd (mn3_bd h.1 h.1) h.2.1) h.2.2
theorem hi3_bd {M:Int} {t:P9} (h:BdT M t):BdP M (hiN (P3F t) 3):=mx3_bd (mx3_bd (mx3_bd h.1 h.1) h.2.1) h.2.2
theorem gA_snd {gs:List (Nat × P9)} {t:P9} {D:Int} (h:gs.map Prod.snd=cutP D.toNat t) {k:Nat} (hk:k<gs.length):(gA gs k).2=ptk t D k:=by
  unfold gA ptk
  rw [← h,List.getD_eq_getElem?_getD,List.getD_eq_getElem?_getD,List.getElem?_map,List.getElem?_eq_getElem hk]
  rfl
theorem gs_len {gs:List (Nat × P9)} {t:P9} {D:Int} (h:gs.map Prod.snd=cutP D.toNat t):gs.length=ptn D:=by
  have:=congrArg List.length h
  rw [List.length_map,cutP_len] at this
  exact this
theorem scl_vals {D:Int} (h0:0<=D) (h3:D<=3):wrap64 (2 ^ D.toNat)=scl D/\1<=scl D/\scl D<=8:=by
  have hd:D.toNat=0∨D.toNat=1∨D.toNat=2∨D.toNat=3:=by omega
  unfold scl
  rcases hd with e|e|e|e<;>rw [e]<;>exact ⟨by rw [← IntWalk.i64_left];exact IntWalk.i64_in _ (by decide),by decide,by decide⟩
theorem ptn_vals {D:Int} (h0:0<=D) (h3:D<=3):0<ptn D/\ptn D<=64:=by
  have hd:D.toNat=0∨D.toNat=1∨D.toNat=2∨D.toNat=3:=by omega
  unfold ptn
  rcases hd with e|e|e|e<;>rw [e]<;>decide
theorem ptk_bd9 {t:P9} {D:Int} (hB:BdT 64 t) (h0:0<=D) (h3:D<=3) {k:Nat} (hk:k<ptn D):BdT 512 (ptk t D k):=by
  have hm:ptk t D k ∈ cutP D.toNat t:=by
    unfold ptk
    have hl:k<(cutP D.toNat t).length:=by rw [cutP_len];exact hk
    rw [List.getD_eq_getElem?_getD,List.getElem?_eq_getElem hl]
    exact List.getElem_mem hl
  have:=cutP_bd D.toNat hB _ hm
  refine this.mono ?_
  have hd:D.toNat=0∨D.toNat=1∨D.toNat=2∨D.toNat=3:=by omega
  rcases hd with e|e|e|e<;>rw [e]<;>decide
theorem tim_bd {x:P3} {s:Int} (hx:BdP 256 x) (s1:1<=s) (s2:s<=8):BdP 2048 (tim s x):=by
  obtain ⟨a1,a2,a3,a4,a5,a6⟩:=hx
  have x1:=mul_bd (A:=8) (B:=256) (by omega) s2 a1 a2
  have x2:=mul_bd (A:=8) (B:=256) (by omega) s2 a3 a4
  have x3:=mul_bd (A:=8) (B:=256) (by omega) s2 a5 a6
  simp only [BdP,tim]
  omega
theorem ki_any (n m:Int) (W:World):Calls Tryz.prog 152 #[.int .i64 n,.int .i64 m] W fun e w'=>e=.returned (spr (kV false n m))/\Below W.heap.size W w':=inv_any n m W
end Go.Proofs.YtbcjiigmbcfkeaaGreat
