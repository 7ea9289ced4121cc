/-
  The document's distance of boxes: bounds,gap.
  The document's gap of two lists of numbers,squared.
  The document's coordinates of points along an axis.
  The document's close: the squared distance of two boxes.
  The document's far: the greatest squared distance between corners and points.
-/
import Derived.Test.YtciimaojoococaaGreatFgMc
import Derived.OwnWalk
namespace Go.Proofs.YtciimaojoococaaGreat
open Go.ChangeShapes Go.WideShapes Go.RowKit
open Sh
attribute [local go_sem 1000000] run_min_mn run_max_mx
attribute [local go_sem high] run_max3' run_min3'
/-- numbers in memory, at a block's head -/
def RwI (w:World) (b n:Nat) (f:Nat→Int):Prop:=b < w.heap.size∧∀ k,k < n→w.cell? ⟨b,k,none⟩=some (.int .i64 (f k))
theorem rwi_below {w w1:World} {b n:Nat} {f:Nat→Int} (r:RwI w b n f) (hb:Below w.heap.size w w1):RwI w1 b n f:=⟨Nat.lt_of_lt_of_le r.1 hb.size,fun k hk=>(hb.cell (p:=⟨b,k,none⟩) r.1).trans (r.2 k hk)⟩
def mnN (f:Nat→Int):Nat→Int
  | 0=>f 0
  | k + 1=>Sp.mn (mnN f k) (f k)
def mxN (f:Nat→Int):Nat→Int
  | 0=>f 0
  | k + 1=>Sp.mx (mxN f k) (f k)
set_option maxRecDepth 100000 in
set_option maxHeartbeats 2000000 in
theorem rbounds_any (b n c:Nat) (f:Nat→Int) (w:World) (r:RwI w b n f) (h0:0 < n) (hn:n≤1000):Calls Tryz.prog 162 #[.slice (some ⟨b,0,none⟩) n c] w fun e w'=>e=.returned (.tuple #[.int .i64 (mnN f n),.int .i64 (mxN f n)])∧Below w.heap.size w w':=by
  have hn':(n:Int)≤1000:=by omega
  have hn0:(0:Int) < (n:Int):=by omega
  have c0:=r.2 0 h0
  have hbl:=r.1
  have R:=Lib.hid r
  clear r
  go_enter Tryz.func162,Tryz.ntmps162
  go_wp2_with fail
  go_region
  all_goals
    go_wp2_with fail
    go_loopw [4,5,6] (fun lv hv kv wr=>∃ k:Nat,k≤n∧kv=.int .i64 k∧lv=.int .i64 (mnN f k)∧hv=.int .i64 (mxN f k)∧Below w.heap.size w wr) (fun _ _ kv _=>n - (intOf kv).toNat)
    case atStart=>exact ⟨0,Nat.zero_le _,rfl,rfl,rfl,by (repeat' (first | exact Below.refl _ _ | refine Below.setCell ?_ (by simp <;> omega) _ | refine balloc ?_ _ | refine Below.drew ?_ | refine bdrewN ?_ _))⟩
    case round =>
      clear c0
      obtain ⟨k,hk,rfl,rfl,rfl,BB⟩:=hrel
      have B0:=Lib.hid BB
      clear BB
      by_cases hlt:k < n
      · have hk1:(k:Int) < (n:Int):=by omega
        have hk0:0≤(k:Int):=by omega
        have q1:=rwi_below R.out B0.out
        have c1:=q1.2 k hlt
        have s1:=q1.1
        have NL:=Lib.hid (show mnN f (k + 1)=Sp.mn (mnN f k) (f k) from rfl)
        have NH:=Lib.hid (show mxN f (k + 1)=Sp.mx (mxN f k) (f k) from rfl)
        clear q1
        generalize mnN f k=lo at *
        generalize mxN f k=hi at *
        generalize f k=y at *
        go_wp2_with fail
        go_region
        all_goals
          go_wp2_with fail
          go_roundw
          case rel=>exact ⟨k + 1,by omega,by go_num,by rw [NL.out],by rw [NH.out],by have hB:=B0.out;(repeat' (first | exact Below.refl _ _ | refine bstep ?_ hB | refine Below.setCell ?_ (by simp <;> omega) _ | refine balloc ?_ _ | refine Below.drew ?_ | refine bdrewN ?_ _))⟩
          case measure=>simp [intOf];omega
      · obtain rfl:k=n:=by omega
        go_wp2
        go_ret2
        exact ⟨rfl,B0.out⟩
end Go.Proofs.YtciimaojoococaaGreat
namespace Go.Proofs.YtciimaojoococaaGreat
open Go.ChangeShapes Go.WideShapes Go.RowKit
open Sh
attribute [local go_sem 1000000] run_min_mn run_max_mx
attribute [local go_sem high] run_max3' run_min3'
theorem mnN_bd {f:Nat→Int} {B:Int} (h0:-B≤f 0∧f 0≤B):∀ {n:Nat},(∀ k,k < n→-B≤f k∧f k≤B)→(-B≤mnN f n∧mnN f n≤B)∧(-B≤mxN f n∧mxN f n≤B)
  | 0,_=>⟨h0,h0⟩
  | n + 1,h=>by
    obtain ⟨h1,h2⟩:=mnN_bd h0 (n:=n) fun k hk=>h k (by omega)
    have h3:=h n (by omega)
    exact ⟨mn_bd9 h1 h3,mx_bd9 h2 h3⟩
theorem gp_sw (al ah bl bh:Int):Sp.mx (Sp.mx 0 (al - bh)) (bl - ah)=gp al ah bl bh:=by
  unfold gp
  simp only [Sp.mx_eq]
  omega
set_option maxHeartbeats 1000000 in
theorem rgap_any (b n c d m e:Nat) (f g:Nat→Int) (w:World) (r:RwI w b n f) (r':RwI w d m g) (n0:0 < n) (n1:n≤1000) (m0:0 < m) (m1:m≤1000) (hf:∀ k,k < n→-1000000≤f k∧f k≤1000000) (hg:∀ k,k < m→-1000000≤g k∧g k≤1000000) :
    Calls Tryz.prog 139 #[.slice (some ⟨b,0,none⟩) n c,.slice (some ⟨d,0,none⟩) m e] w fun e w'=>e=.returned (.int .i64 (gp (mnN f n) (mxN f n) (mnN g m) (mxN g m) * gp (mnN f n) (mxN f n) (mnN g m) (mxN g m)))∧Below w.heap.size w w':=by
  have C1:=Lib.hid (fun (W:World) (B:Below w.heap.size w W)=>rbounds_any b n c f W (rwi_below r B) n0 n1)
  have C2:=Lib.hid (fun (W:World) (B:Below w.heap.size w W)=>rbounds_any d m e g W (rwi_below r' B) m0 m1)
  obtain ⟨⟨a1,a2⟩,a3,a4⟩:=mnN_bd (hf 0 n0) (n:=n) hf
  obtain ⟨⟨b1,b2⟩,b3,b4⟩:=mnN_bd (hg 0 m0) (n:=m) hg
  have gb:=gp_bd (L:=1000000) ⟨a1,a2⟩ ⟨a3,a4⟩ ⟨b1,b2⟩ ⟨b3,b4⟩
  have SW:=gp_sw (mnN f n) (mxN f n) (mnN g m) (mxN g m)
  have q:=mul_bd (A:=2000000) (B:=2000000) (by omega) gb.2 (by omega) gb.2
  obtain ⟨q1,q2⟩:=q
  obtain ⟨g1,g2⟩:=gb
  clear r r' hf hg
  generalize gp (mnN f n) (mxN f n) (mnN g m) (mxN g m)=z at *
  generalize mnN f n=al at *
  generalize mxN f n=ah at *
  generalize mnN g m=bl at *
  generalize mxN g m=bh at *
  go_enter Tryz.func139,Tryz.ntmps139
  go_wp2_with fail
  refine (C1.out _ (Below.refl _ _)).mono ?_
  rintro e w1 ⟨rfl,hb1⟩
  go_wp2_with fail
  refine (C2.out _ hb1).mono ?_
  rintro e w2 ⟨rfl,hb2⟩
  go_wp2
  go_ret
  exact ⟨rfl,by (repeat' (first | exact Below.refl _ _ | refine bstep ?_ hb2 | refine bstep ?_ hb1 | refine Below.setCell ?_ (by simp <;> omega) _ | refine balloc ?_ _ | refine Below.drew ?_ | refine bdrewN ?_ _))⟩
end Go.Proofs.YtciimaojoococaaGreat
namespace Go.Proofs.YtciimaojoococaaGreat
open Go.ChangeShapes Go.WideShapes Go.RowKit
open Sh
open Go.Shelf
theorem infoI1:(Tryz.prog.info? 3).map (fun i=>(i.zero,i.size,i.bytes))=some (some (.int .i64 0),1,8):=by kernel_rfl
/-- numbers as values -/
def ivs (f:Nat→Int):Nat→List Value
  | 0=>[]
  | k + 1=>ivs f k ++ [.int .i64 (f k)]
theorem ivs_len (f:Nat→Int):∀ k,(ivs f k).length=k
  | 0=>rfl
  | k + 1=>by show (ivs f k ++ [_]).length=_;rw [List.length_append,ivs_len f k];rfl
theorem ivs_at (f:Nat→Int):∀ {n k:Nat},k < n→(ivs f n)[k]?=some (.int .i64 (f k))
  | 0,k,h=>absurd h (Nat.not_lt_zero k)
  | n + 1,k,h=>by
    show (ivs f n ++ [.int .i64 (f n)])[k]?=_
    by_cases e:k=n
    · subst e
      rw [List.getElem?_append_right (by rw [ivs_len];omega),ivs_len,Nat.sub_self]
      rfl
    · rw [List.getElem?_append_left (by rw [ivs_len];omega)]
      exact ivs_at f (by omega)
theorem rwi_of {w:World} {base n:Nat} {v:Value} {f:Nat→Int} (h:w.ownsRow base 3 1 v n (ivs f n)) (h0:0 < n):∃ q cap,v=.slice (some ⟨q,0,none⟩) n cap∧base≤q∧RwI w q n f:=by
  rcases h.2 with ⟨_,h'⟩ | ⟨q,cap,cur,rfl,hb,hg,_⟩
  · omega
  · exact ⟨q,cap,rfl,hb,(Array.getElem?_eq_some_iff.1 hg).1,fun k hk=>by rw [h.cellAt k (by omega)];exact ivs_at f hk⟩
theorem one_new' (w:World) (b:Nat) (x:Int) (t:TypeId) (hb:b=w.heap.size):∀ j u,([.int .i64 x]:List Value)[j]?=some u→(w.alloc (.cells #[.int .i64 x] t)).cell? ((⟨b,0,none⟩:Addr).add j)=some u:=by
  subst hb
  intro j u hu
  match j,hu with
  | 0,hu=>(simp at hu;subst hu;simp only [Addr.add];go_simp)
  | j + 1,hu=>simp at hu
set_option maxRecDepth 100000 in
set_option maxHeartbeats 2000000 in
theorem rax0_any (b n c:Nat) (P:Nat→P3) (w:World) (r:RwG w b n P) (hn:n≤1000):Calls Tryz.prog 140 #[.slice (some ⟨b,0,none⟩) n c,.int .i64 0] w fun e w'=>∃ v,e=.returned v∧w'.ownsRow w.heap.size 3 1 v n (ivs (fun k=>(P k).1) n)∧Below w.heap.size w w':=by
  obtain ⟨i0,hi,hz0,hz1,hz2⟩:=info_parts infoI1
  have HI:=Lib.hid hi
  have HZ0:=Lib.hid hz0
  have HZ1:=Lib.hid hz1
  have HZ2:=Lib.hid hz2
  clear hi hz0 hz1 hz2
  have hn':(n:Int)≤1000:=by omega
  have R:=Lib.hid r
  have hbl:=r.1
  clear r
  go_enter Tryz.func140,Tryz.ntmps140
  go_wp2
  go_loopw [5,6] (fun sv kv wr=>∃ k:Nat,k≤n∧kv=.int .i64 k∧wr.ownsRow w.heap.size 3 1 sv k (ivs (fun k=>(P k).1) k)∧Below w.heap.size w wr) (fun _ kv _=>n - (intOf kv).toNat)
  case atStart=>exact ⟨0,Nat.zero_le _,rfl,World.ownsRow_nil _ _ _ _,Below.refl _ _⟩
  case round =>
    obtain ⟨k,hk,rfl,hrow,BB⟩:=hrel
    have B0:=Lib.hid BB
    have ROWc:=Lib.hid hrow
    clear BB hrow
    by_cases hlt:k < n
    · have hk1:(k:Int) < (n:Int):=by omega
      have hk0:0≤(k:Int):=by omega
      have q1:=rwg_in R.out B0.out hbl
      obtain ⟨c0,c1,c2⟩:=q1.2 k hlt
      have s1:=q1.1
      have szw:=B0.out.size
      have NX:=Lib.hid (show ivs (fun k=>(P k).1) (k + 1)=ivs (fun k=>(P k).1) k ++ [.int .i64 (P k).1] from rfl)
      clear q1
      go_wp2_with (at_builtin;(refine wpList_append_own _ rfl _ _ 37 rfl w.heap.size 3 i0 (.int .i64 0) 1 8 Tryz.underlying37 HI.out HZ0.out HZ1.out HZ2.out rfl (by decide) _ k (ivs (fun k=>(P k).1) k) rfl (ROWc.out.alloc _) ⟨_,0,none⟩ 1 1 [.int .i64 (P k).1] rfl rfl (one_new' _ _ _ _ (by simp)) (by intro u hu;simp at hu;subst hu;rfl) (by unfold maxLen;omega) (by omega) (by simp;omega) ?_);intro v' w7 hown' hgrow _;have OW:=Lib.hid hown';have GR:=Lib.hid hgrow;clear hown' hgrow)
      have BG:=(B0.out.alloc szw _).grown GR.out (by simp;omega) (fun gg hg=>(ROWc.out.lt gg hg).1)
      go_roundw
      case rel=>exact ⟨k + 1,by omega,by go_num,by rw [NX.out];exact OW.out,BG⟩
      case measure=>simp [intOf];omega
    · obtain rfl:k=n:=by omega
      go_wp2
      go_ret
      exact ⟨_,rfl,ROWc.out,B0.out⟩
set_option maxRecDepth 100000 in
set_option maxHeartbeats 2000000 in
theorem rax1_any (b n c:Nat) (P:Nat→P3) (w:World) (r:RwG w b n P) (hn:n≤1000):Calls Tryz.prog 140 #[.slice (some ⟨b,0,none⟩) n c,.int .i64 1] w fun e w'=>∃ v,e=.returned v∧w'.ownsRow w.heap.size 3 1 v n (ivs (fun k=>(P k).2.1) n)∧Below w.heap.size w w':=by
  obtain ⟨i0,hi,hz0,hz1,hz2⟩:=info_parts infoI1
  have HI:=Lib.hid hi
  have HZ0:=Lib.hid hz0
  have HZ1:=Lib.hid hz1
  have HZ2:=Lib.hid hz2
  clear hi hz0 hz1 hz2
  have hn':(n:Int)≤1000:=by omega
  have R:=Lib.hid r
  have hbl:=r.1
  clear r
  go_enter Tryz.func140,Tryz.ntmps140
  go_wp2
  go_loopw [5,6] (fun sv kv wr=>∃ k:Nat,k≤n∧kv=.int .i64 k∧wr.ownsRow w.heap.size 3 1 sv k (ivs (fun k=>(P k).2.1) k)∧Below w.heap.size w wr) (fun _ kv _=>n - (intOf kv).toNat)
  case atStart=>exact ⟨0,Nat.zero_le _,rfl,World.ownsRow_nil _ _ _ _,Below.refl _ _⟩
  case round =>
    obtain ⟨k,hk,rfl,hrow,BB⟩:=hrel
    have B0:=Lib.hid BB
    have ROWc:=Lib.hid hrow
    clear BB hrow
    by_cases hlt:k < n
    · have hk1:(k:Int) < (n:Int):=by omega
      have hk0:0≤(k:Int):=by omega
      have q1:=rwg_in R.out B0.out hbl
      obtain ⟨c0,c1,c2⟩:=q1.2 k hlt
      have s1:=q1.1
      have szw:=B0.out.size
      have NX:=Lib.hid (show ivs (fun k=>(P k).2.1) (k + 1)=ivs (fun k=>(P k).2.1) k ++ [.int .i64 (P k).2.1] from rfl)
      clear q1
      go_wp2_with (at_builtin;(refine wpList_append_own _ rfl _ _ 37 rfl w.heap.size 3 i0 (.int .i64 0) 1 8 Tryz.underlying37 HI.out HZ0.out HZ1.out HZ2.out rfl (by decide) _ k (ivs (fun k=>(P k).2.1) k) rfl (ROWc.out.alloc _) ⟨_,0,none⟩ 1 1 [.int .i64 (P k).2.1] rfl rfl (one_new' _ _ _ _ (by simp)) (by intro u hu;simp at hu;subst hu;rfl) (by unfold maxLen;omega) (by omega) (by simp;omega) ?_);intro v' w7 hown' hgrow _;have OW:=Lib.hid hown';have GR:=Lib.hid hgrow;clear hown' hgrow)
      have BG:=(B0.out.alloc szw _).grown GR.out (by simp;omega) (fun gg hg=>(ROWc.out.lt gg hg).1)
      go_roundw
      case rel=>exact ⟨k + 1,by omega,by go_num,by rw [NX.out];exact OW.out,BG⟩
      case measure=>simp [intOf];omega
    · obtain rfl:k=n:=by omega
      go_wp2
      go_ret
      exact ⟨_,rfl,ROWc.out,B0.out⟩
set_option maxRecDepth 100000 in
set_option maxHeartbeats 2000000 in
theorem rax2_any (b n c:Nat) (P:Nat→P3) (w:World) (r:RwG w b n P) (hn:n≤1000):Calls Tryz.prog 140 #[.slice (some ⟨b,0,none⟩) n c,.int .i64 2] w fun e w'=>∃ v,e=.returned v∧w'.ownsRow w.heap.size 3 1 v n (ivs (fun k=>(P k).2.2) n)∧Below w.heap.size w w':=by
  obtain ⟨i0,hi,hz0,hz1,hz2⟩:=info_parts infoI1
  have HI:=Lib.hid hi
  have HZ0:=Lib.hid hz0
  have HZ1:=Lib.hid hz1
  have HZ2:=Lib.hid hz2
  clear hi hz0 hz1 hz2
  have hn':(n:Int)≤1000:=by omega
  have R:=Lib.hid r
  have hbl:=r.1
  clear r
  go_enter Tryz.func140,Tryz.ntmps140
  go_wp2
  go_loopw [5,6] (fun sv kv wr=>∃ k:Nat,k≤n∧kv=.int .i64 k∧wr.ownsRow w.heap.size 3 1 sv k (ivs (fun k=>(P k).2.2) k)∧Below w.heap.size w wr) (fun _ kv _=>n - (intOf kv).toNat)
  case atStart=>exact ⟨0,Nat.zero_le _,rfl,World.ownsRow_nil _ _ _ _,Below.refl _ _⟩
  case round =>
    obtain ⟨k,hk,rfl,hrow,BB⟩:=hrel
    have B0:=Lib.hid BB
    have ROWc:=Lib.hid hrow
    clear BB hrow
    by_cases hlt:k < n
    · have hk1:(k:Int) < (n:Int):=by omega
      have hk0:0≤(k:Int):=by omega
      have q1:=rwg_in R.out B0.out hbl
      obtain ⟨c0,c1,c2⟩:=q1.2 k hlt
      have s1:=q1.1
      have szw:=B0.out.size
      have NX:=Lib.hid (show ivs (fun k=>(P k).2.2) (k + 1)=ivs (fun k=>(P k).2.2) k ++ [.int .i64 (P k).2.2] from rfl)
      clear q1
      go_wp2_with (at_builtin;(refine wpList_append_own _ rfl _ _ 37 rfl w.heap.size 3 i0 (.int .i64 0) 1 8 Tryz.underlying37 HI.out HZ0.out HZ1.out HZ2.out rfl (by decide) _ k (ivs (fun k=>(P k).2.2) k) rfl (ROWc.out.alloc _) ⟨_,0,none⟩ 1 1 [.int .i64 (P k).2.2] rfl rfl (one_new' _ _ _ _ (by simp)) (by intro u hu;simp at hu;subst hu;rfl) (by unfold maxLen;omega) (by omega) (by simp;omega) ?_);intro v' w7 hown' hgrow _;have OW:=Lib.hid hown';have GR:=Lib.hid hgrow;clear hown' hgrow)
      have BG:=(B0.out.alloc szw _).grown GR.out (by simp;omega) (fun gg hg=>(ROWc.out.lt gg hg).1)
      go_roundw
      case rel=>exact ⟨k + 1,by omega,by go_num,by rw [NX.out];exact OW.out,BG⟩
      case measure=>simp [intOf];omega
    · obtain rfl:k=n:=by omega
      go_wp2
      go_ret
      exact ⟨_,rfl,ROWc.out,B0.out⟩
end Go.Proofs.YtciimaojoococaaGreat
namespace Go.Proofs.YtciimaojoococaaGreat
open Go.ChangeShapes Go.WideShapes Go.RowKit
open Sh
theorem mnN_lo0 (P:Nat→P3):∀ n,mnN (fun k=>(P k).1) n=(loN P n).1
  | 0=>rfl
  | n + 1=>by
    show Sp.mn (mnN (fun k=>(P k).1) n) (P n).1=Sp.mn (loN P n).1 (P n).1
    rw [mnN_lo0 P n]
theorem mxN_hi0 (P:Nat→P3):∀ n,mxN (fun k=>(P k).1) n=(hiN P n).1
  | 0=>rfl
  | n + 1=>by
    show Sp.mx (mxN (fun k=>(P k).1) n) (P n).1=Sp.mx (hiN P n).1 (P n).1
    rw [mxN_hi0 P n]
theorem mnN_lo1 (P:Nat→P3):∀ n,mnN (fun k=>(P k).2.1) n=(loN P n).2.1
  | 0=>rfl
  | n + 1=>by
    show Sp.mn (mnN (fun k=>(P k).2.1) n) (P n).2.1=Sp.mn (loN P n).2.1 (P n).2.1
    rw [mnN_lo1 P n]
theorem mxN_hi1 (P:Nat→P3):∀ n,mxN (fun k=>(P k).2.1) n=(hiN P n).2.1
  | 0=>rfl
  | n + 1=>by
    show Sp.mx (mxN (fun k=>(P k).2.1) n) (P n).2.1=Sp.mx (hiN P n).2.1 (P n).2.1
    rw [mxN_hi1 P n]
theorem mnN_lo2 (P:Nat→P3):∀ n,mnN (fun k=>(P k).2.2) n=(loN P n).2.2
  | 0=>rfl
  | n + 1=>by
    show Sp.mn (mnN (fun k=>(P k).2.2) n) (P n).2.2=Sp.mn (loN P n).2.2 (P n).2.2
    rw [mnN_lo2 P n]
theorem mxN_hi2 (P:Nat→P3):∀ n,mxN (fun k=>(P k).2.2) n=(hiN P n).2.2
  | 0=>rfl
  | n + 1=>by
    show Sp.mx (mxN (fun k=>(P k).2.2) n) (P n).2.2=Sp.mx (hiN P n).2.2 (P n).2.2
    rw [mxN_hi2 P n]
set_option maxRecDepth 100000 in
set_option maxHeartbeats 4000000 in
theorem rclose_any (a b c:P3) (d m e':Nat) (Q:Nat→P3) (w:World) (r:RwG w d m Q) (hm0:0 < m) (hm1:m≤1000) (hT:BdT 1000000 (a,b,c)) (hQ:∀ k,k < m→BdP 1000000 (Q k)) :
    Calls Tryz.prog 92 #[pnv a b c,.slice (some ⟨d,0,none⟩) m e'] w fun e w'=>e=.returned (.int .i64 (nG (loN (P3F (a,b,c)) 3) (hiN (P3F (a,b,c)) 3) (loN Q m) (hiN Q m)))∧Below w.heap.size w w':=by
  have hP:∀ k,k < 3→BdP 1000000 (P3F (a,b,c) k):=fun k hk=>by
    match k,hk with
    | 0,_=>exact hT.1
    | 1,_=>exact hT.2.1
    | 2,_=>exact hT.2.2
  have hP0:∀ k,k < 3→-1000000≤(P3F (a,b,c) k).1∧(P3F (a,b,c) k).1≤1000000:=fun k hk=>⟨(hP k hk).1,(hP k hk).2.1⟩
  have hP1:∀ k,k < 3→-1000000≤(P3F (a,b,c) k).2.1∧(P3F (a,b,c) k).2.1≤1000000:=fun k hk=>⟨(hP k hk).2.2.1,(hP k hk).2.2.2.1⟩
  have hP2:∀ k,k < 3→-1000000≤(P3F (a,b,c) k).2.2∧(P3F (a,b,c) k).2.2≤1000000:=fun k hk=>⟨(hP k hk).2.2.2.2.1,(hP k hk).2.2.2.2.2⟩
  have hQ0:∀ k,k < m→-1000000≤(Q k).1∧(Q k).1≤1000000:=fun k hk=>⟨(hQ k hk).1,(hQ k hk).2.1⟩
  have hQ1:∀ k,k < m→-1000000≤(Q k).2.1∧(Q k).2.1≤1000000:=fun k hk=>⟨(hQ k hk).2.2.1,(hQ k hk).2.2.2.1⟩
  have hQ2:∀ k,k < m→-1000000≤(Q k).2.2∧(Q k).2.2≤1000000:=fun k hk=>⟨(hQ k hk).2.2.2.2.1,(hQ k hk).2.2.2.2.2⟩
  have hT':=hT
  clear hP hT hQ
  have RC0:=rwg_new3 (w.alloc (pnc a b c 42)) a b c 24
  have RD0:=rwg_below r (((Below.refl w.heap.size w).alloc (Nat.le_refl _) (pnc a b c 42)).alloc (by simp) (pnc a b c 24))
  have B0:Below w.heap.size w ((w.alloc (pnc a b c 42)).alloc (pnc a b c 24)):=((Below.refl w.heap.size w).alloc (Nat.le_refl _) (pnc a b c 42)).alloc (by simp) (pnc a b c 24)
  simp only [World.size_alloc] at RC0
  clear r
  have LB:=lo3_bd hT'
  have HB:=hi3_bd hT'
  obtain ⟨⟨l1,l2⟩,l3,l4⟩:=mnN_bd (hQ0 0 hm0) (n:=m) hQ0
  obtain ⟨⟨l5,l6⟩,l7,l8⟩:=mnN_bd (hQ1 0 hm0) (n:=m) hQ1
  obtain ⟨⟨l9,la⟩,lb,lc⟩:=mnN_bd (hQ2 0 hm0) (n:=m) hQ2
  rw [mnN_lo0] at l1 l2
  rw [mxN_hi0] at l3 l4
  rw [mnN_lo1] at l5 l6
  rw [mxN_hi1] at l7 l8
  rw [mnN_lo2] at l9 la
  rw [mxN_hi2] at lb lc
  obtain ⟨x1,x2,x3,x4,x5,x6⟩:=LB
  obtain ⟨y1,y2,y3,y4,y5,y6⟩:=HB
  have g1:=gp_bd (L:=1000000) ⟨x1,x2⟩ ⟨y1,y2⟩ ⟨l1,l2⟩ ⟨l3,l4⟩
  have g2:=gp_bd (L:=1000000) ⟨x3,x4⟩ ⟨y3,y4⟩ ⟨l5,l6⟩ ⟨l7,l8⟩
  have g3:=gp_bd (L:=1000000) ⟨x5,x6⟩ ⟨y5,y6⟩ ⟨l9,la⟩ ⟨lb,lc⟩
  have q1:=mul_bd (A:=2000000) (B:=2000000) (by omega) g1.2 (by omega) g1.2
  have q2:=mul_bd (A:=2000000) (B:=2000000) (by omega) g2.2 (by omega) g2.2
  have q3:=mul_bd (A:=2000000) (B:=2000000) (by omega) g3.2 (by omega) g3.2
  clear l1 l2 l3 l4 l5 l6 l7 l8 l9 la lb lc x1 x2 x3 x4 x5 x6 y1 y2 y3 y4 y5 y6 g1 g2 g3
  obtain ⟨q1,q4⟩:=q1
  obtain ⟨q2,q5⟩:=q2
  obtain ⟨q3,q6⟩:=q3
  rw [show nG (loN (P3F (a,b,c)) 3) (hiN (P3F (a,b,c)) 3) (loN Q m) (hiN Q m)=gp (loN (P3F (a,b,c)) 3).1 (hiN (P3F (a,b,c)) 3).1 (loN Q m).1 (hiN Q m).1 * gp (loN (P3F (a,b,c)) 3).1 (hiN (P3F (a,b,c)) 3).1 (loN Q m).1 (hiN Q m).1 + gp (loN (P3F (a,b,c)) 3).2.1 (hiN (P3F (a,b,c)) 3).2.1 (loN Q m).2.1 (hiN Q m).2.1 * gp (loN (P3F (a,b,c)) 3).2.1 (hiN (P3F (a,b,c)) 3).2.1 (loN Q m).2.1 (hiN Q m).2.1 + gp (loN (P3F (a,b,c)) 3).2.2 (hiN (P3F (a,b,c)) 3).2.2 (loN Q m).2.2 (hiN Q m).2.2 * gp (loN (P3F (a,b,c)) 3).2.2 (hiN (P3F (a,b,c)) 3).2.2 (loN Q m).2.2 (hiN Q m).2.2 from rfl]
  go_enter Tryz.func92,Tryz.ntmps92
  go_wp2_with fail
  with_reducible refine (rax0_any (w.heap.size + 1) 3 3 (P3F (a,b,c)) _ RC0 (by decide)).mono ?_
  rintro e w0a ⟨u0a,rfl,ho0a,hb0a⟩
  obtain ⟨q0a,k0a,rfl,_,ri0a⟩:=rwi_of ho0a (by decide)
  have RC0a:=rwg_below RC0 hb0a
  have RD0a:=rwg_below RD0 hb0a
  have B0a:=bstep B0 hb0a
  clear RC0 RD0 B0 hb0a ho0a
  go_wp2_with fail
  with_reducible refine (rax0_any d m e' Q _ RD0a hm1).mono ?_
  rintro e w0b ⟨u0b,rfl,ho0b,hb0b⟩
  obtain ⟨q0b,k0b,rfl,_,ri0b⟩:=rwi_of ho0b hm0
  have RC0b:=rwg_below RC0a hb0b
  have RD0b:=rwg_below RD0a hb0b
  have B0b:=bstep B0a hb0b
  have rj0b:=rwi_below ri0a hb0b
  clear RC0a RD0a B0a hb0b ho0b ri0a
  go_wp2_with fail
  with_reducible refine (rgap_any q0a 3 k0a q0b m k0b (fun k=>(P3F (a,b,c) k).1) (fun k=>(Q k).1) _ rj0b ri0b (by decide) (by decide) hm0 hm1 hP0 hQ0).mono ?_
  rintro e w0c ⟨rfl,hb0c⟩
  have RC0c:=rwg_below RC0b hb0c
  have RD0c:=rwg_below RD0b hb0c
  have B0c:=bstep B0b hb0c
  clear RC0b RD0b B0b hb0c ri0b rj0b
  rw [mnN_lo0,mnN_lo0,mxN_hi0,mxN_hi0]
  go_wp2_with fail
  with_reducible refine (rax1_any (w.heap.size + 1) 3 3 (P3F (a,b,c)) _ RC0c (by decide)).mono ?_
  rintro e w1a ⟨u1a,rfl,ho1a,hb1a⟩
  obtain ⟨q1a,k1a,rfl,_,ri1a⟩:=rwi_of ho1a (by decide)
  have RC1a:=rwg_below RC0c hb1a
  have RD1a:=rwg_below RD0c hb1a
  have B1a:=bstep B0c hb1a
  clear RC0c RD0c B0c hb1a ho1a
  go_wp2_with fail
  with_reducible refine (rax1_any d m e' Q _ RD1a hm1).mono ?_
  rintro e w1b ⟨u1b,rfl,ho1b,hb1b⟩
  obtain ⟨q1b,k1b,rfl,_,ri1b⟩:=rwi_of ho1b hm0
  have RC1b:=rwg_below RC1a hb1b
  have RD1b:=rwg_below RD1a hb1b
  have B1b:=bstep B1a hb1b
  have rj1b:=rwi_below ri1a hb1b
  clear RC1a RD1a B1a hb1b ho1b ri1a
  go_wp2_with fail
  with_reducible refine (rgap_any q1a 3 k1a q1b m k1b (fun k=>(P3F (a,b,c) k).2.1) (fun k=>(Q k).2.1) _ rj1b ri1b (by decide) (by decide) hm0 hm1 hP1 hQ1).mono ?_
  rintro e w1c ⟨rfl,hb1c⟩
  have RC1c:=rwg_below RC1b hb1c
  have RD1c:=rwg_below RD1b hb1c
  have B1c:=bstep B1b hb1c
  clear RC1b RD1b B1b hb1c ri1b rj1b
  rw [mnN_lo1,mnN_lo1,mxN_hi1,mxN_hi1]
  go_wp2_with fail
  with_reducible refine (rax2_any (w.heap.size + 1) 3 3 (P3F (a,b,c)) _ RC1c (by decide)).mono ?_
  rintro e w2a ⟨u2a,rfl,ho2a,hb2a⟩
  obtain ⟨q2a,k2a,rfl,_,ri2a⟩:=rwi_of ho2a (by decide)
  have RC2a:=rwg_below RC1c hb2a
  have RD2a:=rwg_below RD1c hb2a
  have B2a:=bstep B1c hb2a
  clear RC1c RD1c B1c hb2a ho2a
  go_wp2_with fail
  with_reducible refine (rax2_any d m e' Q _ RD2a hm1).mono ?_
  rintro e w2b ⟨u2b,rfl,ho2b,hb2b⟩
  obtain ⟨q2b,k2b,rfl,_,ri2b⟩:=rwi_of ho2b hm0
  have RC2b:=rwg_below RC2a hb2b
  have RD2b:=rwg_below RD2a hb2b
  have B2b:=bstep B2a hb2b
  have rj2b:=rwi_below ri2a hb2b
  clear RC2a RD2a B2a hb2b ho2b ri2a
  go_wp2_with fail
  with_reducible refine (rgap_any q2a 3 k2a q2b m k2b (fun k=>(P3F (a,b,c) k).2.2) (fun k=>(Q k).2.2) _ rj2b ri2b (by decide) (by decide) hm0 hm1 hP2 hQ2).mono ?_
  rintro e w2c ⟨rfl,hb2c⟩
  have RC2c:=rwg_below RC2b hb2c
  have RD2c:=rwg_below RD2b hb2c
  have B2c:=bstep B2b hb2c
  clear RC2b RD2b B2b hb2c ri2b rj2b
  rw [mnN_lo2,mnN_lo2,mxN_hi2,mxN_hi2]
  go_wp2
  go_ret
  exact ⟨rfl,B2c⟩
end Go.Proofs.YtciimaojoococaaGreat
namespace Go.Proofs.YtciimaojoococaaGreat
open Go.ChangeShapes Go.WideShapes Go.RowKit
open Sh
def cI (P:Nat→P3) (q:P3):Nat→Int→Int
  | 0,a=>a
  | k + 1,a=>Sp.mx (cI P q k a) (sq (sub (P k) q))
def cG (P Q:Nat→P3) (n:Nat):Nat→Int
  | 0=>0
  | j + 1=>cI P (Q j) n (cG P Q n j)
theorem cG_one (t:P9) (y:P3):cG (P3F t) (fun _=>y) 3 1=farN t y:=by
  have a:=sq_nn (sub t.1 y)
  show Sp.mx (Sp.mx (Sp.mx 0 (sq (sub t.1 y))) (sq (sub t.2.1 y))) (sq (sub t.2.2 y))=Sp.mx (Sp.mx (sq (sub t.1 y)) (sq (sub t.2.1 y))) (sq (sub t.2.2 y))
  simp only [Sp.mx_eq]
  omega
def rfaOps : Array Oper := #[{ dst := some 29, op := Op.load 24 (Operand.tmp 8), type := 24, pos := "ref.go:38", after := #[], guard := none }, { dst := some 30, op := Op.move (Operand.tmp 1), type := 112, pos := "ref.go:38", after := #[], guard := none }, { dst := some 31, op := Op.move (Operand.tmp 6), type := 3, pos := "ref.go:38", after := #[], guard := none }, { dst := some 32, op := Op.indexAddr 112 (Operand.tmp 30) (Operand.tmp 31), type := 0, pos := "ref.go:38", after := #[{ on := 1, ground := Ground.data }, { on := 2, ground := Ground.data }], guard := none }, { dst := some 33, op := Op.load 24 (Operand.tmp 32), type := 24, pos := "ref.go:38", after := #[{ on := 3, ground := Ground.data }], guard := none }, { dst := some 34, op := Op.call { callee := Callee.value (Operand.func 142), args := #[Operand.tmp 29, Operand.tmp 33], argTypes := #[24, 24] }, type := 24, pos := "ref.go:38", after := #[{ on := 0, ground := Ground.data }, { on := 4, ground := Ground.data }], guard := none }, { dst := some 9, op := Op.alloc 24, type := 0, pos := "ref.go:38", after := #[], guard := none }, { dst := none, op := Op.store 24 (Operand.tmp 9) (Operand.tmp 34), type := 0, pos := "ref.go:38", after := #[{ on := 6, ground := Ground.data }, { on := 5, ground := Ground.data }, { on := 5, ground := Ground.chain }, { on := 0, ground := Ground.phase }, { on := 1, ground := Ground.phase }, { on := 2, ground := Ground.phase }, { on := 3, ground := Ground.phase }, { on := 4, ground := Ground.phase }, { on := 5, ground := Ground.phase }, { on := 6, ground := Ground.phase }], guard := none }]
def rfaT (x:Nat) (d:Nat) (m:Nat) (e:Nat) (j:Nat) (y0 y2 y3 y4 y5 y7 y10 y11 y12 y13 y14 y15 y16 y17 y18 y19 y20 y21 y22 y23 y24 y25 y26 y27 y28 y35 y36 y37 y38 y39 y40 y41 y42 y43:Value) (X:Nat→Value):Array Value:=#[y0,.slice (some ⟨d,0,none⟩) m e,y2,y3,y4,y5,.int .i64 j,y7,.pointer (some ⟨x,0,none⟩),X 9,y10,y11,y12,y13,y14,y15,y16,y17,y18,y19,y20,y21,y22,y23,y24,y25,y26,y27,y28,X 29,X 30,X 31,X 32,X 33,X 34,y35,y36,y37,y38,y39,y40,y41,y42,y43]
theorem rfaT_eq (x:Nat) (d:Nat) (m:Nat) (e:Nat) (j:Nat) (y0 y2 y3 y4 y5 y7 y10 y11 y12 y13 y14 y15 y16 y17 y18 y19 y20 y21 y22 y23 y24 y25 y26 y27 y28 y35 y36 y37 y38 y39 y40 y41 y42 y43:Value) (X:Nat→Value):rfaT x d m e j y0 y2 y3 y4 y5 y7 y10 y11 y12 y13 y14 y15 y16 y17 y18 y19 y20 y21 y22 y23 y24 y25 y26 y27 y28 y35 y36 y37 y38 y39 y40 y41 y42 y43 X=#[y0,.slice (some ⟨d,0,none⟩) m e,y2,y3,y4,y5,.int .i64 j,y7,.pointer (some ⟨x,0,none⟩),X 9,y10,y11,y12,y13,y14,y15,y16,y17,y18,y19,y20,y21,y22,y23,y24,y25,y26,y27,y28,X 29,X 30,X 31,X 32,X 33,X 34,y35,y36,y37,y38,y39,y40,y41,y42,y43]:=rfl
def rfaI (G:World→Prop) (N:Nat) (x d m e j:Nat) (p q:P3) (y0 y2 y3 y4 y5 y7 y10 y11 y12 y13 y14 y15 y16 y17 y18 y19 y20 y21 y22 y23 y24 y25 y26 y27 y28 y35 y36 y37 y38 y39 y40 y41 y42 y43:Value) (l:Array Bool) (A:Act) (W:World):Prop :=
  l.size=8∧∃ X:Nat→Value,A={ tmps:=rfaT x d m e j y0 y2 y3 y4 y5 y7 y10 y11 y12 y13 y14 y15 y16 y17 y18 y19 y20 y21 y22 y23 y24 y25 y26 y27 y28 y35 y36 y37 y38 y39 y40 y41 y42 y43 X,defers:=[] }∧N≤W.heap.size∧G W∧PV l 0 (X 29) (ptv p)∧PV l 1 (X 30) (.slice (some ⟨d,0,none⟩) m e)∧PV l 2 (X 31) (.int .i64 j)∧PV l 3 (X 32) (.pointer (some ⟨d,j * 3,none⟩))∧PV l 4 (X 33) (ptv q)∧PV l 5 (X 34) (ptv (sub p q))∧QA l W (X 9) 6 7 N ((sub p q))
set_option maxRecDepth 100000 in
set_option maxHeartbeats 4000000 in
theorem rfa_steps (G:World→Prop) (N:Nat) (x d m e j:Nat) (p q:P3) (y0 y2 y3 y4 y5 y7 y10 y11 y12 y13 y14 y15 y16 y17 y18 y19 y20 y21 y22 y23 y24 y25 y26 y27 y28 y35 y36 y37 y38 y39 y40 y41 y42 y43:Value) (Q:Exit→Act→World→Prop) (SB:Hid (BdP 4611686018427387904 (sub p q))) (HK:Hid ((j:Int) < (m:Int)∧0≤(j:Int))) (GC:Hid (∀ W:World,G W→W.cell? ⟨x,0,none⟩=some (.int .i64 p.1)∧W.cell? ⟨x,1,none⟩=some (.int .i64 p.2.1)∧W.cell? ⟨x,2,none⟩=some (.int .i64 p.2.2)∧W.cell? ⟨d,j * 3,none⟩=some (.int .i64 q.1)∧W.cell? ⟨d,j * 3 + 1,none⟩=some (.int .i64 q.2.1)∧W.cell? ⟨d,j * 3 + 1 + 1,none⟩=some (.int .i64 q.2.2))) (GI:Hid (∀ W W':World,Below N W W'→G W→G W')) :
    allOps (fun i o=>∀ (l:Array Bool) (A:Act) (W:World),rfaI G N x d m e j p q y0 y2 y3 y4 y5 y7 y10 y11 y12 y13 y14 y15 y16 y17 y18 y19 y20 y21 y22 y23 y24 y25 y26 y27 y28 y35 y36 y37 y38 y39 y40 y41 y42 y43 l A W→l.getD i true=false→(∀ e ∈ o.after,Region.binds .any e=true→l.getD e.on false=true)→∀ K':Act→World→Prop,(∀ A' W',rfaI G N x d m e j p q y0 y2 y3 y4 y5 y7 y10 y11 y12 y13 y14 y15 y16 y17 y18 y19 y20 y21 y22 y23 y24 y25 y26 y27 y28 y35 y36 y37 y38 y39 y40 y41 y42 y43 (l.setIfInBounds i true) A' W'→K' A' W')→if Region.wanted o (yielded rfaOps A.tmps)=true then Oper.wp Tryz.prog o A W K' Q else K' (A.put o.dst undef) W) 0 rfaOps.toList:=by
  simp only [rfaOps,allOps]
  refine ⟨?_,?_,?_,?_,?_,?_,?_,?_,trivial⟩
  · rintro l A W ⟨hl,X,rfl,hN,g,F⟩ h1 hp K hK
    obtain ⟨c0,c1,c2,d0,d1,d2⟩:=GC.out W g
    rw [rfaT_eq]
    have g':=Lib.hid g
    have F':=Lib.hid F;clear F g
    have hN':=Lib.hid hN;clear hN;have hl':=Lib.hid hl;clear hl;have h1':=Lib.hid h1;clear h1;have hp':=Lib.hid hp;clear hp;have hK':=Lib.hid hK;clear hK
    go_simp
    have hK:=hK'.out;have hN:=hN'.out;have hl:=hl'.out;have h1:=h1'.out
    obtain ⟨p0,p1,p2,p3,p4,p5,qa0⟩:=F'.out
    have g:=g'.out
    refine hK _ _ ⟨by simpa using hl,(upd X 29 (ptv p)),rfl,hN,g,PV.made rfl,p1.k,p2.k,p3.k,p4.k,p5.k,qa0.keep (by decide) (by decide) (fun _ _ h=>h)⟩
  · rintro l A W ⟨hl,X,rfl,hN,g,F⟩ h1 hp K hK
    rw [rfaT_eq]
    have g':=Lib.hid g
    have F':=Lib.hid F;clear F g
    have hN':=Lib.hid hN;clear hN;have hl':=Lib.hid hl;clear hl;have h1':=Lib.hid h1;clear h1;have hp':=Lib.hid hp;clear hp;have hK':=Lib.hid hK;clear hK
    go_simp
    have hK:=hK'.out;have hN:=hN'.out;have hl:=hl'.out;have h1:=h1'.out
    obtain ⟨p0,p1,p2,p3,p4,p5,qa0⟩:=F'.out
    have g:=g'.out
    refine hK _ _ ⟨by simpa using hl,(upd X 30 (.slice (some ⟨d,0,none⟩) m e)),rfl,hN,g,p0.k,PV.made rfl,p2.k,p3.k,p4.k,p5.k,qa0.keep (by decide) (by decide) (fun _ _ h=>h)⟩
  · rintro l A W ⟨hl,X,rfl,hN,g,F⟩ h1 hp K hK
    rw [rfaT_eq]
    have g':=Lib.hid g
    have F':=Lib.hid F;clear F g
    have hN':=Lib.hid hN;clear hN;have hl':=Lib.hid hl;clear hl;have h1':=Lib.hid h1;clear h1;have hp':=Lib.hid hp;clear hp;have hK':=Lib.hid hK;clear hK
    go_simp
    have hK:=hK'.out;have hN:=hN'.out;have hl:=hl'.out;have h1:=h1'.out
    obtain ⟨p0,p1,p2,p3,p4,p5,qa0⟩:=F'.out
    have g:=g'.out
    refine hK _ _ ⟨by simpa using hl,(upd X 31 (.int .i64 j)),rfl,hN,g,p0.k,p1.k,PV.made rfl,p3.k,p4.k,p5.k,qa0.keep (by decide) (by decide) (fun _ _ h=>h)⟩
  · rintro l A W ⟨hl,X,rfl,hN,g,F⟩ h1 hp K hK
    have e1:=F.2.1 (hp ⟨1,.data⟩ (by simp) rfl)
    have e2:=F.2.2.1 (hp ⟨2,.data⟩ (by simp) rfl)
    obtain ⟨hk1,hk2⟩:=HK.out
    rw [rfaT_eq]
    have g':=Lib.hid g
    have F':=Lib.hid F;clear F g
    have hN':=Lib.hid hN;clear hN;have hl':=Lib.hid hl;clear hl;have h1':=Lib.hid h1;clear h1;have hp':=Lib.hid hp;clear hp;have hK':=Lib.hid hK;clear hK
    go_simp
    have hK:=hK'.out;have hN:=hN'.out;have hl:=hl'.out;have h1:=h1'.out
    obtain ⟨p0,p1,p2,p3,p4,p5,qa0⟩:=F'.out
    have g:=g'.out
    refine hK _ _ ⟨by simpa using hl,(upd (upd (upd X 30 (.slice (some ⟨d,0,none⟩) m e)) 31 (.int .i64 j)) 32 (.pointer (some ⟨d,j * 3,none⟩))),rfl,hN,g,p0.k,PV.made rfl,PV.made rfl,PV.made rfl,p4.k,p5.k,qa0.keep (by decide) (by decide) (fun _ _ h=>h)⟩
  · rintro l A W ⟨hl,X,rfl,hN,g,F⟩ h1 hp K hK
    have e3:=F.2.2.2.1 (hp ⟨3,.data⟩ (by simp) rfl)
    obtain ⟨c0,c1,c2,d0,d1,d2⟩:=GC.out W g
    rw [rfaT_eq]
    have g':=Lib.hid g
    have F':=Lib.hid F;clear F g
    have hN':=Lib.hid hN;clear hN;have hl':=Lib.hid hl;clear hl;have h1':=Lib.hid h1;clear h1;have hp':=Lib.hid hp;clear hp;have hK':=Lib.hid hK;clear hK
    go_simp
    have hK:=hK'.out;have hN:=hN'.out;have hl:=hl'.out;have h1:=h1'.out
    obtain ⟨p0,p1,p2,p3,p4,p5,qa0⟩:=F'.out
    have g:=g'.out
    refine hK _ _ ⟨by simpa using hl,(upd (upd X 32 (.pointer (some ⟨d,j * 3,none⟩))) 33 (ptv q)),rfl,hN,g,p0.k,p1.k,p2.k,PV.made rfl,PV.made rfl,p5.k,qa0.keep (by decide) (by decide) (fun _ _ h=>h)⟩
  · rintro l A W ⟨hl,X,rfl,hN,g,F⟩ h1 hp K hK
    have e0:=F.1 (hp ⟨0,.data⟩ (by simp) rfl)
    have e4:=F.2.2.2.2.1 (hp ⟨4,.data⟩ (by simp) rfl)
    rw [rfaT_eq]
    have g':=Lib.hid g
    have F':=Lib.hid F;clear F g
    have hN':=Lib.hid hN;clear hN;have hl':=Lib.hid hl;clear hl;have h1':=Lib.hid h1;clear h1;have hp':=Lib.hid hp;clear hp;have hK':=Lib.hid hK;clear hK
    go_simp
    go_at_call 142
    refine (rminus_any p q _ SB.out).mono ?_
    rintro e W1 ⟨rfl,hb⟩
    (try dsimp only)
    have hK:=hK'.out;have hN:=hN'.out;have hl:=hl'.out;have h1:=h1'.out
    obtain ⟨p0,p1,p2,p3,p4,p5,qa0⟩:=F'.out
    have g:=g'.out
    refine hK _ _ ⟨by simpa using hl,(upd (upd (upd X 29 (ptv p)) 33 (ptv q)) 34 (ptv (sub p q))),rfl,Nat.le_trans hN hb.size,GI.out _ _ (hb.mono hN) g,PV.made rfl,p1.k,p2.k,p3.k,PV.made rfl,PV.made rfl,qa0.keep (by decide) (by decide) (fun _ _ h=>own_below h hb)⟩
  · rintro l A W ⟨hl,X,rfl,hN,g,F⟩ h1 hp K hK
    rw [rfaT_eq]
    have g':=Lib.hid g
    have F':=Lib.hid F;clear F g
    have hN':=Lib.hid hN;clear hN;have hl':=Lib.hid hl;clear hl;have h1':=Lib.hid h1;clear h1;have hp':=Lib.hid hp;clear hp;have hK':=Lib.hid hK;clear hK
    go_simp
    have hK:=hK'.out;have hN:=hN'.out;have hl:=hl'.out;have h1:=h1'.out
    obtain ⟨p0,p1,p2,p3,p4,p5,qa0⟩:=F'.out
    have g:=g'.out
    refine hK _ _ ⟨by simpa using hl,(upd X 9 (.pointer (some ⟨W.heap.size,0,none⟩))),rfl,(by simp;omega),GI.out _ _ (((Below.refl _ W).alloc (Nat.le_refl _) _).mono hN) g,p0.k,p1.k,p2.k,p3.k,p4.k,p5.k,qa0.made (by decide) (by rw [hl];decide) h1 hN (own_new W (0,0,0) _)⟩
  · rintro l A W ⟨hl,X,rfl,hN,g,F⟩ h1 hp K hK
    have la:=hp ⟨6,.data⟩ (by simp) rfl
    have e5:=F.2.2.2.2.2.1 (hp ⟨5,.data⟩ (by simp) rfl)
    obtain ⟨b',v',e2,hb',ow,_⟩:=F.2.2.2.2.2.2.2 la
    obtain ⟨o0,o1,o2,o3,o4,o5,o6⟩:=id ow
    rw [rfaT_eq]
    have g':=Lib.hid g
    have F':=Lib.hid F;clear F g
    have hN':=Lib.hid hN;clear hN;have hl':=Lib.hid hl;clear hl;have h1':=Lib.hid h1;clear h1;have hp':=Lib.hid hp;clear hp;have hK':=Lib.hid hK;clear hK
    have la':=Lib.hid la;clear la;have hb'':=Lib.hid hb';clear hb';have ow':=Lib.hid ow;clear ow
    go_simp
    have hK:=hK'.out;have hN:=hN'.out;have hl:=hl'.out;have h1:=h1'.out
    obtain ⟨p0,p1,p2,p3,p4,p5,qa0⟩:=F'.out
    have g:=g'.out
    have la:=la'.out;have hb':=hb''.out;have ow:=ow'.out
    refine hK _ _ ⟨by simpa using hl,(upd (upd X 34 (ptv (sub p q))) 9 (.pointer (some ⟨b',0,none⟩))),rfl,(by simpa using hN),GI.out _ _ (below_set3 _ _ _ hb') g,p0.k,p1.k,p2.k,p3.k,p4.k,PV.made rfl,QA.put (by decide) la rfl hb' (own_put ow _)⟩
set_option maxRecDepth 100000 in
set_option maxHeartbeats 4000000 in
theorem rfa_reg (G:World→Prop) (N:Nat) (x d m e j:Nat) (p q:P3) {y0 y2 y3 y4 y5 y7 y10 y11 y12 y13 y14 y15 y16 y17 y18 y19 y20 y21 y22 y23 y24 y25 y26 y27 y28 y35 y36 y37 y38 y39 y40 y41 y42 y43 x9 x29 x30 x31 x32 x33 x34:Value} {W:World} {Q:Exit→Act→World→Prop} (SB:Hid (BdP 4611686018427387904 (sub p q))) (HK:Hid ((j:Int) < (m:Int)∧0≤(j:Int))) (GC:Hid (∀ W:World,G W→W.cell? ⟨x,0,none⟩=some (.int .i64 p.1)∧W.cell? ⟨x,1,none⟩=some (.int .i64 p.2.1)∧W.cell? ⟨x,2,none⟩=some (.int .i64 p.2.2)∧W.cell? ⟨d,j * 3,none⟩=some (.int .i64 q.1)∧W.cell? ⟨d,j * 3 + 1,none⟩=some (.int .i64 q.2.1)∧W.cell? ⟨d,j * 3 + 1 + 1,none⟩=some (.int .i64 q.2.2))) (GI:Hid (∀ W W':World,Below N W W'→G W→G W')) (hN:N≤W.heap.size) (g0:G W.drew)
    (hK:∀ (x29 x30 x31 x32 x33 x34:Value) (b0:Nat) (W':World),N≤W'.heap.size→G W'→N≤b0→Own W' b0 ((sub p q))→Q .normal { tmps:=#[y0,.slice (some ⟨d,0,none⟩) m e,y2,y3,y4,y5,.int .i64 j,y7,.pointer (some ⟨x,0,none⟩),.pointer (some ⟨b0,0,none⟩),y10,y11,y12,y13,y14,y15,y16,y17,y18,y19,y20,y21,y22,y23,y24,y25,y26,y27,y28,x29,x30,x31,x32,x33,x34,y35,y36,y37,y38,y39,y40,y41,y42,y43],defers:=[] } W') :
    Code.wp Tryz.prog (.region 8 rfaOps true) Q { tmps:=#[y0,.slice (some ⟨d,0,none⟩) m e,y2,y3,y4,y5,.int .i64 j,y7,.pointer (some ⟨x,0,none⟩),x9,y10,y11,y12,y13,y14,y15,y16,y17,y18,y19,y20,y21,y22,y23,y24,y25,y26,y27,y28,x29,x30,x31,x32,x33,x34,y35,y36,y37,y38,y39,y40,y41,y42,y43],defers:=[] } W:=by
  refine wp_region_inv (rfaI G N x d m e j p q y0 y2 y3 y4 y5 y7 y10 y11 y12 y13 y14 y15 y16 y17 y18 y19 y20 y21 y22 y23 y24 y25 y26 y27 y28 y35 y36 y37 y38 y39 y40 y41 y42 y43) (by kernel_rfl) ?_ (rfa_steps G N x d m e j p q y0 y2 y3 y4 y5 y7 y10 y11 y12 y13 y14 y15 y16 y17 y18 y19 y20 y21 y22 y23 y24 y25 y26 y27 y28 y35 y36 y37 y38 y39 y40 y41 y42 y43 Q SB HK GC GI) ?_
  · exact ⟨by simp [rfaOps],fun i=>(#[undef,undef,undef,undef,undef,undef,undef,undef,undef,x9,undef,undef,undef,undef,undef,undef,undef,undef,undef,undef,undef,undef,undef,undef,undef,undef,undef,undef,undef,x29,x30,x31,x32,x33,x34,undef,undef,undef,undef,undef,undef,undef,undef,undef]:Array Value).getD i undef,rfl,hN,g0,PV.nought,PV.nought,PV.nought,PV.nought,PV.nought,PV.nought,QA.nought⟩
  · rintro l A W ⟨hl,X,rfl,hN,g,p0,p1,p2,p3,p4,p5,qa0⟩ hr
    unfold rfaOps at hr
    have l0:=ready_end hr 0 (by rw [hl];decide) rfl (fun e he hbn=>by
      simp at he
      (try (repeat (rcases he with rfl | he;· first | assumption | exact absurd hbn (by decide))))
      (try (first | exact he.elim | (subst he;first | assumption | exact absurd hbn (by decide)))))
    have l1:=ready_end hr 1 (by rw [hl];decide) rfl (fun e he hbn=>by
      simp at he
      (try (repeat (rcases he with rfl | he;· first | assumption | exact absurd hbn (by decide))))
      (try (first | exact he.elim | (subst he;first | assumption | exact absurd hbn (by decide)))))
    have l2:=ready_end hr 2 (by rw [hl];decide) rfl (fun e he hbn=>by
      simp at he
      (try (repeat (rcases he with rfl | he;· first | assumption | exact absurd hbn (by decide))))
      (try (first | exact he.elim | (subst he;first | assumption | exact absurd hbn (by decide)))))
    have l3:=ready_end hr 3 (by rw [hl];decide) rfl (fun e he hbn=>by
      simp at he
      (try (repeat (rcases he with rfl | he;· first | assumption | exact absurd hbn (by decide))))
      (try (first | exact he.elim | (subst he;first | assumption | exact absurd hbn (by decide)))))
    have l4:=ready_end hr 4 (by rw [hl];decide) rfl (fun e he hbn=>by
      simp at he
      (try (repeat (rcases he with rfl | he;· first | assumption | exact absurd hbn (by decide))))
      (try (first | exact he.elim | (subst he;first | assumption | exact absurd hbn (by decide)))))
    have l5:=ready_end hr 5 (by rw [hl];decide) rfl (fun e he hbn=>by
      simp at he
      (try (repeat (rcases he with rfl | he;· first | assumption | exact absurd hbn (by decide))))
      (try (first | exact he.elim | (subst he;first | assumption | exact absurd hbn (by decide)))))
    have l6:=ready_end hr 6 (by rw [hl];decide) rfl (fun e he hbn=>by
      simp at he
      (try (repeat (rcases he with rfl | he;· first | assumption | exact absurd hbn (by decide))))
      (try (first | exact he.elim | (subst he;first | assumption | exact absurd hbn (by decide)))))
    have l7:=ready_end hr 7 (by rw [hl];decide) rfl (fun e he hbn=>by
      simp at he
      (try (repeat (rcases he with rfl | he;· first | assumption | exact absurd hbn (by decide))))
      (try (first | exact he.elim | (subst he;first | assumption | exact absurd hbn (by decide)))))
    obtain ⟨b0,v0,e0x,n0,o0,t0⟩:=qa0.2 l6
    obtain rfl:=t0 l7
    have z:=hK (X 29) (X 30) (X 31) (X 32) (X 33) (X 34) b0 W hN g n0 o0
    rw [← e0x] at z
    exact z
set_option maxRecDepth 100000 in
set_option maxHeartbeats 4000000 in
theorem rfar_any (a b c:P3) (d m e:Nat) (Q:Nat→P3) (w:World) (r:RwG w d m Q) (hm:m≤1000) (hb:∀ i,i < 3→∀ j,j < m→BdP 1000000 (sub (P3F (a,b,c) i) (Q j))) :
    Calls Tryz.prog 94 #[pnv a b c,.slice (some ⟨d,0,none⟩) m e] w fun e w'=>e=.returned (.int .i64 (cG (P3F (a,b,c)) Q 3 m))∧Below w.heap.size w w':=by
  have RQ:=Lib.hid r
  have hdl:=r.1
  have HB:=Lib.hid hb
  have X0:=Lib.hid (pan_new w a b c 42)
  have B0:=Lib.hid (show Below w.heap.size w (w.alloc (pnc a b c 42)) from (Below.refl _ w).alloc (Nat.le_refl _) _)
  have hm':(m:Int)≤1000:=by omega
  clear r hb
  go_enter Tryz.func94,Tryz.ntmps94
  go_wp2
  go_loopw [5,6] (fun mv kv wr=>∃ j:Nat,j≤m∧kv=.int .i64 j∧mv=.int .i64 (cG (P3F (a,b,c)) Q 3 j)∧Pan wr w.heap.size a b c∧Below w.heap.size w wr) (fun _ kv _=>m - (intOf kv).toNat)
  case atStart=>exact ⟨0,Nat.zero_le _,rfl,rfl,X0.out,B0.out⟩
  case round =>
    obtain ⟨j,hj,rfl,rfl,g1,BB⟩:=hrel
    have G1:=Lib.hid g1
    have B1:=Lib.hid BB
    clear g1 BB X0 B0
    by_cases hlt:j < m
    · have hj1:(j:Int) < (m:Int):=by omega
      have hj0:0≤(j:Int):=by omega
      have NX:=Lib.hid (show cG (P3F (a,b,c)) Q 3 (j + 1)=cI (P3F (a,b,c)) (Q j) 3 (cG (P3F (a,b,c)) Q 3 j) from rfl)
      have HBj:=Lib.hid (fun i hi=>HB.out i hi j hlt)
      have RJ:=Lib.hid (RQ.out.2 j hlt)
      obtain ⟨x0,x1,x2,x3,x4,x5,x6,x7,x8,xs⟩:=id G1.out
      generalize cG (P3F (a,b,c)) Q 3 j=y at *
      have R0:=Lib.hid (rwg_new3 wr a b c 24)
      generalize wr=wo at *
      go_wp2_with fail
      go_loopw [5,25] (fun mv kv wr=>∃ k:Nat,k≤3∧kv=.int .i64 k∧mv=.int .i64 (cI (P3F (a,b,c)) (Q j) k y)∧Pan wr w.heap.size a b c∧RwG wr wo.heap.size 3 (P3F (a,b,c))∧Below w.heap.size w wr) (fun _ kv _=>3 - (intOf kv).toNat)
      case atStart=>exact ⟨0,by omega,rfl,rfl,pan_alloc G1.out _,R0.out,balloc B1.out _⟩
      case round =>
        obtain ⟨k,hk,rfl,rfl,g2,r2,BB2⟩:=hrel
        have G2:=Lib.hid g2
        have R2:=Lib.hid r2
        have B2:=Lib.hid BB2
        clear g2 r2 BB2 R0 x0 x1 x2 x3 x4 x5 x6 x7 x8
        by_cases hkl:k < 3
        · have hk1:(k:Int) < 3:=by omega
          have hk0:0≤(k:Int):=by omega
          obtain ⟨c0,c1,c2⟩:=R2.out.2 k hkl
          have cz:=R2.out.1
          have rq:=rwg_in RQ.out B2.out hdl
          obtain ⟨d0,d1,d2⟩:=rq.2 j hlt
          have dz:=rq.1
          have bd:=HBj.out k hkl
          have NY:=Lib.hid (show cI (P3F (a,b,c)) (Q j) (k + 1) y=Sp.mx (cI (P3F (a,b,c)) (Q j) k y) (dot (sub (P3F (a,b,c) k) (Q j)) (sub (P3F (a,b,c) k) (Q j))) from rfl)
          have MB:=Lib.hid (show BdP 4611686018427387904 (sub (P3F (a,b,c) k) (Q j)) from bd.mono (by decide))
          have SCc:=Lib.hid (fun W=>rdot_any (sub (P3F (a,b,c) k) (Q j)) (sub (P3F (a,b,c) k) (Q j)) W (pw_sq bd))
          clear rq bd
          generalize cI (P3F (a,b,c)) (Q j) k y=y1 at *
          generalize hp:P3F (a,b,c) k=p at *
          generalize hq:Q j=q at *
          generalize dot (sub p q) (sub p q)=y2 at *
          clear hp
          have nz0:¬ (wr.heap.size=d):=by omega
          have nz1:¬ (d=wr.heap.size):=by omega
          have OX:=Lib.hid (own_new wr p 24)
          have RDn:=Lib.hid (rwg_in RQ.out (balloc B2.out (ptc p 24)) hdl)
          have dlt:d < wr.heap.size:=dz
          go_wp2_with fail
          rename_i K8 hK8
          have HK8:=Lib.hid hK8
          clear hK8 c0 c1 c2 d0 d1 d2 nz0 nz1
          refine rfa_reg (fun W=>Below (wr.heap.size + 1) (wr.alloc (ptc p 24)) W) (wr.heap.size + 1) wr.heap.size d m e j p q (Lib.hid MB.out) (Lib.hid ⟨hj1,hj0⟩) (Lib.hid fun W h=>?_) (Lib.hid fun W W' hb h=>h.trans hb) (by simp) (Below.drew (Below.refl _ _)) ?_
          · have o:=own_in' OX.out h (by omega)
            have r:=(rwg_in RDn.out h (by omega)).2 j hlt
            rw [hq] at r
            exact ⟨o.1,o.2.1,o.2.2.1,r.1,r.2.1,r.2.2⟩
          intro x29 x30 x31 x32 x33 x34 z w3 hN3 g3 nz oz
          have G3:=Lib.hid g3
          obtain ⟨o0,o1,o2,_⟩:=id oz
          clear g3 oz
          refine HK8.out _ _ ?_
          clear HK8
          go_wp2_with fail
          with_reducible refine (SCc.out _).mono ?_
          rintro e w2 ⟨rfl,hb2⟩
          have hB:Below wr.heap.size wr w2:=(((Below.refl wr.heap.size wr).alloc (Nat.le_refl _) _).trans (G3.out.mono (Nat.le_succ _))).trans (hb2.mono (Nat.le_trans (Nat.le_succ _) hN3))
          by_cases z:y1 < y2
          · have MX:Sp.mx y1 y2=y2:=by rw [Sp.mx_eq];omega
            go_wp2_with fail
            go_roundw
            case rel=>exact ⟨k + 1,by omega,by go_num,by rw [NY.out,MX],pan_below G2.out hB,rwg_below R2.out hB,bstep B2.out hB⟩
            case measure=>simp [intOf];omega
          · have MX:Sp.mx y1 y2=y1:=by rw [Sp.mx_eq];omega
            go_wp2_with fail
            go_roundw
            case rel=>exact ⟨k + 1,by omega,by go_num,by rw [NY.out,MX],pan_below G2.out hB,rwg_below R2.out hB,bstep B2.out hB⟩
            case measure=>simp [intOf];omega
        · obtain rfl:k=3:=by omega
          go_wp2_with fail
          go_roundw
          case rel=>exact ⟨j + 1,by omega,by go_num,by rw [NX.out],G2.out,B2.out⟩
          case measure=>simp [intOf];omega
    · obtain rfl:j=m:=by omega
      go_wp2
      go_ret
      exact ⟨rfl,B1.out⟩
end Go.Proofs.YtciimaojoococaaGreat
