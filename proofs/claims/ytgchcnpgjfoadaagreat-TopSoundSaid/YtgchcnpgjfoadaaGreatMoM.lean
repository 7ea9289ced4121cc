import Derived.Test.YtgchcnpgjfoadaaGreatPtM
import Derived.Test.YtgchcnpgjfoadaaGreatVecM
import Derived.RegionTactic
import Derived.BigRegion
import Derived.LoopTactic
import Derived.Deep.DeepFit
namespace Go.Proofs.YtgchcnpgjfoadaaGreat
open Go.ChangeShapes Go.WideShapes Go.RowKit
open Sh
theorem finr_any (n lo hi:Int) (w:World) :
    Calls Tryz.prog 73 #[.int .i64 n,.int .i64 lo,.int .i64 hi] w fun e w'=>e=.returned (.bool (rngB n lo hi))∧w=w':=by
  by_cases h:lo≤n
  · by_cases k:n≤hi
    · rw [rngB_iff.2 ⟨h,k⟩]
      go_enter Tryz.func73,Tryz.ntmps73
      go_wp2
      go_ret
      exact ⟨rfl,rfl⟩
    · rw [rngB_not.2 (fun x=>k x.2)]
      have k':decide (n≤hi)=false:=decide_eq_false k
      clear k
      go_enter Tryz.func73,Tryz.ntmps73
      go_wp2
      go_ret
      exact ⟨rfl,rfl⟩
  · rw [rngB_not.2 (fun x=>h x.1)]
    go_enter Tryz.func73,Tryz.ntmps73
    go_wp2
    go_ret
    exact ⟨rfl,rfl⟩
end Go.Proofs.YtgchcnpgjfoadaaGreat
namespace Go.Proofs.YtgchcnpgjfoadaaGreat
open Go.ChangeShapes Go.WideShapes Go.RowKit
open Sh
attribute [local go_sem 1000000] run_min_mn run_max_mx
def szI (n:Int):Int:=Sp.mx n (wrap64 (-n))
theorem szI_le {n L:Int} (h0:0≤L) (hL:L≤4611686018427387904):(szI n≤L∧-L≤n) ↔ (-L≤n∧n≤L):=by
  unfold szI Sp.mx
  constructor
  · rintro ⟨h,k⟩
    refine ⟨k,?_⟩
    split at h <;> omega
  · rintro ⟨h,k⟩
    refine ⟨?_,h⟩
    have e:wrap64 (-n)=-n:=IntWalk.wrap64_in _ (by omega)
    rw [e]
    split <;> omega
theorem size_any (n:Int) (w:World) :
    Calls Tryz.prog 82 #[.int .i64 n] w fun e w'=>e=.returned (.int .i64 (szI n))∧w=w':=by
  go_enter Tryz.func82,Tryz.ntmps82
  go_wp2
  go_ret
  exact ⟨rfl,rfl⟩
theorem inP_sz (a:P3) (L:Int) (h0:0≤L) (hL:L≤4611686018427387904):inP L a=(decide (szI a.1≤L) && decide (szI a.2.1≤L) && decide (szI a.2.2≤L) && decide (-L≤a.1) && decide (-L≤a.2.1) && decide (-L≤a.2.2)):=by
  have x:=szI_le (n:=a.1) h0 hL
  have y:=szI_le (n:=a.2.1) h0 hL
  have z:=szI_le (n:=a.2.2) h0 hL
  unfold inP
  rw [Bool.eq_iff_iff]
  simp only [decide_eq_true_eq,Bool.and_eq_true]
  constructor
  · rintro ⟨h1,h2,h3,h4,h5,h6⟩
    exact ⟨⟨⟨⟨⟨(x.2 ⟨h1,h2⟩).1,(y.2 ⟨h3,h4⟩).1⟩,(z.2 ⟨h5,h6⟩).1⟩,h1⟩,h3⟩,h5⟩
  · rintro ⟨⟨⟨⟨⟨h1,h2⟩,h3⟩,h4⟩,h5⟩,h6⟩
    exact ⟨h4,(x.1 ⟨h1,h4⟩).2,h5,(y.1 ⟨h2,h5⟩).2,h6,(z.1 ⟨h3,h6⟩).2⟩
set_option maxHeartbeats 1000000 in
theorem small_any (a:P3) (L:Int) (w:World) (b1:0≤L) (b2:L≤4611686018427387904) :
    Calls Tryz.prog 58 #[ptv a,.int .i64 L] w fun e w'=>e=.returned (.bool (inP L a))∧Below w.heap.size w w':=by
  cases h0:decide (szI a.1≤L) with
  | false =>
    rw [inP_sz a L b1 b2,h0]
    go_enter Tryz.func58,Tryz.ntmps58
    go_wp2_with (go_at_call 82;(with_reducible refine (size_any _ _).mono ?_);rintro e w' ⟨rfl,rfl⟩)
    go_ret
    exact ⟨rfl,by (repeat' (first | exact Below.refl _ _ | refine Below.setCell ?_ (by simp <;> omega) _ | refine balloc ?_ _ | refine Below.drew ?_ | refine bdrewN ?_ _))⟩
  | true =>
    cases h1:decide (szI a.2.1≤L) with
    | false =>
      rw [inP_sz a L b1 b2,h0,h1]
      go_enter Tryz.func58,Tryz.ntmps58
      go_wp2_with (go_at_call 82;(with_reducible refine (size_any _ _).mono ?_);rintro e w' ⟨rfl,rfl⟩)
      go_ret
      exact ⟨rfl,by (repeat' (first | exact Below.refl _ _ | refine Below.setCell ?_ (by simp <;> omega) _ | refine balloc ?_ _ | refine Below.drew ?_ | refine bdrewN ?_ _))⟩
    | true =>
      cases h2:decide (szI a.2.2≤L) with
      | false =>
        rw [inP_sz a L b1 b2,h0,h1,h2]
        go_enter Tryz.func58,Tryz.ntmps58
        go_wp2_with (go_at_call 82;(with_reducible refine (size_any _ _).mono ?_);rintro e w' ⟨rfl,rfl⟩)
        go_ret
        exact ⟨rfl,by (repeat' (first | exact Below.refl _ _ | refine Below.setCell ?_ (by simp <;> omega) _ | refine balloc ?_ _ | refine Below.drew ?_ | refine bdrewN ?_ _))⟩
      | true =>
        cases h3:decide (-L≤a.1) with
        | false =>
          rw [inP_sz a L b1 b2,h0,h1,h2,h3]
          go_enter Tryz.func58,Tryz.ntmps58
          go_wp2_with (go_at_call 82;(with_reducible refine (size_any _ _).mono ?_);rintro e w' ⟨rfl,rfl⟩)
          go_ret
          exact ⟨rfl,by (repeat' (first | exact Below.refl _ _ | refine Below.setCell ?_ (by simp <;> omega) _ | refine balloc ?_ _ | refine Below.drew ?_ | refine bdrewN ?_ _))⟩
        | true =>
          cases h4:decide (-L≤a.2.1) with
          | false =>
            rw [inP_sz a L b1 b2,h0,h1,h2,h3,h4]
            go_enter Tryz.func58,Tryz.ntmps58
            go_wp2_with (go_at_call 82;(with_reducible refine (size_any _ _).mono ?_);rintro e w' ⟨rfl,rfl⟩)
            go_ret
            exact ⟨rfl,by (repeat' (first | exact Below.refl _ _ | refine Below.setCell ?_ (by simp <;> omega) _ | refine balloc ?_ _ | refine Below.drew ?_ | refine bdrewN ?_ _))⟩
          | true =>
            cases h5:decide (-L≤a.2.2) with
            | false =>
              rw [inP_sz a L b1 b2,h0,h1,h2,h3,h4,h5]
              go_enter Tryz.func58,Tryz.ntmps58
              go_wp2_with (go_at_call 82;(with_reducible refine (size_any _ _).mono ?_);rintro e w' ⟨rfl,rfl⟩)
              go_ret
              exact ⟨rfl,by (repeat' (first | exact Below.refl _ _ | refine Below.setCell ?_ (by simp <;> omega) _ | refine balloc ?_ _ | refine Below.drew ?_ | refine bdrewN ?_ _))⟩
            | true =>
              rw [inP_sz a L b1 b2,h0,h1,h2,h3,h4,h5]
              go_enter Tryz.func58,Tryz.ntmps58
              go_wp2_with (go_at_call 82;(with_reducible refine (size_any _ _).mono ?_);rintro e w' ⟨rfl,rfl⟩)
              go_ret
              exact ⟨rfl,by (repeat' (first | exact Below.refl _ _ | refine Below.setCell ?_ (by simp <;> omega) _ | refine balloc ?_ _ | refine Below.drew ?_ | refine bdrewN ?_ _))⟩
theorem minus4_any (a b:P3) (w:World) (h:BdP 4611686018427387904 (sub a b)) :
    Calls Tryz.prog 85 #[ptv a,ptv b] w fun e w'=>e=.returned (ptv (sub a b))∧Below w.heap.size w w':=by
  simp only [BdP,sub] at h
  obtain ⟨h1,h2,h3,h4,h5,h6⟩:=h
  go_enter Tryz.func85,Tryz.ntmps85
  go_wp2
  refine bodyPost_ret (v:=ptv (sub a b)) (by rw [results_cell rfl];go_simp;exact ⟨rfl,rfl,rfl⟩) rfl ⟨rfl,?_⟩
  (repeat' (first | exact Below.refl _ _ | refine Below.setCell ?_ (by simp <;> omega) _ | refine balloc ?_ _ | refine Below.drew ?_ | refine bdrewN ?_ _))
theorem square4_any (a:P3) (w:World) (h:BdP 1152921504606846976 (pw a a)) :
    Calls Tryz.prog 83 #[ptv a] w fun e w'=>e=.returned (.int .i64 (sq a))∧Below w.heap.size w w':=by
  simp only [BdP,pw] at h
  obtain ⟨h1,h2,h3,h4,h5,h6⟩:=h
  go_enter Tryz.func83,Tryz.ntmps83
  go_wp2
  go_ret
  exact ⟨rfl,by (repeat' (first | exact Below.refl _ _ | refine Below.setCell ?_ (by simp <;> omega) _ | refine balloc ?_ _ | refine Below.drew ?_ | refine bdrewN ?_ _))⟩
end Go.Proofs.YtgchcnpgjfoadaaGreat
namespace Go.Proofs.YtgchcnpgjfoadaaGreat
open Go.ChangeShapes Go.WideShapes Go.RowKit
open Sh
end Go.Proofs.YtgchcnpgjfoadaaGreat
namespace Go.Proofs.YtgchcnpgjfoadaaGreat
open Go.ChangeShapes Go.WideShapes Go.RowKit
open Sh
end Go.Proofs.YtgchcnpgjfoadaaGreat
namespace Go.Proofs.YtgchcnpgjfoadaaGreat
open Go.ChangeShapes Go.WideShapes Go.RowKit
open Sh
abbrev chv (q:Ch):Value:=.agg #[.int .i64 q.1.1.1,.int .i64 q.1.1.2.1,.int .i64 q.1.1.2.2,.int .i64 q.1.2.1.1,.int .i64 q.1.2.1.2.1,.int .i64 q.1.2.1.2.2,.int .i64 q.1.2.2.1,.int .i64 q.1.2.2.2.1,.int .i64 q.1.2.2.2.2,.int .i64 q.2]
abbrev chb (q:Ch) (t:TypeId):Obj:=.cells #[.int .i64 q.1.1.1,.int .i64 q.1.1.2.1,.int .i64 q.1.1.2.2,.int .i64 q.1.2.1.1,.int .i64 q.1.2.1.2.1,.int .i64 q.1.2.1.2.2,.int .i64 q.1.2.2.1,.int .i64 q.1.2.2.2.1,.int .i64 q.1.2.2.2.2,.int .i64 q.2] t
def RowC (w:World) (b off n:Nat) (Q:Nat→Ch):Prop :=
  b < w.heap.size∧∀ k,k < n→w.cell? ⟨b,off + k * 10,none⟩=some (.int .i64 (Q k).1.1.1)∧w.cell? ⟨b,off + k * 10 + 1,none⟩=some (.int .i64 (Q k).1.1.2.1)∧w.cell? ⟨b,off + k * 10 + 2,none⟩=some (.int .i64 (Q k).1.1.2.2)∧w.cell? ⟨b,off + k * 10 + 3,none⟩=some (.int .i64 (Q k).1.2.1.1)∧w.cell? ⟨b,off + k * 10 + 4,none⟩=some (.int .i64 (Q k).1.2.1.2.1)∧w.cell? ⟨b,off + k * 10 + 5,none⟩=some (.int .i64 (Q k).1.2.1.2.2)∧w.cell? ⟨b,off + k * 10 + 6,none⟩=some (.int .i64 (Q k).1.2.2.1)∧w.cell? ⟨b,off + k * 10 + 7,none⟩=some (.int .i64 (Q k).1.2.2.2.1)∧w.cell? ⟨b,off + k * 10 + 8,none⟩=some (.int .i64 (Q k).1.2.2.2.2)∧w.cell? ⟨b,off + k * 10 + 9,none⟩=some (.int .i64 (Q k).2)
theorem rowC_in {w wr:World} {B b off n:Nat} {Q:Nat→Ch} (r:RowC w b off n Q) (hb:Below B w wr) (h:b < B):RowC wr b off n Q:=by
  refine ⟨Nat.lt_of_lt_of_le r.1 hb.size,fun k hk=>?_⟩
  obtain ⟨h0,h1,h2,h3,h4,h5,h6,h7,h8,h9⟩:=r.2 k hk
  exact ⟨(hb.cell (p:=⟨b,_,none⟩) h).trans h0,(hb.cell (p:=⟨b,_,none⟩) h).trans h1,(hb.cell (p:=⟨b,_,none⟩) h).trans h2,(hb.cell (p:=⟨b,_,none⟩) h).trans h3,(hb.cell (p:=⟨b,_,none⟩) h).trans h4,(hb.cell (p:=⟨b,_,none⟩) h).trans h5,(hb.cell (p:=⟨b,_,none⟩) h).trans h6,(hb.cell (p:=⟨b,_,none⟩) h).trans h7,(hb.cell (p:=⟨b,_,none⟩) h).trans h8,(hb.cell (p:=⟨b,_,none⟩) h).trans h9⟩
theorem rowC_below {w w1:World} {b off n:Nat} {Q:Nat→Ch} (r:RowC w b off n Q) (hb:Below w.heap.size w w1):RowC w1 b off n Q:=rowC_in r hb r.1
def LstC (w:World) (a:Option Addr) (n:Nat) (Q:Nat→Ch):Prop:=0 < n→∃ b off,a=some ⟨b,off,none⟩∧RowC w b off n Q
theorem lstC_below {w w1:World} {a:Option Addr} {n:Nat} {Q:Nat→Ch} (h:LstC w a n Q) (hb:Below w.heap.size w w1):LstC w1 a n Q:=fun h0=>by
  obtain ⟨b,off,e,r⟩:=h h0
  exact ⟨b,off,e,rowC_below r hb⟩
def OwnCh (w:World) (b:Nat) (q:Ch):Prop:=(w.cell? ⟨b,0,none⟩=some (.int .i64 q.1.1.1)∧w.cell? ⟨b,1,none⟩=some (.int .i64 q.1.1.2.1)∧w.cell? ⟨b,2,none⟩=some (.int .i64 q.1.1.2.2)∧w.cell? ⟨b,3,none⟩=some (.int .i64 q.1.2.1.1)∧w.cell? ⟨b,4,none⟩=some (.int .i64 q.1.2.1.2.1)∧w.cell? ⟨b,5,none⟩=some (.int .i64 q.1.2.1.2.2)∧w.cell? ⟨b,6,none⟩=some (.int .i64 q.1.2.2.1)∧w.cell? ⟨b,7,none⟩=some (.int .i64 q.1.2.2.2.1)∧w.cell? ⟨b,8,none⟩=some (.int .i64 q.1.2.2.2.2)∧w.cell? ⟨b,9,none⟩=some (.int .i64 q.2))∧b < w.heap.size
theorem ownCh_new (w:World) (q:Ch) (t:TypeId):OwnCh (w.alloc (chb q t)) w.heap.size q:=⟨⟨by go_simp,by go_simp,by go_simp,by go_simp,by go_simp,by go_simp,by go_simp,by go_simp,by go_simp,by go_simp⟩,by simp⟩
theorem ownCh_below {w w1:World} {b:Nat} {q:Ch} (h:OwnCh w b q) (hb:Below w.heap.size w w1):OwnCh w1 b q:=by
  obtain ⟨⟨h0,h1,h2,h3,h4,h5,h6,h7,h8,h9⟩,l⟩:=h
  exact ⟨⟨(hb.cell (p:=⟨b,0,none⟩) l).trans h0,(hb.cell (p:=⟨b,1,none⟩) l).trans h1,(hb.cell (p:=⟨b,2,none⟩) l).trans h2,(hb.cell (p:=⟨b,3,none⟩) l).trans h3,(hb.cell (p:=⟨b,4,none⟩) l).trans h4,(hb.cell (p:=⟨b,5,none⟩) l).trans h5,(hb.cell (p:=⟨b,6,none⟩) l).trans h6,(hb.cell (p:=⟨b,7,none⟩) l).trans h7,(hb.cell (p:=⟨b,8,none⟩) l).trans h8,(hb.cell (p:=⟨b,9,none⟩) l).trans h9⟩,Nat.lt_of_lt_of_le l hb.size⟩
theorem int_ne0 {x:Int} (h:x ≠ 0):(x != 0)=true:=bne_iff_ne.2 h
theorem fvc_big (a:Option Addr) (n cap:Nat) (w:World) (h:96 < n) (hn:n≤140737488355328) :
    Calls Tryz.prog 50 #[.slice a n cap] w fun e w'=>e=.returned (.int .i64 4)∧Below w.heap.size w w':=by
  go_enter Tryz.func50,Tryz.ntmps50
  go_wp2
  go_ret
  exact ⟨rfl,Below.refl _ _⟩
theorem fvc_zero (a:Option Addr) (cap:Nat) (w:World) :
    Calls Tryz.prog 50 #[.slice a 0 cap] w fun e w'=>e=.returned (.int .i64 0)∧Below w.heap.size w w':=by
  go_enter Tryz.func50,Tryz.ntmps50
  go_wp2
  refine wp_loop_rounds 1 ?_
  rw [rounds_succ]
  go_wp2
  go_ret
  exact ⟨rfl,Below.refl _ _⟩
set_option maxRecDepth 100000 in
set_option maxHeartbeats 2000000 in
theorem fvc_row (b off n cap:Nat) (Q:Nat→Ch) (w:World) (r:RowC w b off n Q) (hn:n≤96) :
    Calls Tryz.prog 50 #[.slice (some ⟨b,off,none⟩) n cap] w fun e w'=>e=.returned (.int .i64 (chcodes Q n))∧Below w.heap.size w w':=by
  have hb1:b < w.heap.size:=r.1
  have R:=Lib.hid r
  have hn':(n:Int)≤96:=by omega
  obtain ⟨res,hres⟩:∃ res,chcodes Q n=res:=⟨_,rfl⟩
  have RES:=Lib.hid hres
  rw [hres]
  clear r hres
  go_enter Tryz.func50,Tryz.ntmps50
  go_wp2
  go_loopw [11] (fun kv wr=>∃ k:Nat,k≤n∧kv=.int .i64 k∧chcodes Q k=0∧Below w.heap.size w wr) (fun kv _=>n - (intOf kv).toNat)
  case atStart=>exact ⟨0,Nat.zero_le _,rfl,rfl,Below.refl _ _⟩
  case round =>
    obtain ⟨k,hk,rfl,good,BB⟩:=hrel
    have GOOD:=Lib.hid good
    have B0:=Lib.hid BB
    clear good BB
    by_cases hlt:k < n
    · have r2:=rowC_in R.out B0.out hb1
      obtain ⟨c0,c1,c2,c3,c4,c5,c6,c7,c8,c9⟩:=r2.2 k hlt
      have r5:=r2.1
      clear r2
      have hk1:(k:Int) < (n:Int):=by omega
      have HIT:=Lib.hid (fun h:chcode (Q k) ≠ 0=>chcodes_hit hlt GOOD.out h)
      have NEXT:=Lib.hid (fun h:chcode (Q k)=0=>chcodes_next GOOD.out h)
      obtain ⟨q,hq⟩:∃ q,Q k=q:=⟨_,rfl⟩
      rw [hq] at c0 c1 c2 c3 c4 c5 c6 c7 c8 c9 HIT NEXT
      have QK:=Lib.hid hq
      clear hq
      obtain ⟨pc,hpc⟩:∃ pc,pcode q.1.1 q.1.2.1 q.1.2.2=pc:=⟨_,rfl⟩
      have V:=Lib.hid (fun W=>(hpc ▸ vp_any q.1.1 q.1.2.1 q.1.2.2 W:Calls Tryz.prog 72 #[pnv q.1.1 q.1.2.1 q.1.2.2] W fun e w'=>e=.returned (.int .i64 pc)∧Below W.heap.size W w'))
      have PC:=Lib.hid hpc
      clear hpc
      by_cases z:pc=0
      · subst z
        cases hr:rngB q.2 (-100) 100 with
        | false =>
          have I:=Lib.hid (fun W=>(hr ▸ finr_any q.2 (-100) 100 W:Calls Tryz.prog 73 #[.int .i64 q.2,.int .i64 (-100),.int .i64 100] W fun e w'=>e=.returned (.bool false)∧W=w'))
          have E:=Lib.hid (chcode_far PC.out hr)
          have hf:res=1:=by rw [← RES.out,HIT.out (by rw [E.out];decide),E.out]
          subst hf
          clear hr
          go_wp2_with fail
          refine (V.out _).mono ?_
          rintro e w1 ⟨rfl,hb2⟩
          have r3:=rowC_in R.out (bstep (balloc B0.out _) hb2) hb1
          have own:=ownCh_below (ownCh_new wr q 65) hb2
          obtain ⟨⟨d0,d1,d2,d3,d4,d5,d6,d7,d8,d9⟩,dl⟩:=own
          clear c0 c1 c2 c3 c4 c5 c6 c7 c8 c9 r3
          go_wp2_with fail
          refine (I.out _).mono ?_
          rintro e w' ⟨rfl,rfl⟩
          go_wp2
          go_ret
          exact ⟨rfl,by have hB:=B0.out;(repeat' (first | exact Below.refl _ _ | refine bstep ?_ hb2 | refine bstep ?_ hB | refine Below.setCell ?_ (by simp <;> omega) _ | refine balloc ?_ _ | refine Below.drew ?_ | refine bdrewN ?_ _))⟩
        | true =>
          have I:=Lib.hid (fun W=>(hr ▸ finr_any q.2 (-100) 100 W:Calls Tryz.prog 73 #[.int .i64 q.2,.int .i64 (-100),.int .i64 100] W fun e w'=>e=.returned (.bool true)∧W=w'))
          have E:=Lib.hid (chcode_ok PC.out hr)
          clear hr
          go_wp2_with fail
          refine (V.out _).mono ?_
          rintro e w1 ⟨rfl,hb2⟩
          have r3:=rowC_in R.out (bstep (balloc B0.out _) hb2) hb1
          have own:=ownCh_below (ownCh_new wr q 65) hb2
          obtain ⟨⟨d0,d1,d2,d3,d4,d5,d6,d7,d8,d9⟩,dl⟩:=own
          clear c0 c1 c2 c3 c4 c5 c6 c7 c8 c9 r3
          go_wp2_with fail
          refine (I.out _).mono ?_
          rintro e w' ⟨rfl,rfl⟩
          go_wp2
          go_roundw
          case rel=>exact ⟨k + 1,by omega,by go_num,NEXT.out E.out,by have hB:=B0.out;(repeat' (first | exact Below.refl _ _ | refine bstep ?_ hb2 | refine bstep ?_ hB | refine Below.setCell ?_ (by simp <;> omega) _ | refine balloc ?_ _ | refine Below.drew ?_ | refine bdrewN ?_ _))⟩
          case measure=>simp [intOf];omega
      · have z1:=int_ne0 z
        have hf:res=pc:=by rw [← RES.out,HIT.out (by rw [chcode_panel (by rw [PC.out];exact z),PC.out];exact z),chcode_panel (by rw [PC.out];exact z),PC.out]
        subst hf
        clear z
        go_wp2_with fail
        refine (V.out _).mono ?_
        rintro e w1 ⟨rfl,hb2⟩
        go_wp2
        go_ret
        exact ⟨rfl,by have hB:=B0.out;(repeat' (first | exact Below.refl _ _ | refine bstep ?_ hb2 | refine bstep ?_ hB | refine Below.setCell ?_ (by simp <;> omega) _ | refine balloc ?_ _ | refine Below.drew ?_ | refine bdrewN ?_ _))⟩
    · obtain rfl:k=n:=by omega
      have hf:res=0:=by rw [← RES.out,GOOD.out]
      subst hf
      go_wp2
      go_ret
      exact ⟨rfl,B0.out⟩
theorem fvc_any (a:Option Addr) (n cap:Nat) (Q:Nat→Ch) (w:World) (r:LstC w a n Q) (hn:n≤140737488355328) :
    Calls Tryz.prog 50 #[.slice a n cap] w fun e w'=>e=.returned (.int .i64 (ccode n Q))∧Below w.heap.size w w':=by
  unfold ccode
  by_cases h:96 < n
  · rw [if_pos h];exact fvc_big a n cap w h hn
  · rw [if_neg h]
    by_cases h0:n=0
    · subst h0;exact fvc_zero a cap w
    · obtain ⟨b,off,rfl,rr⟩:=r (by omega)
      exact fvc_row b off n cap Q w rr (by omega)
end Go.Proofs.YtgchcnpgjfoadaaGreat
