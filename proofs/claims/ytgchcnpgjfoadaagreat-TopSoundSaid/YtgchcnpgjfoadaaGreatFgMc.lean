import Derived.Test.YtgchcnpgjfoadaaGreatFgMb
import Derived.Laws.EntriesVeiled
namespace Go.Proofs.YtgchcnpgjfoadaaGreat
open Go.ChangeShapes Go.WideShapes Go.RowKit
open Sh
def gA (gs:List (Nat × P9)) (k:Nat):Nat × P9:=gs.getD k (0,(0,0,0),(0,0,0),(0,0,0))
theorem gcs_at (gs:List (Nat × P9)):∀ k j,k < gs.length→j < 7→(gcs gs)[k * 7 + j]?=(gcs1 (gA gs k))[j]?:=by
  induction gs with
  | nil=>intro k j h;cases h
  | cons g gs ih =>
    intro k j hk hj
    have e:gcs (g :: gs)=gcs1 g ++ gcs gs:=by simp [gcs]
    have l7:(gcs1 g).length=7:=rfl
    rw [e]
    cases k with
    | zero=>rw [List.getElem?_append_left (by rw [l7];omega),Nat.zero_mul,Nat.zero_add];rfl
    | succ k =>
      rw [List.getElem?_append_right (by rw [l7];omega),l7,show (k + 1) * 7 + j - 7=k * 7 + j by omega,ih k j (by simpa using hk) hj]
      rfl
def RowGs (w:World) (q n:Nat) (gs:List (Nat × P9)):Prop:=q < w.heap.size∧∀ k,k < n→(w.cell? ⟨q,k * 7,none⟩=some (.slice (some ⟨(gA gs k).1,0,none⟩) 3 3)∧w.cell? ⟨q,k * 7 + 1,none⟩=some (.int .i64 (loN (P3F (gA gs k).2) 3).1)∧w.cell? ⟨q,k * 7 + 1 + 1,none⟩=some (.int .i64 (loN (P3F (gA gs k).2) 3).2.1)∧w.cell? ⟨q,k * 7 + 1 + 1 + 1,none⟩=some (.int .i64 (loN (P3F (gA gs k).2) 3).2.2)∧w.cell? ⟨q,k * 7 + 1 + 1 + 1 + 1,none⟩=some (.int .i64 (hiN (P3F (gA gs k).2) 3).1)∧w.cell? ⟨q,k * 7 + 1 + 1 + 1 + 1 + 1,none⟩=some (.int .i64 (hiN (P3F (gA gs k).2) 3).2.1)∧w.cell? ⟨q,k * 7 + 1 + 1 + 1 + 1 + 1 + 1,none⟩=some (.int .i64 (hiN (P3F (gA gs k).2) 3).2.2))∧PtB w (gA gs k).1 (gA gs k).2
theorem rowgs_in {w w1:World} {q n:Nat} {gs:List (Nat × P9)} (r:RowGs w q n gs) (hb:Below w.heap.size w w1):RowGs w1 q n gs:=by
  refine ⟨Nat.lt_of_lt_of_le r.1 hb.size,fun k hk=>?_⟩
  obtain ⟨⟨h0,h1,h2,h3,h4,h5,h6⟩,hp⟩:=r.2 k hk
  exact ⟨⟨(hb.cell (p:=⟨q,_,none⟩) r.1).trans h0,(hb.cell (p:=⟨q,_,none⟩) r.1).trans h1,(hb.cell (p:=⟨q,_,none⟩) r.1).trans h2,(hb.cell (p:=⟨q,_,none⟩) r.1).trans h3,(hb.cell (p:=⟨q,_,none⟩) r.1).trans h4,(hb.cell (p:=⟨q,_,none⟩) r.1).trans h5,(hb.cell (p:=⟨q,_,none⟩) r.1).trans h6⟩,ptb_below hp hb⟩
theorem rowgs_of {w:World} {base:Nat} {v:Value} {gs:List (Nat × P9)} (h:w.ownsRow base 143 7 v gs.length (gcs gs)) (h0:0 < gs.length) (hp:∀ g,g ∈ gs→PtB w g.1 g.2):∃ q cap,v=.slice (some ⟨q,0,none⟩) gs.length cap∧RowGs w q gs.length gs:=by
  rcases h.2 with ⟨_,h'⟩ | ⟨q,cap,cur,rfl,hb,hg,_⟩
  · omega
  · refine ⟨q,cap,rfl,(Array.getElem?_eq_some_iff.1 hg).1,fun k hk=>?_⟩
    have c (j:Nat) (hj:j < 7):w.cell? ⟨q,k * 7 + j,none⟩=(gcs1 (gA gs k))[j]?:=by rw [h.cellAt (k * 7 + j) (by omega)];exact gcs_at gs k j hk hj
    refine ⟨⟨c 0 (by omega),c 1 (by omega),c 2 (by omega),c 3 (by omega),c 4 (by omega),c 5 (by omega),c 6 (by omega)⟩,?_⟩
    have hm:gA gs k ∈ gs:=by
      unfold gA
      rw [List.getD_eq_getElem?_getD,List.getElem?_eq_getElem hk]
      exact List.getElem_mem hk
    exact hp _ hm
set_option maxRecDepth 100000 in
set_option maxHeartbeats 2000000 in
theorem gixf_any (d m e:Nat) (bl bh:P3) (sc:Int) (kv:Value) (q n c:Nat) (gs:List (Nat × P9)) (f:Nat→Int) (w:World) (r:RowGs w q n gs) (hn:n≤1000) (CC:Hid (∀ k,k < n→∀ W,Calls Tryz.prog 106 #[vwv d m e bl bh sc kv,grv (gA gs k).1 3 3 (loN (P3F (gA gs k).2) 3) (hiN (P3F (gA gs k).2) 3)] W fun e w'=>e=.returned (.bool (f k == 0))∧Below W.heap.size W w')) :
    Calls Tryz.prog 128 #[.slice (some ⟨q,0,none⟩) n c,.func (.func 106) #[vwv d m e bl bh sc kv] #[]] w fun e w'=>∃ r:Int,e=.returned (.int .i64 r)∧-1≤r∧r≤1000∧anyz f n=decide (0≤r)∧Below w.heap.size w w':=by
  have hn':(n:Int)≤1000:=by omega
  have R:=Lib.hid r
  clear r
  go_enter Tryz.func128,Tryz.ntmps128
  go_wp2
  go_loopw [8] (fun jv wr=>∃ k:Nat,k≤n∧jv=.int .i64 k∧anyz f k=false∧Below w.heap.size w wr) (fun jv _=>n - (intOf jv).toNat)
  case atStart=>exact ⟨0,Nat.zero_le _,rfl,rfl,Below.refl _ _⟩
  case round =>
    obtain ⟨k,hk,rfl,good,BB⟩:=hrel
    have B0:=Lib.hid BB
    have GOOD:=Lib.hid good
    clear BB good
    by_cases hlt:k < n
    · have hk1:(k:Int) < (n:Int):=by omega
      have q1:=rowgs_in R.out B0.out
      obtain ⟨⟨c0,c1,c2,c3,c4,c5,c6⟩,_⟩:=q1.2 k hlt
      have s1:=q1.1
      have HIT:=Lib.hid (fun h:f k=0=>anyz_hit h hlt)
      have NEXT:=Lib.hid (fun h:f k ≠ 0=>anyz_next GOOD.out h)
      have CK:=Lib.hid (CC.out k hlt)
      clear q1 CC
      generalize loN (P3F (gA gs k).2) 3=lo at *
      generalize hiN (P3F (gA gs k).2) 3=hi at *
      generalize (gA gs k).1=g at *
      generalize f k=y at *
      go_wp2_with fail
      go_at_call 106
      refine (CK.out _).mono ?_
      rintro e w1 ⟨rfl,hb⟩
      have B1:=Lib.hid (bstep B0.out hb)
      by_cases z:y=0
      · have A1:=Lib.hid (HIT.out z)
        have z':(y == 0)=true:=by rw [z];rfl
        clear HIT NEXT z
        go_wp2
        go_ret
        exact ⟨_,rfl,by omega,by omega,by rw [A1.out];exact (decide_eq_true (by omega)).symm,B1.out⟩
      · have A1:=Lib.hid (NEXT.out z)
        have z':(y == 0)=false:=beq_eq_false_iff_ne.2 z
        clear HIT NEXT z
        go_wp2
        go_roundw
        case rel=>exact ⟨k + 1,by omega,by go_num,A1.out,B1.out⟩
        case measure=>simp [intOf];omega
    · obtain rfl:k=n:=by omega
      go_wp2
      go_ret
      exact ⟨-1,rfl,by omega,by omega,by rw [GOOD.out];rfl,B0.out⟩
theorem gctf_any (d m e:Nat) (bl bh:P3) (sc:Int) (kv:Value) (q n c:Nat) (gs:List (Nat × P9)) (f:Nat→Int) (w:World) (r:RowGs w q n gs) (hn:n≤1000) (CC:Hid (∀ k,k < n→∀ W,Calls Tryz.prog 106 #[vwv d m e bl bh sc kv,grv (gA gs k).1 3 3 (loN (P3F (gA gs k).2) 3) (hiN (P3F (gA gs k).2) 3)] W fun e w'=>e=.returned (.bool (f k == 0))∧Below W.heap.size W w')) :
    Calls Tryz.prog 105 #[.slice (some ⟨q,0,none⟩) n c,.func (.func 106) #[vwv d m e bl bh sc kv] #[]] w fun e w'=>e=.returned (.bool (anyz f n))∧Below w.heap.size w w':=by
  have CI:=Lib.hid (fun W (B:Below w.heap.size w W)=>gixf_any d m e bl bh sc kv q n c gs f W (rowgs_in r B) hn CC)
  clear r CC
  generalize anyz f n=v at *
  go_enter Tryz.func105,Tryz.ntmps105
  go_wp2_with fail
  refine (CI.out _ (Below.refl _ w)).mono ?_
  rintro e w1 ⟨r,rfl,r1,r2,hv,hb⟩
  by_cases z:0≤r
  · obtain rfl:v=true:=by rw [hv];exact decide_eq_true z
    clear hv
    go_wp2
    go_ret
    exact ⟨by first | rfl | simp [z],hb⟩
  · obtain rfl:v=false:=by rw [hv];exact decide_eq_false z
    clear hv
    go_wp2
    go_ret
    exact ⟨by first | rfl | simp [z],hb⟩
set_option maxRecDepth 100000 in
set_option maxHeartbeats 2000000 in
theorem gsl_any (d m e:Nat) (bl bh:P3) (sc:Int) (kv:Value) (q n c:Nat) (gs:List (Nat × P9)) (f:Nat→Int) (w:World) (r:RowGs w q n gs) (hn:n≤1000) (CC:Hid (∀ k,k < n→∀ W,Below w.heap.size w W→Calls Tryz.prog 108 #[vwv d m e bl bh sc kv,grv (gA gs k).1 3 3 (loN (P3F (gA gs k).2) 3) (hiN (P3F (gA gs k).2) 3)] W fun e w'=>e=.returned (.int .i64 (f k))∧Below W.heap.size W w')) (BD:Hid (∀ k,k≤n→-4611686018427387904≤sm f k∧sm f k≤4611686018427387904)) :
    Calls Tryz.prog 130 #[.slice (some ⟨q,0,none⟩) n c,.func (.func 108) #[vwv d m e bl bh sc kv] #[]] w fun e w'=>e=.returned (.int .i64 (sm f n))∧Below w.heap.size w w':=by
  have hn':(n:Int)≤1000:=by omega
  have R:=Lib.hid r
  clear r
  go_enter Tryz.func130,Tryz.ntmps130
  go_wp2
  go_loopw [5,10] (fun tv jv wr=>∃ k:Nat,k≤n∧jv=.int .i64 k∧tv=.int .i64 (sm f k)∧Below w.heap.size w wr) (fun _ jv _=>n - (intOf jv).toNat)
  case atStart=>exact ⟨0,Nat.zero_le _,rfl,rfl,Below.refl _ _⟩
  case round =>
    obtain ⟨k,hk,rfl,rfl,BB⟩:=hrel
    have B0:=Lib.hid BB
    clear BB
    by_cases hlt:k < n
    · have hk1:(k:Int) < (n:Int):=by omega
      have q1:=rowgs_in R.out B0.out
      obtain ⟨⟨c0,c1,c2,c3,c4,c5,c6⟩,_⟩:=q1.2 k hlt
      have s1:=q1.1
      have NX:=Lib.hid (show sm f (k + 1)=sm f k + f k from rfl)
      have bb:=BD.out (k + 1) hlt
      rw [NX.out] at bb
      obtain ⟨b1,b2⟩:=bb
      have CK:=Lib.hid (CC.out k hlt)
      clear q1 CC BD
      generalize loN (P3F (gA gs k).2) 3=lo at *
      generalize hiN (P3F (gA gs k).2) 3=hi at *
      generalize (gA gs k).1=g at *
      generalize f k=y at *
      generalize sm f k=x at *
      go_wp2_with fail
      go_at_call 108
      refine (CK.out _ (by have hB:=B0.out;(repeat' (first | exact Below.refl _ _ | refine bstep ?_ hB | refine Below.setCell ?_ (by simp <;> omega) _ | refine balloc ?_ _ | refine Below.drew ?_ | refine bdrewN ?_ _)))).mono ?_
      rintro e w1 ⟨rfl,hb⟩
      go_wp2
      go_roundw
      case rel=>exact ⟨k + 1,by omega,by go_num,by rw [NX.out],by have hB:=B0.out;(repeat' (first | exact Below.refl _ _ | refine bstep ?_ hb | refine bstep ?_ hB | refine Below.setCell ?_ (by simp <;> omega) _ | refine balloc ?_ _ | refine Below.drew ?_ | refine bdrewN ?_ _))⟩
      case measure=>simp [intOf];omega
    · obtain rfl:k=n:=by omega
      go_wp2
      go_ret
      exact ⟨rfl,B0.out⟩
set_option maxRecDepth 100000 in
set_option maxHeartbeats 2000000 in
theorem gsh_any (d m e:Nat) (bl bh:P3) (sc:Int) (kv:Value) (q n c:Nat) (gs:List (Nat × P9)) (f:Nat→Int) (w:World) (r:RowGs w q n gs) (hn:n≤1000) (CC:Hid (∀ k,k < n→∀ W,Below w.heap.size w W→Calls Tryz.prog 109 #[vwv d m e bl bh sc kv,grv (gA gs k).1 3 3 (loN (P3F (gA gs k).2) 3) (hiN (P3F (gA gs k).2) 3)] W fun e w'=>e=.returned (.int .i64 (f k))∧Below W.heap.size W w')) (BD:Hid (∀ k,k≤n→-4611686018427387904≤sm f k∧sm f k≤4611686018427387904)) :
    Calls Tryz.prog 130 #[.slice (some ⟨q,0,none⟩) n c,.func (.func 109) #[vwv d m e bl bh sc kv] #[]] w fun e w'=>e=.returned (.int .i64 (sm f n))∧Below w.heap.size w w':=by
  have hn':(n:Int)≤1000:=by omega
  have R:=Lib.hid r
  clear r
  go_enter Tryz.func130,Tryz.ntmps130
  go_wp2
  go_loopw [5,10] (fun tv jv wr=>∃ k:Nat,k≤n∧jv=.int .i64 k∧tv=.int .i64 (sm f k)∧Below w.heap.size w wr) (fun _ jv _=>n - (intOf jv).toNat)
  case atStart=>exact ⟨0,Nat.zero_le _,rfl,rfl,Below.refl _ _⟩
  case round =>
    obtain ⟨k,hk,rfl,rfl,BB⟩:=hrel
    have B0:=Lib.hid BB
    clear BB
    by_cases hlt:k < n
    · have hk1:(k:Int) < (n:Int):=by omega
      have q1:=rowgs_in R.out B0.out
      obtain ⟨⟨c0,c1,c2,c3,c4,c5,c6⟩,_⟩:=q1.2 k hlt
      have s1:=q1.1
      have NX:=Lib.hid (show sm f (k + 1)=sm f k + f k from rfl)
      have bb:=BD.out (k + 1) hlt
      rw [NX.out] at bb
      obtain ⟨b1,b2⟩:=bb
      have CK:=Lib.hid (CC.out k hlt)
      clear q1 CC BD
      generalize loN (P3F (gA gs k).2) 3=lo at *
      generalize hiN (P3F (gA gs k).2) 3=hi at *
      generalize (gA gs k).1=g at *
      generalize f k=y at *
      generalize sm f k=x at *
      go_wp2_with fail
      go_at_call 109
      refine (CK.out _ (by have hB:=B0.out;(repeat' (first | exact Below.refl _ _ | refine bstep ?_ hB | refine Below.setCell ?_ (by simp <;> omega) _ | refine balloc ?_ _ | refine Below.drew ?_ | refine bdrewN ?_ _)))).mono ?_
      rintro e w1 ⟨rfl,hb⟩
      go_wp2
      go_roundw
      case rel=>exact ⟨k + 1,by omega,by go_num,by rw [NX.out],by have hB:=B0.out;(repeat' (first | exact Below.refl _ _ | refine bstep ?_ hb | refine bstep ?_ hB | refine Below.setCell ?_ (by simp <;> omega) _ | refine balloc ?_ _ | refine Below.drew ?_ | refine bdrewN ?_ _))⟩
      case measure=>simp [intOf];omega
    · obtain rfl:k=n:=by omega
      go_wp2
      go_ret
      exact ⟨rfl,B0.out⟩
end Go.Proofs.YtgchcnpgjfoadaaGreat
namespace Go.Proofs.YtgchcnpgjfoadaaGreat
open Go.ChangeShapes Go.WideShapes Go.RowKit
open Sh
set_option maxHeartbeats 1000000 in
theorem may_any (a:P3) (w:World):Calls Tryz.prog 74 #[ptv a] w fun e w'=>e=.returned (.bool (inP 256 a))∧Below w.heap.size w w':=by
  have E:inP 256 a=(rngB a.1 (-256) 256 && (rngB a.2.1 (-256) 256 && rngB a.2.2 (-256) 256)):=by
    unfold inP rngB
    rw [Bool.eq_iff_iff]
    simp only [decide_eq_true_eq,Bool.and_eq_true]
    constructor
    · rintro ⟨h1,h2,h3,h4,h5,h6⟩;exact ⟨⟨h1,h2⟩,⟨h3,h4⟩,h5,h6⟩
    · rintro ⟨⟨h1,h2⟩,⟨h3,h4⟩,h5,h6⟩;exact ⟨h1,h2,h3,h4,h5,h6⟩
  rw [E]
  clear E
  have x0:=ix3_0 a.1 a.2.1 a.2.2
  have x1:=ix3_1 a.1 a.2.1 a.2.2
  have x2:=ix3_2 a.1 a.2.1 a.2.2
  cases h0:rngB a.1 (-256) 256 with
  | false =>
    have R0:=Lib.hid (fun W=>(h0 ▸ finr_any a.1 (-256) 256 W:Calls Tryz.prog 73 #[.int .i64 a.1,.int .i64 (-256),.int .i64 256] W fun e w'=>e=.returned (.bool false)∧W=w'))
    clear h0
    go_enter Tryz.func74,Tryz.ntmps74
    go_wp2
    refine wp_loop_rounds 4 ?_
    rw [rounds_succ]
    go_wp2_with fail
    with_reducible refine (R0.out _).mono ?_
    rintro e w1 ⟨rfl,rfl⟩
    go_wp2
    go_ret
    exact ⟨rfl,by (repeat' (first | exact Below.refl _ _ | refine Below.setCell ?_ (by simp <;> omega) _ | refine balloc ?_ _ | refine Below.drew ?_ | refine bdrewN ?_ _))⟩
  | true =>
    cases h1:rngB a.2.1 (-256) 256 with
    | false =>
      have R0:=Lib.hid (fun W=>(h0 ▸ finr_any a.1 (-256) 256 W:Calls Tryz.prog 73 #[.int .i64 a.1,.int .i64 (-256),.int .i64 256] W fun e w'=>e=.returned (.bool true)∧W=w'))
      have R1:=Lib.hid (fun W=>(h1 ▸ finr_any a.2.1 (-256) 256 W:Calls Tryz.prog 73 #[.int .i64 a.2.1,.int .i64 (-256),.int .i64 256] W fun e w'=>e=.returned (.bool false)∧W=w'))
      clear h0 h1
      go_enter Tryz.func74,Tryz.ntmps74
      go_wp2
      refine wp_loop_rounds 4 ?_
      rw [rounds_succ]
      go_wp2_with fail
      with_reducible refine (R0.out _).mono ?_
      rintro e w1 ⟨rfl,rfl⟩
      go_wp2
      rw [rounds_succ]
      go_wp2_with fail
      with_reducible refine (R1.out _).mono ?_
      rintro e w1 ⟨rfl,rfl⟩
      go_wp2
      go_ret
      exact ⟨rfl,by (repeat' (first | exact Below.refl _ _ | refine Below.setCell ?_ (by simp <;> omega) _ | refine balloc ?_ _ | refine Below.drew ?_ | refine bdrewN ?_ _))⟩
    | true =>
      cases h2:rngB a.2.2 (-256) 256 with
      | false =>
        have R0:=Lib.hid (fun W=>(h0 ▸ finr_any a.1 (-256) 256 W:Calls Tryz.prog 73 #[.int .i64 a.1,.int .i64 (-256),.int .i64 256] W fun e w'=>e=.returned (.bool true)∧W=w'))
        have R1:=Lib.hid (fun W=>(h1 ▸ finr_any a.2.1 (-256) 256 W:Calls Tryz.prog 73 #[.int .i64 a.2.1,.int .i64 (-256),.int .i64 256] W fun e w'=>e=.returned (.bool true)∧W=w'))
        have R2:=Lib.hid (fun W=>(h2 ▸ finr_any a.2.2 (-256) 256 W:Calls Tryz.prog 73 #[.int .i64 a.2.2,.int .i64 (-256),.int .i64 256] W fun e w'=>e=.returned (.bool false)∧W=w'))
        clear h0 h1 h2
        go_enter Tryz.func74,Tryz.ntmps74
        go_wp2
        refine wp_loop_rounds 4 ?_
        rw [rounds_succ]
        go_wp2_with fail
        with_reducible refine (R0.out _).mono ?_
        rintro e w1 ⟨rfl,rfl⟩
        go_wp2
        rw [rounds_succ]
        go_wp2_with fail
        with_reducible refine (R1.out _).mono ?_
        rintro e w1 ⟨rfl,rfl⟩
        go_wp2
        rw [rounds_succ]
        go_wp2_with fail
        with_reducible refine (R2.out _).mono ?_
        rintro e w1 ⟨rfl,rfl⟩
        go_wp2
        go_ret
        exact ⟨rfl,by (repeat' (first | exact Below.refl _ _ | refine Below.setCell ?_ (by simp <;> omega) _ | refine balloc ?_ _ | refine Below.drew ?_ | refine bdrewN ?_ _))⟩
      | true =>
        have R0:=Lib.hid (fun W=>(h0 ▸ finr_any a.1 (-256) 256 W:Calls Tryz.prog 73 #[.int .i64 a.1,.int .i64 (-256),.int .i64 256] W fun e w'=>e=.returned (.bool true)∧W=w'))
        have R1:=Lib.hid (fun W=>(h1 ▸ finr_any a.2.1 (-256) 256 W:Calls Tryz.prog 73 #[.int .i64 a.2.1,.int .i64 (-256),.int .i64 256] W fun e w'=>e=.returned (.bool true)∧W=w'))
        have R2:=Lib.hid (fun W=>(h2 ▸ finr_any a.2.2 (-256) 256 W:Calls Tryz.prog 73 #[.int .i64 a.2.2,.int .i64 (-256),.int .i64 256] W fun e w'=>e=.returned (.bool true)∧W=w'))
        clear h0 h1 h2
        go_enter Tryz.func74,Tryz.ntmps74
        go_wp2
        refine wp_loop_rounds 4 ?_
        rw [rounds_succ]
        go_wp2_with fail
        with_reducible refine (R0.out _).mono ?_
        rintro e w1 ⟨rfl,rfl⟩
        go_wp2
        rw [rounds_succ]
        go_wp2_with fail
        with_reducible refine (R1.out _).mono ?_
        rintro e w1 ⟨rfl,rfl⟩
        go_wp2
        rw [rounds_succ]
        go_wp2_with fail
        with_reducible refine (R2.out _).mono ?_
        rintro e w1 ⟨rfl,rfl⟩
        go_wp2
        rw [rounds_succ]
        go_wp2
        go_ret
        exact ⟨rfl,by (repeat' (first | exact Below.refl _ _ | refine Below.setCell ?_ (by simp <;> omega) _ | refine balloc ?_ _ | refine Below.drew ?_ | refine bdrewN ?_ _))⟩
theorem cka_false (x:P3) (D:Int) (w:World) (M:Hid (∀ W,Calls Tryz.prog 74 #[ptv x] W fun e w'=>e=.returned (.bool false)∧Below W.heap.size W w')):Calls Tryz.prog 51 #[ptv x,.int .i64 D] w fun e w'=>e=.returned (.int .i64 1)∧Below w.heap.size w w':=by
  go_enter Tryz.func51,Tryz.ntmps51
  go_wp2_with fail
  refine (M.out _).mono ?_
  rintro e w1 ⟨rfl,hb1⟩
  go_wp2
  go_ret
  exact ⟨rfl,by (repeat' (first | exact Below.refl _ _ | refine bstep ?_ hb1 | refine Below.setCell ?_ (by simp <;> omega) _ | refine balloc ?_ _ | refine Below.drew ?_ | refine bdrewN ?_ _))⟩
theorem cka_true_true (x:P3) (D:Int) (w:World) (M:Hid (∀ W,Calls Tryz.prog 74 #[ptv x] W fun e w'=>e=.returned (.bool true)∧Below W.heap.size W w')) (I:Hid (∀ W,Calls Tryz.prog 73 #[.int .i64 D,.int .i64 0,.int .i64 3] W fun e w'=>e=.returned (.bool true)∧W=w')):Calls Tryz.prog 51 #[ptv x,.int .i64 D] w fun e w'=>e=.returned (.int .i64 0)∧Below w.heap.size w w':=by
  go_enter Tryz.func51,Tryz.ntmps51
  go_wp2_with fail
  refine (M.out _).mono ?_
  rintro e w1 ⟨rfl,hb1⟩
  go_wp2_with fail
  refine (I.out _).mono ?_
  rintro e w2 ⟨rfl,rfl⟩
  go_wp2
  go_ret
  exact ⟨rfl,by (repeat' (first | exact Below.refl _ _ | refine bstep ?_ hb1 | refine Below.setCell ?_ (by simp <;> omega) _ | refine balloc ?_ _ | refine Below.drew ?_ | refine bdrewN ?_ _))⟩
theorem cka_true_false (x:P3) (D:Int) (w:World) (M:Hid (∀ W,Calls Tryz.prog 74 #[ptv x] W fun e w'=>e=.returned (.bool true)∧Below W.heap.size W w')) (I:Hid (∀ W,Calls Tryz.prog 73 #[.int .i64 D,.int .i64 0,.int .i64 3] W fun e w'=>e=.returned (.bool false)∧W=w')):Calls Tryz.prog 51 #[ptv x,.int .i64 D] w fun e w'=>e=.returned (.int .i64 1)∧Below w.heap.size w w':=by
  go_enter Tryz.func51,Tryz.ntmps51
  go_wp2_with fail
  refine (M.out _).mono ?_
  rintro e w1 ⟨rfl,hb1⟩
  go_wp2_with fail
  refine (I.out _).mono ?_
  rintro e w2 ⟨rfl,rfl⟩
  go_wp2
  go_ret
  exact ⟨rfl,by (repeat' (first | exact Below.refl _ _ | refine bstep ?_ hb1 | refine Below.setCell ?_ (by simp <;> omega) _ | refine balloc ?_ _ | refine Below.drew ?_ | refine bdrewN ?_ _))⟩
theorem cka_any (x:P3) (D:Int) (w:World):Calls Tryz.prog 51 #[ptv x,.int .i64 D] w fun e w'=>e=.returned (.int .i64 (akc x D))∧Below w.heap.size w w':=by
  have M:=fun W=>may_any x W
  have I:=fun W=>finr_any D 0 3 W
  unfold akc
  cases h:inP 256 x with
  | true =>
    rw [h] at M
    cases k:rngB D 0 3 with
    | true=>rw [k] at I;exact cka_true_true x D w (Lib.hid M) (Lib.hid I)
    | false=>rw [k] at I;exact cka_true_false x D w (Lib.hid M) (Lib.hid I)
  | false=>rw [h] at M;exact cka_false x D w (Lib.hid M)
theorem cks_no (t:P9) (x:P3) (D pc:Int) (w:World) (V:Hid (∀ W,Calls Tryz.prog 72 #[p9v t] W fun e w'=>e=.returned (.int .i64 pc)∧Below W.heap.size W w')) (z:(pc != 0)=true) :
    Calls Tryz.prog 101 #[p9v t,ptv x,.int .i64 D] w fun e w'=>e=.returned (.int .i64 pc)∧Below w.heap.size w w':=by
  obtain ⟨a,b,c⟩:=t
  go_enter Tryz.func101,Tryz.ntmps101
  go_wp2_with fail
  refine (V.out _).mono ?_
  rintro e w1 ⟨rfl,hb1⟩
  go_wp2
  go_ret
  exact ⟨rfl,by (repeat' (first | exact Below.refl _ _ | refine bstep ?_ hb1 | refine Below.setCell ?_ (by simp <;> omega) _ | refine balloc ?_ _ | refine Below.drew ?_ | refine bdrewN ?_ _))⟩
theorem cks_yes (t:P9) (x:P3) (D ac:Int) (w:World) (V:Hid (∀ W,Calls Tryz.prog 72 #[p9v t] W fun e w'=>e=.returned (.int .i64 0)∧Below W.heap.size W w')) (K:Hid (∀ W,Calls Tryz.prog 51 #[ptv x,.int .i64 D] W fun e w'=>e=.returned (.int .i64 ac)∧Below W.heap.size W w')) :
    Calls Tryz.prog 101 #[p9v t,ptv x,.int .i64 D] w fun e w'=>e=.returned (.int .i64 ac)∧Below w.heap.size w w':=by
  obtain ⟨a,b,c⟩:=t
  have O0:=own_new (w.alloc (pnc a b c 59)) x 24
  simp only [World.size_alloc] at O0
  go_enter Tryz.func101,Tryz.ntmps101
  go_wp2_with fail
  refine (V.out _).mono ?_
  rintro e w1 ⟨rfl,hb1⟩
  obtain ⟨o0,o1,o2,_⟩:=own_below O0 hb1
  go_wp2_with fail
  refine (K.out _).mono ?_
  rintro e w2 ⟨rfl,hb2⟩
  go_wp2
  go_ret
  exact ⟨rfl,by (repeat' (first | exact Below.refl _ _ | refine bstep ?_ hb2 | refine bstep ?_ hb1 | refine Below.setCell ?_ (by simp <;> omega) _ | refine balloc ?_ _ | refine Below.drew ?_ | refine bdrewN ?_ _))⟩
theorem cks_any (t:P9) (x:P3) (D:Int) (w:World):Calls Tryz.prog 101 #[p9v t,ptv x,.int .i64 D] w fun e w'=>e=.returned (.int .i64 (snc t x D))∧Below w.heap.size w w':=by
  have V:=fun W=>vp_any t.1 t.2.1 t.2.2 W
  unfold snc
  by_cases z:pcode t.1 t.2.1 t.2.2=0
  · rw [if_pos z]
    rw [z] at V
    exact cks_yes t x D _ w (Lib.hid V) (Lib.hid fun W=>cka_any x D W)
  · rw [if_neg z]
    exact cks_no t x D _ w (Lib.hid V) (bne_iff_ne.2 z)
theorem sm_pos9 {f:Nat→Int} {B:Int}:∀ {n:Nat},(∀ k,k < n→0≤f k∧f k≤B)→0≤sm f n∧sm f n≤(n:Int) * B
  | 0,_=>by show (0:Int)≤0∧(0:Int)≤(0:Nat) * B;omega
  | n + 1,h=>by
    obtain ⟨h1,h2⟩:=sm_pos9 (n:=n) fun k hk=>h k (by omega)
    obtain ⟨h3,h4⟩:=h n (by omega)
    show 0≤sm f n + f n∧sm f n + f n≤((n + 1:Nat):Int) * B
    rw [Int.natCast_succ,Int.add_mul]
    omega
theorem tdiv_pos9 {x d:Int} (h:0≤x):x.tdiv d=x / d:=Int.tdiv_eq_ediv_of_nonneg h
set_option maxRecDepth 100000 in
set_option maxHeartbeats 2000000 in
theorem gavg_any (d m e:Nat) (bl bh:P3) (sc:Int) (kv:Value) (q n c:Nat) (gs:List (Nat × P9)) (f h:Nat→Int) (w:World) (r:RowGs w q n gs) (hn0:0 < n) (hn:n≤1000) (hf:∀ k,k < n→0≤f k∧f k≤1000000000) (hh:∀ k,k < n→0≤h k∧h k≤1000000000)
    (CL:Hid (∀ k,k < n→∀ W,Below w.heap.size w W→Calls Tryz.prog 108 #[vwv d m e bl bh sc kv,grv (gA gs k).1 3 3 (loN (P3F (gA gs k).2) 3) (hiN (P3F (gA gs k).2) 3)] W fun e w'=>e=.returned (.int .i64 (f k))∧Below W.heap.size W w')) (CH:Hid (∀ k,k < n→∀ W,Below w.heap.size w W→Calls Tryz.prog 109 #[vwv d m e bl bh sc kv,grv (gA gs k).1 3 3 (loN (P3F (gA gs k).2) 3) (hiN (P3F (gA gs k).2) 3)] W fun e w'=>e=.returned (.int .i64 (h k))∧Below W.heap.size W w')) :
    Calls Tryz.prog 107 #[.slice (some ⟨q,0,none⟩) n c,.func (.func 108) #[vwv d m e bl bh sc kv] #[],.func (.func 109) #[vwv d m e bl bh sc kv] #[]] w fun e w'=>e=.returned (.agg #[.int .i64 (sm f n / (n:Int)),.int .i64 ((sm h n + (n:Int) - 1) / (n:Int))])∧Below w.heap.size w w':=by
  have bd {g:Nat→Int} (hg:∀ k,k < n→0≤g k∧g k≤1000000000):∀ k,k≤n→0≤sm g k∧sm g k≤1000000000000:=fun k hk=>by
    have:=sm_pos9 (n:=k) fun i hi=>hg i (by omega)
    have:(k:Int) * 1000000000≤1000 * 1000000000:=Int.mul_le_mul_of_nonneg_right (by omega) (by decide)
    omega
  have SL:=Lib.hid (fun (W:World) (B:Below w.heap.size w W)=>gsl_any d m e bl bh sc kv q n c gs f W (rowgs_in r B) hn (Lib.hid fun k hk W' B'=>CL.out k hk W' (Below.trans B (B'.mono B.size))) (Lib.hid fun k hk=>by have:=bd hf k hk;omega))
  have SH:=Lib.hid (fun (W:World) (B:Below w.heap.size w W)=>gsh_any d m e bl bh sc kv q n c gs h W (rowgs_in r B) hn (Lib.hid fun k hk W' B'=>CH.out k hk W' (Below.trans B (B'.mono B.size))) (Lib.hid fun k hk=>by have:=bd hh k hk;omega))
  obtain ⟨f1,f2⟩:=bd hf n (Nat.le_refl _)
  obtain ⟨h1,h2⟩:=bd hh n (Nat.le_refl _)
  have n1:(0:Int) < (n:Int):=by omega
  have n2:(n:Int)≤1000:=by omega
  have n3:¬ ((n:Int)=0):=by omega
  have q1:sm f n / (n:Int)≤sm f n:=Int.ediv_le_self _ f1
  have q0:0≤sm f n / (n:Int):=Int.ediv_nonneg f1 (by omega)
  have q3:(sm h n + (n:Int) - 1) / (n:Int)≤sm h n + (n:Int) - 1:=Int.ediv_le_self _ (by omega)
  have q2:0≤(sm h n + (n:Int) - 1) / (n:Int):=Int.ediv_nonneg (by omega) (by omega)
  have d1:=tdiv_pos9 (x:=sm f n) (d:=(n:Int)) f1
  have d2:=tdiv_pos9 (x:=sm h n + (n:Int) - 1) (d:=(n:Int)) (by omega)
  clear r CL CH hf hh bd
  generalize sm f n=x at *
  generalize sm h n=y at *
  generalize x / (n:Int)=xq at *
  generalize (y + (n:Int) - 1) / (n:Int)=yq at *
  have w1:IntKind.i64.wrap (y + (n:Int))=y + (n:Int):=IntWalk.i64_in _ (by omega)
  have w2:IntKind.i64.wrap (y + (n:Int) - 1)=y + (n:Int) - 1:=IntWalk.i64_in _ (by omega)
  have w3:IntKind.i64.wrap xq=xq:=IntWalk.i64_in _ (by omega)
  have w4:IntKind.i64.wrap yq=yq:=IntWalk.i64_in _ (by omega)
  have P0:OwP (w.alloc (.cells #[.int .i64 0,.int .i64 0] 34)).drew w.heap.size (0,0):=owp_new w (0,0) 34
  have BW:Below w.heap.size w (w.alloc (.cells #[.int .i64 0,.int .i64 0] 34)).drew:=Below.drew (balloc (Below.refl _ _) _)
  have A1:=Lib.hid (SL.out _ BW)
  go_enter Tryz.func107,Tryz.ntmps107
  go_wp2_with fail
  go_region_with (first
    | (go_at_call 130;(with_reducible refine A1.out.mono ?_);rintro e v0 ⟨rfl,hv0⟩;have p1:=owp_below P0 hv0;have b1:=bstep BW hv0;have A2:=Lib.hid (SH.out _ b1))
    | (go_at_call 130;(with_reducible refine A2.out.mono ?_);rintro e v1 ⟨rfl,hv1⟩;obtain ⟨o0,o1,o2,o3,o4⟩:=owp_below p1 hv1;have b2:=bstep b1 hv1))
  all_goals
    go_wp2
    (try simp only [w1,w2,w3,w4,d1,d2])
    refine bodyPost_ret (v:=.agg #[.int .i64 xq,.int .i64 yq]) (by rw [results_cell rfl];go_simp) rfl ⟨rfl,?_⟩
    (repeat' (first | with_reducible exact b2 | (with_reducible refine Below.setCell ?_ (by simp <;> omega) _)))
end Go.Proofs.YtgchcnpgjfoadaaGreat
namespace Go.Proofs.YtgchcnpgjfoadaaGreat
open Go.ChangeShapes Go.WideShapes Go.RowKit
open Sh
theorem rwg_new1 (w:World) (y:P3) (t:TypeId):RwG (w.alloc (ptc y t)) w.heap.size 1 (fun _=>y):=by
  refine ⟨by simp,fun k hk=>?_⟩
  obtain rfl:k=0:=by omega
  exact ⟨by go_simp,by go_simp,by go_simp⟩
set_option maxRecDepth 100000 in
set_option maxHeartbeats 4000000 in
theorem mfwi (a b c x y lo hi:P3) (D sc:Int) (nz:Bool) (p q:Int) (w:World) (SH:Hid (wrap64 (2 ^ D.toNat)=sc)) (SB:0≤D∧D≤3∧0≤sc∧sc≤8)
    (C1:Hid (∀ W,Calls Tryz.prog 101 #[pnv a b c,ptv x,.int .i64 D] W fun e w'=>e=.returned (.int .i64 0)∧Below W.heap.size W w'))
    (C2:Hid (∀ W,Calls Tryz.prog 103 #[.int .i64 sc,ptv x] W fun e w'=>e=.returned (ptv y)∧Below W.heap.size W w'))
    (C3:Hid (∀ W q,RwG W q 1 (fun _=>y)→Calls Tryz.prog 102 #[.slice (some ⟨q,0,none⟩) 1 1] W fun e w'=>e=.returned (grv q 1 1 lo hi)∧Below W.heap.size W w'))
    (C4:Hid (∀ W,Calls Tryz.prog 104 #[pnv a b c,.int .i64 D] W fun e w'=>∃ v gs,e=.returned v∧gs.map Prod.snd=cutP D.toNat (a,b,c)∧w'.ownsRow W.heap.size 143 7 v gs.length (gcs gs)∧(∀ g,g ∈ gs→PtB w' g.1 g.2)∧Below W.heap.size W w'))
    (C5:Hid (∀ W v (gs:List (Nat × P9)) xb,W.ownsRow 0 143 7 v gs.length (gcs gs)→(∀ g,g ∈ gs→PtB W g.1 g.2)→gs.map Prod.snd=cutP D.toNat (a,b,c)→RwG W xb 1 (fun _=>y)→Calls Tryz.prog 105 #[v,.func (.func 106) #[vwv xb 1 1 lo hi sc (.func (.func 76) #[] #[])] #[]] W fun e w'=>e=.returned (.bool nz)∧Below W.heap.size W w'))
    (C6:Hid (nz=false→∀ W v (gs:List (Nat × P9)) xb,W.ownsRow 0 143 7 v gs.length (gcs gs)→(∀ g,g ∈ gs→PtB W g.1 g.2)→gs.map Prod.snd=cutP D.toNat (a,b,c)→RwG W xb 1 (fun _=>y)→Calls Tryz.prog 107 #[v,.func (.func 108) #[vwv xb 1 1 lo hi sc (.func (.func 76) #[] #[])] #[],.func (.func 109) #[vwv xb 1 1 lo hi sc (.func (.func 76) #[] #[])] #[]] W fun e w'=>e=.returned (.agg #[.int .i64 p,.int .i64 q])∧Below W.heap.size W w')) :
    Calls Tryz.prog 75 #[pnv a b c,ptv x,.int .i64 D,.func (.func 76) #[] #[]] w fun e w'=>e=.returned (spr (if nz=true then ((0,0),10) else ((p,q),0)))∧Below w.heap.size w w':=by
  obtain ⟨s1,s2,s3,s4⟩:=SB
  have P0:=Lib.hid (pan_alloc (pan_alloc (pan_new w a b c 59) (ptc x 24)) (.cells #[.int .i64 0,.int .i64 0] 34))
  have X0:=Lib.hid (own_alloc (own_new (w.alloc (pnc a b c 59)) x 24) (.cells #[.int .i64 0,.int .i64 0] 34))
  have R0:=Lib.hid (owp_new ((w.alloc (pnc a b c 59)).alloc (ptc x 24)) (0,0) 34)
  simp only [World.size_alloc] at X0 R0
  have B0:=Lib.hid (show Below w.heap.size w (((w.alloc (pnc a b c 59)).alloc (ptc x 24)).alloc (.cells #[.int .i64 0,.int .i64 0] 34)) by (repeat' (first | exact Below.refl _ _ | refine Below.setCell ?_ (by simp <;> omega) _ | refine balloc ?_ _ | refine Below.drew ?_ | refine bdrewN ?_ _)))
  go_enter Tryz.func75,Tryz.ntmps75
  go_wp2_with fail
  with_reducible refine (C1.out _).mono ?_
  rintro e w1 ⟨rfl,hb1⟩
  have P1:=Lib.hid (pan_below P0.out hb1)
  have X1:=Lib.hid (own_below X0.out hb1)
  have R1:=Lib.hid (owp_below R0.out hb1)
  have B1:=Lib.hid (bstep B0.out hb1)
  clear P0 X0 R0 B0 hb1
  obtain ⟨o0,o1,o2,o3,o4,o5,o6⟩:=id X1.out
  have sh:=SH.out
  go_wp2_with fail
  with_reducible refine (C2.out _).mono ?_
  rintro e w2 ⟨rfl,hb2⟩
  have P2:=Lib.hid (pan_below P1.out hb2)
  have R2:=Lib.hid (owp_below R1.out hb2)
  have B2:=Lib.hid (bstep B1.out hb2)
  clear P1 X1 R1 B1 hb2 o0 o1 o2 o3 o4 o5 o6
  have Q3:=Lib.hid (rwg_new1 w2 y 24)
  go_wp2_with fail
  with_reducible refine (C3.out _ _ Q3.out).mono ?_
  rintro e w3 ⟨rfl,hb3⟩
  have Q4:=Lib.hid (rwg_below Q3.out hb3)
  have P3':=Lib.hid (pan_below (pan_alloc P2.out _) hb3)
  have R3:=Lib.hid (owp_below (owp_alloc R2.out _) hb3)
  have B3:=Lib.hid (bstep (balloc B2.out _) hb3)
  clear P2 R2 B2 hb3 Q3
  have V4:=Lib.hid (vwp_new w3 w2.heap.size 1 1 lo hi sc (.func (.func 76) #[] #[]) 147)
  have P4:=Lib.hid (pan_alloc P3'.out (vwb w2.heap.size 1 1 lo hi sc (.func (.func 76) #[] #[]) 147))
  have R4:=Lib.hid (owp_alloc R3.out (vwb w2.heap.size 1 1 lo hi sc (.func (.func 76) #[] #[]) 147))
  have Q5:=Lib.hid (rwg_below Q4.out ((Below.refl _ _).alloc (Nat.le_refl _) (vwb w2.heap.size 1 1 lo hi sc (.func (.func 76) #[] #[]) 147)))
  have B4:=Lib.hid (balloc B3.out (vwb w2.heap.size 1 1 lo hi sc (.func (.func 76) #[] #[]) 147))
  clear P3' R3 B3 Q4
  obtain ⟨k0,k1,k2,k3,k4,k5,k6,k7,k8,k9⟩:=id P4.out
  go_wp2_with fail
  with_reducible refine (C4.out _).mono ?_
  rintro e w4 ⟨v,gs,rfl,hgs,hrow,hpt,hb4⟩
  have V5:=Lib.hid (vwp_in V4.out hb4 V4.out.2)
  have R5:=Lib.hid (owp_below R4.out hb4)
  have Q6:=Lib.hid (rwg_below Q5.out hb4)
  have B5:=Lib.hid (bstep B4.out hb4)
  have HR:=Lib.hid (own_base9 hrow (Nat.zero_le _))
  have HP:=Lib.hid hpt
  have HG:=Lib.hid hgs
  clear P4 R4 B4 Q5 V4 hb4 hrow hpt hgs k0 k1 k2 k3 k4 k5 k6 k7 k8 k9
  obtain ⟨⟨k0,k1,k2,k3,k4,k5,k6,k7,k8⟩,k9⟩:=id V5.out
  go_wp2_with fail
  with_reducible refine (C5.out _ v gs _ HR.out HP.out HG.out Q6.out).mono ?_
  rintro e w5 ⟨rfl,hb5⟩
  cases nz with
  | true =>
    obtain ⟨o0,o1,o2,o3,o4⟩:=owp_below R5.out hb5
    have hB:=bstep B5.out hb5
    clear R5 B5 k0 k1 k2 k3 k4 k5 k6 k7 k8 k9
    go_wp2
    refine bodyPost_ret (v:=spr ((0,0),10)) (by rw [results_cell_tmp rfl];go_simp) rfl ⟨rfl,?_⟩
    (repeat' (first | with_reducible exact hB | (with_reducible refine Below.setCell ?_ (by simp <;> omega) _)))
  | false =>
    have HR6:=Lib.hid (HR.out.kept (below_grown9 hb5) (by cases v.ownBlock <;> simp))
    have HP6:=Lib.hid (fun g hg=>ptb_below (HP.out g hg) hb5)
    have Q7:=Lib.hid (rwg_below Q6.out hb5)
    have R6:=Lib.hid (owp_below R5.out hb5)
    have B6:=Lib.hid (bstep B5.out hb5)
    have V6:=Lib.hid (vwp_in V5.out hb5 V5.out.2)
    clear R5 B5 Q6 HR HP V5 k0 k1 k2 k3 k4 k5 k6 k7 k8 k9
    obtain ⟨⟨k0,k1,k2,k3,k4,k5,k6,k7,k8⟩,k9⟩:=id V6.out
    go_wp2_with fail
    with_reducible refine (C6.out trivial _ v gs _ HR6.out HP6.out HG.out Q7.out).mono ?_
    rintro e w6 ⟨rfl,hb6⟩
    obtain ⟨o0,o1,o2,o3,o4⟩:=owp_below R6.out hb6
    have hB:=bstep B6.out hb6
    clear R6 B6 k0 k1 k2 k3 k4 k5 k6 k7 k8 k9
    go_wp2
    refine bodyPost_ret (v:=spr ((p,q),0)) (by rw [results_cell_tmp rfl];go_simp) rfl ⟨rfl,?_⟩
    (repeat' (first | with_reducible exact hB | (with_reducible refine Below.setCell ?_ (by simp <;> omega) _)))
end Go.Proofs.YtgchcnpgjfoadaaGreat
namespace Go.Proofs.YtgchcnpgjfoadaaGreat
open Go.ChangeShapes Go.WideShapes Go.RowKit
open Sh
theorem mn_bd9 {M a b:Int} (h:-M≤a∧a≤M) (k:-M≤b∧b≤M):-M≤Sp.mn a b∧Sp.mn a b≤M:=by rw [Sp.mn_eq];omega
theorem mx_bd9 {M a b:Int} (h:-M≤a∧a≤M) (k:-M≤b∧b≤M):-M≤Sp.mx a b∧Sp.mx a b≤M:=by rw [Sp.mx_eq];omega
theorem mn3_bd {M:Int} {a b:P3} (h:BdP M a) (k:BdP M b):BdP M (mn3 a b):=by
  obtain ⟨a1,a2,a3,a4,a5,a6⟩:=h
  obtain ⟨b1,b2,b3,b4,b5,b6⟩:=k
  have x:=mn_bd9 ⟨a1,a2⟩ ⟨b1,b2⟩
  have y:=mn_bd9 ⟨a3,a4⟩ ⟨b3,b4⟩
  have z:=mn_bd9 ⟨a5,a6⟩ ⟨b5,b6⟩
  exact ⟨x.1,x.2,y.1,y.2,z.1,z.2⟩
theorem mx3_bd {M:Int} {a b:P3} (h:BdP M a) (k:BdP M b):BdP M (mx3 a b):=by
  obtain ⟨a1,a2,a3,a4,a5,a6⟩:=h
  obtain ⟨b1,b2,b3,b4,b5,b6⟩:=k
  have x:=mx_bd9 ⟨a1,a2⟩ ⟨b1,b2⟩
  have y:=mx_bd9 ⟨a3,a4⟩ ⟨b3,b4⟩
  have z:=mx_bd9 ⟨a5,a6⟩ ⟨b5,b6⟩
  exact ⟨x.1,x.2,y.1,y.2,z.1,z.2⟩
theorem lo3_bd {M:Int} {t:P9} (h:BdT M t):BdP M (loN (P3F t) 3):=mn3_bd (mn3_bd (mn3_bd h.1 h.1) h.2.1) h.2.2
theorem hi3_bd {M:Int} {t:P9} (h:BdT M t):BdP M (hiN (P3F t) 3):=mx3_bd (mx3_bd (mx3_bd h.1 h.1) h.2.1) h.2.2
theorem lo1_eq (y:P3):loN (fun _=>y) 1=y:=by
  show mn3 y y=y
  unfold mn3
  simp only [Sp.mn_eq]
  exact Prod.ext (by show min y.1 y.1=y.1;omega) (Prod.ext (by show min y.2.1 y.2.1=y.2.1;omega) (by show min y.2.2 y.2.2=y.2.2;omega))
theorem hi1_eq (y:P3):hiN (fun _=>y) 1=y:=by
  show mx3 y y=y
  unfold mx3
  simp only [Sp.mx_eq]
  exact Prod.ext (by show max y.1 y.1=y.1;omega) (Prod.ext (by show max y.2.1 y.2.1=y.2.1;omega) (by show max y.2.2 y.2.2=y.2.2;omega))
theorem gA_snd {gs:List (Nat × P9)} {t:P9} {D:Int} (h:gs.map Prod.snd=cutP D.toNat t) {k:Nat} (hk:k < gs.length):(gA gs k).2=ptk t D k:=by
  unfold gA ptk
  rw [← h,List.getD_eq_getElem?_getD,List.getD_eq_getElem?_getD,List.getElem?_map,List.getElem?_eq_getElem hk]
  rfl
theorem gs_len {gs:List (Nat × P9)} {t:P9} {D:Int} (h:gs.map Prod.snd=cutP D.toNat t):gs.length=ptn D:=by
  have:=congrArg List.length h
  rw [List.length_map,cutP_len] at this
  exact this
theorem scl_vals {D:Int} (h0:0≤D) (h3:D≤3):wrap64 (2 ^ D.toNat)=scl D∧1≤scl D∧scl D≤8:=by
  have hd:D.toNat=0∨D.toNat=1∨D.toNat=2∨D.toNat=3:=by omega
  unfold scl
  rcases hd with e | e | e | e <;> rw [e] <;> exact ⟨by rw [← IntWalk.i64_left];exact IntWalk.i64_in _ (by decide),by decide,by decide⟩
theorem ptn_vals {D:Int} (h0:0≤D) (h3:D≤3):0 < ptn D∧ptn D≤64:=by
  have hd:D.toNat=0∨D.toNat=1∨D.toNat=2∨D.toNat=3:=by omega
  unfold ptn
  rcases hd with e | e | e | e <;> rw [e] <;> decide
theorem ptk_bd9 {t:P9} {D:Int} (hB:BdT 64 t) (h0:0≤D) (h3:D≤3) {k:Nat} (hk:k < ptn D):BdT 512 (ptk t D k):=by
  have hm:ptk t D k ∈ cutP D.toNat t:=by
    unfold ptk
    have hl:k < (cutP D.toNat t).length:=by rw [cutP_len];exact hk
    rw [List.getD_eq_getElem?_getD,List.getElem?_eq_getElem hl]
    exact List.getElem_mem hl
  have:=cutP_bd D.toNat hB _ hm
  refine this.mono ?_
  have hd:D.toNat=0∨D.toNat=1∨D.toNat=2∨D.toNat=3:=by omega
  rcases hd with e | e | e | e <;> rw [e] <;> decide
theorem tim_bd {x:P3} {s:Int} (hx:BdP 256 x) (s1:1≤s) (s2:s≤8):BdP 2048 (tim s x):=by
  obtain ⟨a1,a2,a3,a4,a5,a6⟩:=hx
  have x1:=mul_bd (A:=8) (B:=256) (by omega) s2 a1 a2
  have x2:=mul_bd (A:=8) (B:=256) (by omega) s2 a3 a4
  have x3:=mul_bd (A:=8) (B:=256) (by omega) s2 a5 a6
  simp only [BdP,tim]
  omega
theorem sub_bd9 {a y:P3} (h:BdP 512 a) (k:BdP 2048 y):BdP 2560 (sub a y):=by
  obtain ⟨a1,a2,a3,a4,a5,a6⟩:=h
  obtain ⟨b1,b2,b3,b4,b5,b6⟩:=k
  simp only [BdP,sub]
  omega
theorem sq_bd9 {v:P3} (h:BdP 2560 v):0≤sq v∧sq v≤19660800:=by
  refine ⟨sq_nn v,?_⟩
  obtain ⟨a1,a2,a3,a4,a5,a6⟩:=h
  have x1:=mul_bd a1 a2 a1 a2
  have x2:=mul_bd a3 a4 a3 a4
  have x3:=mul_bd a5 a6 a5 a6
  show v.1 * v.1 + v.2.1 * v.2.1 + v.2.2 * v.2.2≤19660800
  omega
theorem far_bd9 {t:P9} {y:P3} (h:BdT 512 t) (k:BdP 2048 y):farN t y≤19660800:=by
  have x1:=sq_bd9 (sub_bd9 h.1 k)
  have x2:=sq_bd9 (sub_bd9 h.2.1 k)
  have x3:=sq_bd9 (sub_bd9 h.2.2 k)
  show Sp.mx (Sp.mx (sq (sub t.1 y)) (sq (sub t.2.1 y))) (sq (sub t.2.2 y))≤19660800
  simp only [Sp.mx_eq]
  omega
theorem near_nn (t:P9) (y:P3):0≤nearN t y:=sq_nn _
theorem ki_any (n m:Int) (W:World):Calls Tryz.prog 76 #[.int .i64 n,.int .i64 m] W fun e w'=>e=.returned (spr (kV false n m))∧Below W.heap.size W w':=inv_any n m W
theorem mfi_ok (t:P9) (x:P3) (D:Int) (w:World) (h:snc t x D=0):Calls Tryz.prog 75 #[p9v t,ptv x,.int .i64 D,.func (.func 76) #[] #[]] w fun e w'=>e=.returned (spr (mnF false t x D))∧Below w.heap.size w w':=by
  obtain ⟨hB,hx,d0,d3⟩:=snc_ok h
  obtain ⟨sw,s1,s2⟩:=scl_vals d0 d3
  obtain ⟨n0,n1⟩:=ptn_vals d0 d3
  have hy:=tim_bd hx s1 s2
  have hres:mnF false t x D=(if anyz (ptd t D x) (ptn D)=true then ((0,0),10) else ((sm (mLo false t D x) (ptn D) / (ptn D:Int),(sm (mHi false t D x) (ptn D) + (ptn D:Int) - 1) / (ptn D:Int)),0)):=rfl
  rw [hres]
  refine mfwi t.1 t.2.1 t.2.2 x (tim (scl D) x) (tim (scl D) x) (tim (scl D) x) D (scl D) (anyz (ptd t D x) (ptn D)) _ _ w (Lib.hid sw) ⟨d0,d3,by omega,s2⟩
    (Lib.hid fun W=>by have z:=cks_any t x D W;rw [h] at z;exact z)
    (Lib.hid fun W=>ftimes_any (scl D) x W (hy.mono (by decide)))
    (Lib.hid fun W q r=>by have z:=groupof_any q 1 1 (fun _=>tim (scl D) x) W r (by decide) (by decide);rw [lo1_eq,hi1_eq] at z;exact z)
    (Lib.hid fun W=>(callsIn_wide (n:=6)).1 (pgroups_in 6 (by decide) t.1 t.2.1 t.2.2 D W hB d0 d3))
    (Lib.hid fun W v gs xb hrow hpt hgs hq=>?_) (Lib.hid fun nz W v gs xb hrow hpt hgs hq=>?_)
  · have hl:=gs_len hgs
    obtain ⟨q,cap,rfl,hr⟩:=rowgs_of hrow (by omega) hpt
    have z:=gctf_any xb 1 1 (tim (scl D) x) (tim (scl D) x) (scl D) (.func (.func 76) #[] #[]) q gs.length cap gs (ptd t D x) W hr (by omega) (Lib.hid fun k hk W'=>by
      have hb:=ptk_bd9 hB d0 d3 (k:=k) (by omega)
      have e:=gA_snd hgs hk
      have y:=ftouch_any (gA gs k).1 3 3 xb 1 1 (loN (P3F (gA gs k).2) 3) (hiN (P3F (gA gs k).2) 3) (tim (scl D) x) (tim (scl D) x) (scl D) (.func (.func 76) #[] #[]) W' ((lo3_bd (by rw [e];exact hb)).mono (by decide)) ((hi3_bd (by rw [e];exact hb)).mono (by decide)) (hy.mono (by decide)) (hy.mono (by decide))
      rw [nG_one] at y
      have e2:nearN (gA gs k).2 (tim (scl D) x)=ptd t D x k:=by rw [e];rfl
      rw [e2] at y
      exact y)
    rw [hl] at z ⊢
    exact z
  · have hl:=gs_len hgs
    obtain ⟨q,cap,rfl,hr⟩:=rowgs_of hrow (by omega) hpt
    have val:∀ k,k < ptn D→∀ m:Int,1≤m→m≤19660800→0≤(kV false m (scl D)).1.1∧(kV false m (scl D)).1.1≤(kV false m (scl D)).1.2∧(kV false m (scl D)).1.2≤1000000000:=fun k hk m m1 m2=>by
      obtain ⟨r,u,e,h1,h2⟩:=kV_val false m1 (by omega:m≤1099511627776) s1 s2
      rw [e]
      show 0≤(r:Int)∧(r:Int)≤(u:Int)∧(u:Int)≤1000000000
      omega
    have nf:∀ k,k < ptn D→1≤ptd t D x k∧ptd t D x k≤ptf t D x k∧ptf t D x k≤19660800:=fun k hk=>by
      have z1:=anyz_no nz k hk
      have z2:0≤ptd t D x k:=near_nn _ _
      have z3:ptd t D x k≤ptf t D x k:=near_far _ _
      have z4:ptf t D x k≤19660800:=far_bd9 (ptk_bd9 hB d0 d3 hk) hy
      omega
    have z:=gavg_any xb 1 1 (tim (scl D) x) (tim (scl D) x) (scl D) (.func (.func 76) #[] #[]) q gs.length cap gs (mLo false t D x) (mHi false t D x) W hr (by omega) (by omega)
      (fun k hk=>by
        obtain ⟨a1,a2,a3⟩:=nf k (by omega)
        have:=val k (by omega) (ptf t D x k) (by omega) a3
        exact ⟨this.1,by unfold mLo;omega⟩)
      (fun k hk=>by
        obtain ⟨a1,a2,a3⟩:=nf k (by omega)
        have:=val k (by omega) (ptd t D x k) a1 (by omega)
        exact ⟨by unfold mHi;omega,this.2.2⟩)
      (Lib.hid fun k hk W' B=>by
        have hb:=ptk_bd9 hB d0 d3 (k:=k) (by omega)
        have e:=gA_snd hgs hk
        have e2:fG (P3F (gA gs k).2) (fun _=>tim (scl D) x) 1 3=ptf t D x k:=by rw [fG_one,e];rfl
        have y:=floi_any (gA gs k).1 3 3 xb 1 1 (loN (P3F (gA gs k).2) 3) (hiN (P3F (gA gs k).2) 3) (tim (scl D) x) (tim (scl D) x) (scl D) (kV false (ptf t D x k) (scl D)) W' (P3F (gA gs k).2) (fun _=>tim (scl D) x) (rwg_below (ptb_row (hr.2 k hk).2) B) (rwg_below hq B) (by decide) (by decide) (fun i hi j _=>by
          rw [e]
          match i,hi with
          | 0,_=>exact (sub_bd9 hb.1 hy).mono (by decide)
          | 1,_=>exact (sub_bd9 hb.2.1 hy).mono (by decide)
          | 2,_=>exact (sub_bd9 hb.2.2 hy).mono (by decide)) (Lib.hid fun W2=>by rw [e2];exact ki_any _ _ W2)
        exact y)
      (Lib.hid fun k hk W' B=>by
        have hb:=ptk_bd9 hB d0 d3 (k:=k) (by omega)
        have e:=gA_snd hgs hk
        have e2:nG (loN (P3F (gA gs k).2) 3) (hiN (P3F (gA gs k).2) 3) (tim (scl D) x) (tim (scl D) x)=ptd t D x k:=by rw [nG_one,e];rfl
        have y:=fhii_any (gA gs k).1 3 3 xb 1 1 (loN (P3F (gA gs k).2) 3) (hiN (P3F (gA gs k).2) 3) (tim (scl D) x) (tim (scl D) x) (scl D) (kV false (ptd t D x k) (scl D)) W' ((lo3_bd (by rw [e];exact hb)).mono (by decide)) ((hi3_bd (by rw [e];exact hb)).mono (by decide)) (hy.mono (by decide)) (hy.mono (by decide)) (Lib.hid fun W2=>by rw [e2];exact ki_any _ _ W2)
        exact y)
    rw [hl] at z ⊢
    exact z
end Go.Proofs.YtgchcnpgjfoadaaGreat
namespace Go.Proofs.YtgchcnpgjfoadaaGreat
open Go.ChangeShapes Go.WideShapes Go.RowKit
open Sh
theorem mfi_no (t:P9) (x:P3) (D pc:Int) (w:World) (V:Hid (∀ W,Calls Tryz.prog 101 #[p9v t,ptv x,.int .i64 D] W fun e w'=>e=.returned (.int .i64 pc)∧Below W.heap.size W w')) (z:(pc != 0)=true) :
    Calls Tryz.prog 75 #[p9v t,ptv x,.int .i64 D,.func (.func 76) #[] #[]] w fun e w'=>e=.returned (spr ((0,0),pc))∧Below w.heap.size w w':=by
  obtain ⟨a,b,c⟩:=t
  have R0:=Lib.hid (owp_new ((w.alloc (pnc a b c 59)).alloc (ptc x 24)) (0,0) 34)
  have B0:=Lib.hid (show Below w.heap.size w (((w.alloc (pnc a b c 59)).alloc (ptc x 24)).alloc (.cells #[.int .i64 0,.int .i64 0] 34)) by (repeat' (first | exact Below.refl _ _ | refine Below.setCell ?_ (by simp <;> omega) _ | refine balloc ?_ _ | refine Below.drew ?_ | refine bdrewN ?_ _)))
  simp only [World.size_alloc] at R0
  go_enter Tryz.func75,Tryz.ntmps75
  go_wp2_with fail
  refine (V.out _).mono ?_
  rintro e w1 ⟨rfl,hb1⟩
  obtain ⟨o0,o1,o2,o3,o4⟩:=owp_below R0.out hb1
  have hB:=bstep B0.out hb1
  clear R0 B0
  go_wp2
  refine bodyPost_ret (v:=spr ((0,0),pc)) (by rw [results_cell_tmp rfl];go_simp) rfl ⟨rfl,?_⟩
  (repeat' (first | with_reducible exact hB | (with_reducible refine Below.setCell ?_ (by simp <;> omega) _)))
theorem mfni_any (t:P9) (x:P3) (D:Int) (w:World):Calls Tryz.prog 75 #[p9v t,ptv x,.int .i64 D,.func (.func 76) #[] #[]] w fun e w'=>e=.returned (spr (meF false t x D))∧Below w.heap.size w w':=by
  unfold meF
  by_cases h:snc t x D=0
  · rw [if_pos h]
    exact mfi_ok t x D w h
  · rw [if_neg h]
    exact mfi_no t x D _ w (Lib.hid fun W=>cks_any t x D W) (bne_iff_ne.2 h)
theorem meani_any (t:P9) (x:P3) (D:Int) (w:World):Calls Tryz.prog 54 #[p9v t,ptv x,.int .i64 D] w fun e w'=>e=.returned (spr (meF false t x D))∧Below w.heap.size w w':=by
  have V:=Lib.hid (fun W=>mfni_any t x D W)
  obtain ⟨a,b,c⟩:=t
  generalize meF false (a,b,c) x D=r at *
  have R0:=Lib.hid (owp_new ((w.alloc (pnc a b c 59)).alloc (ptc x 24)) (0,0) 34)
  have B0:=Lib.hid (show Below w.heap.size w (((w.alloc (pnc a b c 59)).alloc (ptc x 24)).alloc (.cells #[.int .i64 0,.int .i64 0] 34)) by (repeat' (first | exact Below.refl _ _ | refine Below.setCell ?_ (by simp <;> omega) _ | refine balloc ?_ _ | refine Below.drew ?_ | refine bdrewN ?_ _)))
  simp only [World.size_alloc] at R0
  go_enter Tryz.func54,Tryz.ntmps54
  go_wp2_with fail
  refine (V.out _).mono ?_
  rintro e w1 ⟨rfl,hb1⟩
  obtain ⟨o0,o1,o2,o3,o4⟩:=owp_below R0.out hb1
  have hB:=bstep B0.out hb1
  clear R0 B0
  go_wp2
  refine bodyPost_ret (v:=spr r) (by rw [results_cell_tmp rfl];go_simp) rfl ⟨rfl,?_⟩
  (repeat' (first | with_reducible exact hB | (with_reducible refine Below.setCell ?_ (by simp <;> omega) _)))
end Go.Proofs.YtgchcnpgjfoadaaGreat
