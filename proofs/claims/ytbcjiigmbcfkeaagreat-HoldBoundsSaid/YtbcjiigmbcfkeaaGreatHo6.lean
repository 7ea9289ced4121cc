import Derived.Test.YtbcjiigmbcfkeaaGreatHo5
import Derived.Test.YtbcjiigmbcfkeaaGreatHoMa
import Derived.RegionTactic
import Derived.BigRegion
import Derived.Deep.RegionHeld3
namespace Go.Proofs.YtbcjiigmbcfkeaaGreat
open Go.ChangeShapes Go.WideShapes Go.RowKit
open Sh
attribute [local go_sem 1000000] run_min_mn run_max_mx
theorem h7ix3_0 (a b c:Int) (w:World):(Instr.index 116 (.agg #[.int .i64 a,.int .i64 b,.int .i64 c]) (.int .i64 0)).run Tryz.prog w=.ok (.int .i64 a) w:=by kernel_rfl
theorem h7ix3_1 (a b c:Int) (w:World):(Instr.index 116 (.agg #[.int .i64 a,.int .i64 b,.int .i64 c]) (.int .i64 1)).run Tryz.prog w=.ok (.int .i64 b) w:=by kernel_rfl
theorem h7ix3_2 (a b c:Int) (w:World):(Instr.index 116 (.agg #[.int .i64 a,.int .i64 b,.int .i64 c]) (.int .i64 2)).run Tryz.prog w=.ok (.int .i64 c) w:=by kernel_rfl
set_option maxHeartbeats 1000000 in
theorem hmay_any (a:P3) (w:World):Calls Tryz.prog 69 #[ptv a] w fun e w'=>e=.returned (.bool (inP 256 a))∧Below w.heap.size w w':=by
  have E:inP 256 a=(rngB a.1 (-256) 256 && (rngB a.2.1 (-256) 256 && rngB a.2.2 (-256) 256)):=by
    unfold inP rngB
    rw [Bool.eq_iff_iff]
    simp only [decide_eq_true_eq,Bool.and_eq_true]
    constructor
    · rintro ⟨h1,h2,h3,h4,h5,h6⟩;exact ⟨⟨h1,h2⟩,⟨h3,h4⟩,h5,h6⟩
    · rintro ⟨⟨h1,h2⟩,⟨h3,h4⟩,h5,h6⟩;exact ⟨h1,h2,h3,h4,h5,h6⟩
  rw [E]
  clear E
  have x0:=h7ix3_0 a.1 a.2.1 a.2.2
  have x1:=h7ix3_1 a.1 a.2.1 a.2.2
  have x2:=h7ix3_2 a.1 a.2.1 a.2.2
  cases h0:rngB a.1 (-256) 256 with
  | false =>
    have R0:=Lib.hid (fun W=>(h0 ▸ hinr_any a.1 (-256) 256 W:Calls Tryz.prog 102 #[.int .i64 a.1,.int .i64 (-256),.int .i64 256] W fun e w'=>e=.returned (.bool false)∧W=w'))
    clear h0
    go_enter Tryz.func69,Tryz.ntmps69
    go_wp2
    refine wp_loop_rounds 4 ?_
    rw [rounds_succ]
    go_wp2_with fail
    with_reducible refine (R0.out _).mono ?_
    rintro e w1 ⟨rfl,rfl⟩
    go_wp2
    go_ret
    exact ⟨rfl,by (repeat' (first|exact Below.refl _ _|refine Below.setCell ?_ (by simp <;> omega) _|refine balloc ?_ _|refine Below.drew ?_|refine bdrewN ?_ _))⟩
  | true =>
    cases h1:rngB a.2.1 (-256) 256 with
    | false =>
      have R0:=Lib.hid (fun W=>(h0 ▸ hinr_any a.1 (-256) 256 W:Calls Tryz.prog 102 #[.int .i64 a.1,.int .i64 (-256),.int .i64 256] W fun e w'=>e=.returned (.bool true)∧W=w'))
      have R1:=Lib.hid (fun W=>(h1 ▸ hinr_any a.2.1 (-256) 256 W:Calls Tryz.prog 102 #[.int .i64 a.2.1,.int .i64 (-256),.int .i64 256] W fun e w'=>e=.returned (.bool false)∧W=w'))
      clear h0 h1
      go_enter Tryz.func69,Tryz.ntmps69
      go_wp2
      refine wp_loop_rounds 4 ?_
      rw [rounds_succ]
      go_wp2_with fail
      with_reducible refine (R0.out _).mono ?_
      rintro e w1 ⟨rfl,rfl⟩
      go_wp2
      rw [rounds_succ]
      go_wp2_with fail
      with_reducible refine (R1.out _).mono ?_
      rintro e w1 ⟨rfl,rfl⟩
      go_wp2
      go_ret
      exact ⟨rfl,by (repeat' (first|exact Below.refl _ _|refine Below.setCell ?_ (by simp <;> omega) _|refine balloc ?_ _|refine Below.drew ?_|refine bdrewN ?_ _))⟩
    | true =>
      cases h2:rngB a.2.2 (-256) 256 with
      | false =>
        have R0:=Lib.hid (fun W=>(h0 ▸ hinr_any a.1 (-256) 256 W:Calls Tryz.prog 102 #[.int .i64 a.1,.int .i64 (-256),.int .i64 256] W fun e w'=>e=.returned (.bool true)∧W=w'))
        have R1:=Lib.hid (fun W=>(h1 ▸ hinr_any a.2.1 (-256) 256 W:Calls Tryz.prog 102 #[.int .i64 a.2.1,.int .i64 (-256),.int .i64 256] W fun e w'=>e=.returned (.bool true)∧W=w'))
        have R2:=Lib.hid (fun W=>(h2 ▸ hinr_any a.2.2 (-256) 256 W:Calls Tryz.prog 102 #[.int .i64 a.2.2,.int .i64 (-256),.int .i64 256] W fun e w'=>e=.returned (.bool false)∧W=w'))
        clear h0 h1 h2
        go_enter Tryz.func69,Tryz.ntmps69
        go_wp2
        refine wp_loop_rounds 4 ?_
        rw [rounds_succ]
        go_wp2_with fail
        with_reducible refine (R0.out _).mono ?_
        rintro e w1 ⟨rfl,rfl⟩
        go_wp2
        rw [rounds_succ]
        go_wp2_with fail
        with_reducible refine (R1.out _).mono ?_
        rintro e w1 ⟨rfl,rfl⟩
        go_wp2
        rw [rounds_succ]
        go_wp2_with fail
        with_reducible refine (R2.out _).mono ?_
        rintro e w1 ⟨rfl,rfl⟩
        go_wp2
        go_ret
        exact ⟨rfl,by (repeat' (first|exact Below.refl _ _|refine Below.setCell ?_ (by simp <;> omega) _|refine balloc ?_ _|refine Below.drew ?_|refine bdrewN ?_ _))⟩
      | true =>
        have R0:=Lib.hid (fun W=>(h0 ▸ hinr_any a.1 (-256) 256 W:Calls Tryz.prog 102 #[.int .i64 a.1,.int .i64 (-256),.int .i64 256] W fun e w'=>e=.returned (.bool true)∧W=w'))
        have R1:=Lib.hid (fun W=>(h1 ▸ hinr_any a.2.1 (-256) 256 W:Calls Tryz.prog 102 #[.int .i64 a.2.1,.int .i64 (-256),.int .i64 256] W fun e w'=>e=.returned (.bool true)∧W=w'))
        have R2:=Lib.hid (fun W=>(h2 ▸ hinr_any a.2.2 (-256) 256 W:Calls Tryz.prog 102 #[.int .i64 a.2.2,.int .i64 (-256),.int .i64 256] W fun e w'=>e=.returned (.bool true)∧W=w'))
        clear h0 h1 h2
        go_enter Tryz.func69,Tryz.ntmps69
        go_wp2
        refine wp_loop_rounds 4 ?_
        rw [rounds_succ]
        go_wp2_with fail
        with_reducible refine (R0.out _).mono ?_
        rintro e w1 ⟨rfl,rfl⟩
        go_wp2
        rw [rounds_succ]
        go_wp2_with fail
        with_reducible refine (R1.out _).mono ?_
        rintro e w1 ⟨rfl,rfl⟩
        go_wp2
        rw [rounds_succ]
        go_wp2_with fail
        with_reducible refine (R2.out _).mono ?_
        rintro e w1 ⟨rfl,rfl⟩
        go_wp2
        rw [rounds_succ]
        go_wp2
        go_ret
        exact ⟨rfl,by (repeat' (first|exact Below.refl _ _|refine Below.setCell ?_ (by simp <;> omega) _|refine balloc ?_ _|refine Below.drew ?_|refine bdrewN ?_ _))⟩
def h7szI (n:Int):Int:=Sp.mx n (wrap64 (-n))
theorem h7szI_le {n L:Int} (h0:0≤L) (hL:L≤4611686018427387904):(h7szI n≤L∧-L≤n) ↔ (-L≤n∧n≤L):=by
  unfold h7szI Sp.mx
  constructor
  · rintro ⟨h,k⟩
    refine ⟨k,?_⟩
    split at h <;> omega
  · rintro ⟨h,k⟩
    refine ⟨?_,h⟩
    have e:wrap64 (-n)=-n:=IntWalk.wrap64_in _ (by omega)
    rw [e]
    split <;> omega
theorem h7size_any (n:Int) (w:World) :
    Calls Tryz.prog 125 #[.int .i64 n] w fun e w'=>e=.returned (.int .i64 (h7szI n))∧w=w':=by
  go_enter Tryz.func125,Tryz.ntmps125
  go_wp2
  go_ret
  exact ⟨rfl,rfl⟩
theorem h7inP_sz (a:P3) (L:Int) (h0:0≤L) (hL:L≤4611686018427387904):inP L a=(decide (h7szI a.1≤L) && decide (h7szI a.2.1≤L) && decide (h7szI a.2.2≤L) && decide (-L≤a.1) && decide (-L≤a.2.1) && decide (-L≤a.2.2)):=by
  have x:=h7szI_le (n:=a.1) h0 hL
  have y:=h7szI_le (n:=a.2.1) h0 hL
  have z:=h7szI_le (n:=a.2.2) h0 hL
  unfold inP
  rw [Bool.eq_iff_iff]
  simp only [decide_eq_true_eq,Bool.and_eq_true]
  constructor
  · rintro ⟨h1,h2,h3,h4,h5,h6⟩
    exact ⟨⟨⟨⟨⟨(x.2 ⟨h1,h2⟩).1,(y.2 ⟨h3,h4⟩).1⟩,(z.2 ⟨h5,h6⟩).1⟩,h1⟩,h3⟩,h5⟩
  · rintro ⟨⟨⟨⟨⟨h1,h2⟩,h3⟩,h4⟩,h5⟩,h6⟩
    exact ⟨h4,(x.1 ⟨h1,h4⟩).2,h5,(y.1 ⟨h2,h5⟩).2,h6,(z.1 ⟨h3,h6⟩).2⟩
set_option maxHeartbeats 1000000 in
theorem h7small_any (a:P3) (L:Int) (w:World) (b1:0≤L) (b2:L≤4611686018427387904) :
    Calls Tryz.prog 72 #[ptv a,.int .i64 L] w fun e w'=>e=.returned (.bool (inP L a))∧Below w.heap.size w w':=by
  cases h0:decide (h7szI a.1≤L) with
  | false =>
    rw [h7inP_sz a L b1 b2,h0]
    go_enter Tryz.func72,Tryz.ntmps72
    go_wp2_with (go_at_call 125;(with_reducible refine (h7size_any _ _).mono ?_);rintro e w' ⟨rfl,rfl⟩)
    go_ret
    exact ⟨rfl,by (repeat' (first|exact Below.refl _ _|refine Below.setCell ?_ (by simp <;> omega) _|refine balloc ?_ _|refine Below.drew ?_|refine bdrewN ?_ _))⟩
  | true =>
    cases h1:decide (h7szI a.2.1≤L) with
    | false =>
      rw [h7inP_sz a L b1 b2,h0,h1]
      go_enter Tryz.func72,Tryz.ntmps72
      go_wp2_with (go_at_call 125;(with_reducible refine (h7size_any _ _).mono ?_);rintro e w' ⟨rfl,rfl⟩)
      go_ret
      exact ⟨rfl,by (repeat' (first|exact Below.refl _ _|refine Below.setCell ?_ (by simp <;> omega) _|refine balloc ?_ _|refine Below.drew ?_|refine bdrewN ?_ _))⟩
    | true =>
      cases h2:decide (h7szI a.2.2≤L) with
      | false =>
        rw [h7inP_sz a L b1 b2,h0,h1,h2]
        go_enter Tryz.func72,Tryz.ntmps72
        go_wp2_with (go_at_call 125;(with_reducible refine (h7size_any _ _).mono ?_);rintro e w' ⟨rfl,rfl⟩)
        go_ret
        exact ⟨rfl,by (repeat' (first|exact Below.refl _ _|refine Below.setCell ?_ (by simp <;> omega) _|refine balloc ?_ _|refine Below.drew ?_|refine bdrewN ?_ _))⟩
      | true =>
        cases h3:decide (-L≤a.1) with
        | false =>
          rw [h7inP_sz a L b1 b2,h0,h1,h2,h3]
          go_enter Tryz.func72,Tryz.ntmps72
          go_wp2_with (go_at_call 125;(with_reducible refine (h7size_any _ _).mono ?_);rintro e w' ⟨rfl,rfl⟩)
          go_ret
          exact ⟨rfl,by (repeat' (first|exact Below.refl _ _|refine Below.setCell ?_ (by simp <;> omega) _|refine balloc ?_ _|refine Below.drew ?_|refine bdrewN ?_ _))⟩
        | true =>
          cases h4:decide (-L≤a.2.1) with
          | false =>
            rw [h7inP_sz a L b1 b2,h0,h1,h2,h3,h4]
            go_enter Tryz.func72,Tryz.ntmps72
            go_wp2_with (go_at_call 125;(with_reducible refine (h7size_any _ _).mono ?_);rintro e w' ⟨rfl,rfl⟩)
            go_ret
            exact ⟨rfl,by (repeat' (first|exact Below.refl _ _|refine Below.setCell ?_ (by simp <;> omega) _|refine balloc ?_ _|refine Below.drew ?_|refine bdrewN ?_ _))⟩
          | true =>
            cases h5:decide (-L≤a.2.2) with
            | false =>
              rw [h7inP_sz a L b1 b2,h0,h1,h2,h3,h4,h5]
              go_enter Tryz.func72,Tryz.ntmps72
              go_wp2_with (go_at_call 125;(with_reducible refine (h7size_any _ _).mono ?_);rintro e w' ⟨rfl,rfl⟩)
              go_ret
              exact ⟨rfl,by (repeat' (first|exact Below.refl _ _|refine Below.setCell ?_ (by simp <;> omega) _|refine balloc ?_ _|refine Below.drew ?_|refine bdrewN ?_ _))⟩
            | true =>
              rw [h7inP_sz a L b1 b2,h0,h1,h2,h3,h4,h5]
              go_enter Tryz.func72,Tryz.ntmps72
              go_wp2_with (go_at_call 125;(with_reducible refine (h7size_any _ _).mono ?_);rintro e w' ⟨rfl,rfl⟩)
              go_ret
              exact ⟨rfl,by (repeat' (first|exact Below.refl _ _|refine Below.setCell ?_ (by simp <;> omega) _|refine balloc ?_ _|refine Below.drew ?_|refine bdrewN ?_ _))⟩
theorem h7minus4_any (a b:P3) (w:World) (h:BdP 4611686018427387904 (sub a b)) :
    Calls Tryz.prog 74 #[ptv a,ptv b] w fun e w'=>e=.returned (ptv (sub a b))∧Below w.heap.size w w':=by
  simp only [BdP,sub] at h
  obtain ⟨h1,h2,h3,h4,h5,h6⟩:=h
  go_enter Tryz.func74,Tryz.ntmps74
  go_wp2
  refine bodyPost_ret (v:=ptv (sub a b)) (by rw [results_cell rfl];go_simp;exact ⟨rfl,rfl,rfl⟩) rfl ⟨rfl,?_⟩
  (repeat' (first|exact Below.refl _ _|refine Below.setCell ?_ (by simp <;> omega) _|refine balloc ?_ _|refine Below.drew ?_|refine bdrewN ?_ _))
theorem h7square4_any (a:P3) (w:World) (h:BdP 1152921504606846976 (pw a a)) :
    Calls Tryz.prog 73 #[ptv a] w fun e w'=>e=.returned (.int .i64 (sq a))∧Below w.heap.size w w':=by
  simp only [BdP,pw] at h
  obtain ⟨h1,h2,h3,h4,h5,h6⟩:=h
  go_enter Tryz.func73,Tryz.ntmps73
  go_wp2
  go_ret
  exact ⟨rfl,by (repeat' (first|exact Below.refl _ _|refine Below.setCell ?_ (by simp <;> omega) _|refine balloc ?_ _|refine Below.drew ?_|refine bdrewN ?_ _))⟩
theorem d64_256 {a b:P3} (ha:BdP 64 a) (hb:BdP 256 b):(-320≤a.1 - b.1∧a.1 - b.1≤320∧-320≤a.2.1 - b.2.1∧a.2.1 - b.2.1≤320∧-320≤a.2.2 - b.2.2∧a.2.2 - b.2.2≤320) ∧
    (0≤(a.1 - b.1)*(a.1 - b.1)∧(a.1 - b.1)*(a.1 - b.1)≤102400∧0≤(a.2.1 - b.2.1)*(a.2.1 - b.2.1)∧(a.2.1 - b.2.1)*(a.2.1 - b.2.1)≤102400∧0≤(a.2.2 - b.2.2)*(a.2.2 - b.2.2)∧(a.2.2 - b.2.2)*(a.2.2 - b.2.2)≤102400):=by
  obtain ⟨a1,a2,a3,a4,a5,a6⟩:=ha
  obtain ⟨b1,b2,b3,b4,b5,b6⟩:=hb
  have x1:=mul_bd (A:=320) (B:=320) (x:=a.1 - b.1) (y:=a.1 - b.1) (by omega) (by omega) (by omega) (by omega)
  have x2:=mul_bd (A:=320) (B:=320) (x:=a.2.1 - b.2.1) (y:=a.2.1 - b.2.1) (by omega) (by omega) (by omega) (by omega)
  have x3:=mul_bd (A:=320) (B:=320) (x:=a.2.2 - b.2.2) (y:=a.2.2 - b.2.2) (by omega) (by omega) (by omega) (by omega)
  have y1:=sqn7 (a.1 - b.1)
  have y2:=sqn7 (a.2.1 - b.2.1)
  have y3:=sqn7 (a.2.2 - b.2.2)
  omega
set_option maxRecDepth 100000 in
set_option maxHeartbeats 2000000 in
theorem hsq_any (a b:P3) (w:World) (ha:BdP 64 a) (hb:BdP 256 b) :
    Calls Tryz.prog 70 #[ptv a,ptv b] w fun e w'=>e=.returned (.int .i64 (sq (sub a b)))∧Below w.heap.size w w':=by
  obtain ⟨⟨d1,d2,d3,d4,d5,d6⟩,e1,e2,e3,e4,e5,e6⟩:=d64_256 ha hb
  clear ha hb
  go_enter Tryz.func70,Tryz.ntmps70
  go_wp2
  go_region
  go_wp2
  go_ret
  exact ⟨rfl,by (repeat' (first|exact Below.refl _ _|refine Below.setCell ?_ (by simp <;> omega) _|refine balloc ?_ _|refine Below.drew ?_|refine bdrewN ?_ _))⟩
set_option maxRecDepth 100000 in
set_option maxHeartbeats 2000000 in
theorem hmid_any (a b:P3) (w:World) (ha:BdP 64 a) (hb:BdP 64 b) :
    Calls Tryz.prog 128 #[ptv a,ptv b] w fun e w'=>e=.returned (ptv (mid a b))∧Below w.heap.size w w':=by
  obtain ⟨a1,a2,a3,a4,a5,a6⟩:=ha
  obtain ⟨b1,b2,b3,b4,b5,b6⟩:=hb
  go_enter Tryz.func128,Tryz.ntmps128
  go_wp2
  refine bodyPost_ret (v:=ptv (mid a b)) (by rw [results_cell rfl];go_simp;exact ⟨rfl,rfl,rfl⟩) rfl ⟨rfl,?_⟩
  (repeat' (first|exact Below.refl _ _|refine Below.setCell ?_ (by simp <;> omega) _|refine balloc ?_ _|refine Below.drew ?_|refine bdrewN ?_ _))
set_option maxRecDepth 100000 in
set_option maxHeartbeats 2000000 in
theorem hbl_v (a:Option Addr) (np c:Nat) (a':Option Addr) (nf c':Nat) (x:P3) (vc:Int) (w:World) (V:Hid (∀ W,Below w.heap.size w W→Calls Tryz.prog 48 #[msv a np c a' nf c'] W fun e w'=>e=.returned (.int .i64 vc)∧Below W.heap.size W w')) (z:(vc != 0)=true):Calls Tryz.prog 30 #[msv a np c a' nf c',ptv x] w fun e w'=>e=.returned (.tuple #[.int .i64 0,.int .i64 vc])∧Below w.heap.size w w':=by
  have M0:=Lib.hid (mes_alloc (mes_new w a np c a' nf c' 25) (ptc x 44))
  have X0:=Lib.hid (own_new (w.alloc (msc a np c a' nf c' 25)) x 44)
  simp only [World.size_alloc] at X0
  have B0:=Lib.hid (show Below w.heap.size w ((w.alloc (msc a np c a' nf c' 25)).alloc (ptc x 44)) from balloc (balloc (Below.refl _ w) _) _)
  obtain ⟨m0,m1,ml⟩:=M0.out
  obtain ⟨x0,x1,x2,x3,x4,x5,xl⟩:=X0.out
  go_enter Tryz.func30,Tryz.ntmps30
  go_wp2_with fail
  with_reducible refine (V.out _ B0.out).mono ?_
  rintro e w1 ⟨rfl,hb1⟩
  have hB:=bstep B0.out hb1
  clear hb1 m0 m1 ml M0 B0 x0 x1 x2 x3 x4 x5 xl X0
  go_wp2
  go_ret2
  exact ⟨rfl,by (repeat' (first|with_reducible exact hB|with_reducible refine Below.drew ?_|(with_reducible refine Below.setCell ?_ (by simp <;> omega) _)))⟩
set_option maxRecDepth 100000 in
set_option maxHeartbeats 2000000 in
theorem hbl_n (a:Option Addr) (np c:Nat) (a':Option Addr) (nf c':Nat) (x:P3) (vc:Int) (v:Bool) (w:World) (V:Hid (∀ W,Below w.heap.size w W→Calls Tryz.prog 48 #[msv a np c a' nf c'] W fun e w'=>e=.returned (.int .i64 vc)∧Below W.heap.size W w')) (MY:Hid (∀ W,Below w.heap.size w W→Calls Tryz.prog 69 #[ptv x] W fun e w'=>e=.returned (.bool v)∧Below W.heap.size W w')) (z:(vc != 0)=false) (y:v=false):Calls Tryz.prog 30 #[msv a np c a' nf c',ptv x] w fun e w'=>e=.returned (.tuple #[.int .i64 0,.int .i64 1])∧Below w.heap.size w w':=by
  have M0:=Lib.hid (mes_alloc (mes_new w a np c a' nf c' 25) (ptc x 44))
  have X0:=Lib.hid (own_new (w.alloc (msc a np c a' nf c' 25)) x 44)
  simp only [World.size_alloc] at X0
  have B0:=Lib.hid (show Below w.heap.size w ((w.alloc (msc a np c a' nf c' 25)).alloc (ptc x 44)) from balloc (balloc (Below.refl _ w) _) _)
  obtain ⟨m0,m1,ml⟩:=M0.out
  obtain ⟨x0,x1,x2,x3,x4,x5,xl⟩:=X0.out
  subst y
  go_enter Tryz.func30,Tryz.ntmps30
  go_wp2_with fail
  with_reducible refine (V.out _ B0.out).mono ?_
  rintro e w1 ⟨rfl,hb1⟩
  have M1:=Lib.hid (mes_below M0.out hb1)
  have X1:=Lib.hid (own_below X0.out hb1)
  have B1:=Lib.hid (bstep B0.out hb1)
  clear hb1 m0 m1 ml x0 x1 x2 x3 x4 x5 xl
  obtain ⟨m0,m1,ml⟩:=M1.out
  obtain ⟨x0,x1,x2,x3,x4,x5,xl⟩:=X1.out
  go_wp2_with fail
  with_reducible refine (MY.out _ B1.out).mono ?_
  rintro e w2 ⟨rfl,hb2⟩
  have hB:=bstep B1.out hb2
  clear hb2 m0 m1 ml x0 x1 x2 x3 x4 x5 xl
  go_wp2
  go_ret2
  exact ⟨rfl,by (repeat' (first|with_reducible exact hB|with_reducible refine Below.drew ?_|(with_reducible refine Below.setCell ?_ (by simp <;> omega) _)))⟩
set_option maxRecDepth 100000 in
set_option maxHeartbeats 4000000 in
theorem hbl_l (a:Option Addr) (np c:Nat) (a':Option Addr) (nf c':Nat) (x:P3) (vc:Int) (v:Bool) (P:Nat→P3) (R:Sp.R) (w:World) (V:Hid (∀ W,Below w.heap.size w W→Calls Tryz.prog 48 #[msv a np c a' nf c'] W fun e w'=>e=.returned (.int .i64 vc)∧Below W.heap.size W w')) (MY:Hid (∀ W,Below w.heap.size w W→Calls Tryz.prog 69 #[ptv x] W fun e w'=>e=.returned (.bool v)∧Below W.heap.size W w')) (LEN:Hid (∀ W,Calls Tryz.prog 71 #[.int .i64 (mxl (dsq P x) np)] W fun e w'=>e=.returned (spr R)∧Below W.heap.size W w')) (z:(vc != 0)=false) (y:v=true) (rp:Lst w a np P) (hn:np≤64) (hP:∀ k,k<np→BdP 64 (P k)) (hx:BdP 256 x):Calls Tryz.prog 30 #[msv a np c a' nf c',ptv x] w fun e w'=>e=.returned (.tuple #[.int .i64 R.1.2,.int .i64 R.2])∧Below w.heap.size w w':=by
  have M0:=Lib.hid (mes_alloc (mes_new w a np c a' nf c' 25) (ptc x 44))
  have X0:=Lib.hid (own_new (w.alloc (msc a np c a' nf c' 25)) x 44)
  simp only [World.size_alloc] at X0
  have B0:=Lib.hid (show Below w.heap.size w ((w.alloc (msc a np c a' nf c' 25)).alloc (ptc x 44)) from balloc (balloc (Below.refl _ w) _) _)
  obtain ⟨m0,m1,ml⟩:=M0.out
  obtain ⟨x0,x1,x2,x3,x4,x5,xl⟩:=X0.out
  subst y
  have RP:=Lib.hid rp
  have HP:=Lib.hid hP
  have HX:=Lib.hid hx
  have hn':(np:Int)≤64:=by omega
  clear rp hP hx
  go_enter Tryz.func30,Tryz.ntmps30
  go_wp2_with fail
  with_reducible refine (V.out _ B0.out).mono ?_
  rintro e w1 ⟨rfl,hb1⟩
  have M1:=Lib.hid (mes_below M0.out hb1)
  have X1:=Lib.hid (own_below X0.out hb1)
  have B1:=Lib.hid (bstep B0.out hb1)
  clear hb1 m0 m1 ml x0 x1 x2 x3 x4 x5 xl
  obtain ⟨m0,m1,ml⟩:=M1.out
  obtain ⟨x0,x1,x2,x3,x4,x5,xl⟩:=X1.out
  go_wp2_with fail
  with_reducible refine (MY.out _ B1.out).mono ?_
  rintro e w2 ⟨rfl,hb2⟩
  have M2:=Lib.hid (mes_below M1.out hb2)
  have X2:=Lib.hid (own_below X1.out hb2)
  have B2:=Lib.hid (bstep B1.out hb2)
  clear hb2 m0 m1 ml x0 x1 x2 x3 x4 x5 xl
  obtain ⟨m0,m1,ml⟩:=M2.out
  obtain ⟨x0,x1,x2,x3,x4,x5,xl⟩:=X2.out
  have RP2:=Lib.hid (lst_below RP.out B2.out)
  have l2:w.heap.size+1<w2.heap.size:=xl
  clear RP M0 M1 X0 X1
  go_wp2
  go_loopw [7,23] (fun sv kv wr=>∃ k:Nat,k≤np∧kv=.int .i64 k∧sv=.int .i64 (mxl (dsq P x) k)∧Below w2.heap.size w2 wr) (fun _ kv _=>np - (intOf kv).toNat)
  case atStart=>exact ⟨0,Nat.zero_le _,rfl,rfl,Below.refl _ _⟩
  case round =>
    clear m0 m1 ml x0 x1 x2 x3 x4 x5 xl
    obtain ⟨k,hk,rfl,rfl,BB⟩:=hrel
    have BD:=Lib.hid BB
    obtain ⟨m0,m1,ml⟩:=mes_below M2.out BB
    obtain ⟨x0,x1,x2,x3,x4,x5,xl⟩:=own_below X2.out BB
    have sz2:=BB.size
    by_cases hlt:k<np
    · have hk1:(k:Int)<(np:Int):=by omega
      obtain ⟨b,off,rfl,rw0⟩:=RP2.out (show 0<np by omega)
      have r2:=row3_below rw0 BB
      obtain ⟨c1,c2,c3⟩:=r2.2 k hlt
      have l1:=r2.1
      have PK:=Lib.hid (HP.out k hlt)
      have E1:=Lib.hid (show mxl (dsq P x) (k+1)=Sp.mx (mxl (dsq P x) k) (sq (sub (P k) x)) from rfl)
      generalize mxl (dsq P x) k=q at *
      have RK:=Lib.hid r2
      clear r2 BB
      obtain ⟨p,hp⟩:∃ p,P k=p:=⟨_,rfl⟩
      rw [hp] at c1 c2 c3 PK E1
      have HPK:=Lib.hid hp
      clear hp
      have SQ:=Lib.hid (fun W=>hsq_any p x W PK.out HX.out)
      go_wp2_with fail
      with_reducible refine (SQ.out _).mono ?_
      rintro e w3 ⟨rfl,hb3⟩
      have BE:=Lib.hid (bstep (balloc BD.out (ptc p 44)) (hb3.mono (by simp <;> omega)))
      clear hb3 c1 c2 c3 m0 m1 ml x0 x1 x2 x3 x4 x5 xl
      go_wp2
      go_roundw
      case rel=>exact ⟨k+1,by omega,by go_num,by rw [E1.out],by have hB:=BE.out;(repeat' (first|with_reducible exact hB|with_reducible refine Below.drew ?_))⟩
      case measure=>simp [intOf];omega
    · obtain rfl:k=np:=by omega
      go_wp2_with fail
      with_reducible refine (LEN.out _).mono ?_
      rintro e w4 ⟨rfl,hb4⟩
      obtain ⟨⟨u,t⟩,r2⟩:=R
      have hB:=bstep (B2.out.trans (BD.out.mono (by have:=B2.out.size;omega))) hb4
      clear hb4 m0 m1 ml x0 x1 x2 x3 x4 x5 xl
      go_wp2
      go_ret2
      exact ⟨rfl,by (repeat' (first|with_reducible exact hB|with_reducible refine Below.drew ?_|(with_reducible refine balloc ?_ _)|(with_reducible refine Below.setCell ?_ (by simp <;> omega) _)))⟩
theorem hbl_any (a:Option Addr) (np c:Nat) (a':Option Addr) (nf c':Nat) (x:P3) (P F:Nat→P3) (w:World) (rp:Lst w a np P) (rf:Lst w a' nf F) (hn:np≤1000000) (hm:nf≤1000000) :
    Calls Tryz.prog 30 #[msv a np c a' nf c',ptv x] w fun e w'=>e=.returned (.tuple #[.int .i64 (ballR (vcode ⟨np,nf,P,F⟩) np P x).1,.int .i64 (ballR (vcode ⟨np,nf,P,F⟩) np P x).2])∧Below w.heap.size w w':=by
  have V:=Lib.hid (fun W (B:Below w.heap.size w W)=>val_any a np c a' nf c' P F W (lst_below rp B) (lst_below rf B) hn hm)
  have MY:=Lib.hid (fun W (_:Below w.heap.size w W)=>hmay_any x W)
  unfold ballR
  by_cases z:vcode ⟨np,nf,P,F⟩=0
  · rw [if_pos z]
    have z':(vcode ⟨np,nf,P,F⟩ != 0)=false:=by rw [z];rfl
    obtain ⟨h1,h2,h3,h4,h5⟩:=vcode_ok z
    cases e:inP 256 x with
    | true =>
      rw [e] at MY
      rw [if_pos rfl]
      exact hbl_l a np c a' nf c' x _ true P _ w V MY (Lib.hid fun W=>len_any _ W) z' rfl rp h1 (fun k hk=>inP_iff.1 (pts_in h4 k hk)) (inP_iff.1 e)
    | false=>rw [e] at MY;rw [if_neg (by decide)];exact hbl_n a np c a' nf c' x _ false w V MY z' rfl
  · rw [if_neg z]
    exact hbl_v a np c a' nf c' x _ w V (bne_iff_ne.2 z)
theorem sub_big {a b:P3} (ha:BdP 64 a) (hb:BdP 256 b):BdP 4611686018427387904 (sub a b):=by
  obtain ⟨⟨d1,d2,d3,d4,d5,d6⟩,_⟩:=d64_256 ha hb
  simp only [BdP,sub]
  omega
theorem pw_big {a b:P3} (ha:BdP 64 a) (hb:BdP 256 b):BdP 1152921504606846976 (pw (sub a b) (sub a b)):=by
  obtain ⟨_,e1,e2,e3,e4,e5,e6⟩:=d64_256 ha hb
  simp only [BdP,sub,pw]
  omega
set_option maxRecDepth 100000 in
set_option maxHeartbeats 2000000 in
theorem rbl_v (a:Option Addr) (np c:Nat) (a':Option Addr) (nf c':Nat) (x:P3) (vc:Int) (w:World) (V:Hid (∀ W,Below w.heap.size w W→Calls Tryz.prog 46 #[msv a np c a' nf c'] W fun e w'=>e=.returned (.int .i64 vc)∧Below W.heap.size W w')) (z:(vc != 0)=true):Calls Tryz.prog 31 #[msv a np c a' nf c',ptv x] w fun e w'=>e=.returned (.tuple #[.int .i64 0,.int .i64 vc])∧Below w.heap.size w w':=by
  have M0:=Lib.hid (mes_alloc (mes_new w a np c a' nf c' 25) (ptc x 44))
  have X0:=Lib.hid (own_new (w.alloc (msc a np c a' nf c' 25)) x 44)
  simp only [World.size_alloc] at X0
  have B0:=Lib.hid (show Below w.heap.size w ((w.alloc (msc a np c a' nf c' 25)).alloc (ptc x 44)) from balloc (balloc (Below.refl _ w) _) _)
  obtain ⟨m0,m1,ml⟩:=M0.out
  obtain ⟨x0,x1,x2,x3,x4,x5,xl⟩:=X0.out
  go_enter Tryz.func31,Tryz.ntmps31
  go_wp2_with fail
  with_reducible refine (V.out _ B0.out).mono ?_
  rintro e w1 ⟨rfl,hb1⟩
  have hB:=bstep B0.out hb1
  clear hb1 m0 m1 ml M0 B0 x0 x1 x2 x3 x4 x5 xl X0
  go_wp2
  go_ret2
  exact ⟨rfl,by (repeat' (first|with_reducible exact hB|with_reducible refine Below.drew ?_|(with_reducible refine Below.setCell ?_ (by simp <;> omega) _)))⟩
set_option maxRecDepth 100000 in
set_option maxHeartbeats 2000000 in
theorem rbl_n (a:Option Addr) (np c:Nat) (a':Option Addr) (nf c':Nat) (x:P3) (vc:Int) (v:Bool) (w:World) (V:Hid (∀ W,Below w.heap.size w W→Calls Tryz.prog 46 #[msv a np c a' nf c'] W fun e w'=>e=.returned (.int .i64 vc)∧Below W.heap.size W w')) (MY:Hid (∀ W,Below w.heap.size w W→Calls Tryz.prog 72 #[ptv x,.int .i64 256] W fun e w'=>e=.returned (.bool v)∧Below W.heap.size W w')) (z:(vc != 0)=false) (y:v=false):Calls Tryz.prog 31 #[msv a np c a' nf c',ptv x] w fun e w'=>e=.returned (.tuple #[.int .i64 0,.int .i64 1])∧Below w.heap.size w w':=by
  have M0:=Lib.hid (mes_alloc (mes_new w a np c a' nf c' 25) (ptc x 44))
  have X0:=Lib.hid (own_new (w.alloc (msc a np c a' nf c' 25)) x 44)
  simp only [World.size_alloc] at X0
  have B0:=Lib.hid (show Below w.heap.size w ((w.alloc (msc a np c a' nf c' 25)).alloc (ptc x 44)) from balloc (balloc (Below.refl _ w) _) _)
  obtain ⟨m0,m1,ml⟩:=M0.out
  obtain ⟨x0,x1,x2,x3,x4,x5,xl⟩:=X0.out
  subst y
  go_enter Tryz.func31,Tryz.ntmps31
  go_wp2_with fail
  with_reducible refine (V.out _ B0.out).mono ?_
  rintro e w1 ⟨rfl,hb1⟩
  have M1:=Lib.hid (mes_below M0.out hb1)
  have X1:=Lib.hid (own_below X0.out hb1)
  have B1:=Lib.hid (bstep B0.out hb1)
  clear hb1 m0 m1 ml x0 x1 x2 x3 x4 x5 xl
  obtain ⟨m0,m1,ml⟩:=M1.out
  obtain ⟨x0,x1,x2,x3,x4,x5,xl⟩:=X1.out
  go_wp2_with fail
  with_reducible refine (MY.out _ B1.out).mono ?_
  rintro e w2 ⟨rfl,hb2⟩
  have hB:=bstep B1.out hb2
  clear hb2 m0 m1 ml x0 x1 x2 x3 x4 x5 xl
  go_wp2
  go_ret2
  exact ⟨rfl,by (repeat' (first|with_reducible exact hB|with_reducible refine Below.drew ?_|(with_reducible refine Below.setCell ?_ (by simp <;> omega) _)))⟩
set_option maxRecDepth 100000 in
set_option maxHeartbeats 4000000 in
theorem rbl_l (a:Option Addr) (np c:Nat) (a':Option Addr) (nf c':Nat) (x:P3) (vc:Int) (v:Bool) (P:Nat→P3) (R:Sp.R) (w:World) (V:Hid (∀ W,Below w.heap.size w W→Calls Tryz.prog 46 #[msv a np c a' nf c'] W fun e w'=>e=.returned (.int .i64 vc)∧Below W.heap.size W w')) (MY:Hid (∀ W,Below w.heap.size w W→Calls Tryz.prog 72 #[ptv x,.int .i64 256] W fun e w'=>e=.returned (.bool v)∧Below W.heap.size W w')) (LEN:Hid (∀ W,Calls Tryz.prog 75 #[.int .i64 (mxl (dsq P x) np)] W fun e w'=>e=.returned (spr R)∧Below W.heap.size W w')) (z:(vc != 0)=false) (y:v=true) (rp:Lst w a np P) (hn:np≤64) (hP:∀ k,k<np→BdP 64 (P k)) (hx:BdP 256 x):Calls Tryz.prog 31 #[msv a np c a' nf c',ptv x] w fun e w'=>e=.returned (.tuple #[.int .i64 R.1.2,.int .i64 R.2])∧Below w.heap.size w w':=by
  have M0:=Lib.hid (mes_alloc (mes_new w a np c a' nf c' 25) (ptc x 44))
  have X0:=Lib.hid (own_new (w.alloc (msc a np c a' nf c' 25)) x 44)
  simp only [World.size_alloc] at X0
  have B0:=Lib.hid (show Below w.heap.size w ((w.alloc (msc a np c a' nf c' 25)).alloc (ptc x 44)) from balloc (balloc (Below.refl _ w) _) _)
  obtain ⟨m0,m1,ml⟩:=M0.out
  obtain ⟨x0,x1,x2,x3,x4,x5,xl⟩:=X0.out
  subst y
  have RP:=Lib.hid rp
  have HP:=Lib.hid hP
  have HX:=Lib.hid hx
  have hn':(np:Int)≤64:=by omega
  clear rp hP hx
  go_enter Tryz.func31,Tryz.ntmps31
  go_wp2_with fail
  with_reducible refine (V.out _ B0.out).mono ?_
  rintro e w1 ⟨rfl,hb1⟩
  have M1:=Lib.hid (mes_below M0.out hb1)
  have X1:=Lib.hid (own_below X0.out hb1)
  have B1:=Lib.hid (bstep B0.out hb1)
  clear hb1 m0 m1 ml x0 x1 x2 x3 x4 x5 xl
  obtain ⟨m0,m1,ml⟩:=M1.out
  obtain ⟨x0,x1,x2,x3,x4,x5,xl⟩:=X1.out
  go_wp2_with fail
  with_reducible refine (MY.out _ B1.out).mono ?_
  rintro e w2 ⟨rfl,hb2⟩
  have M2:=Lib.hid (mes_below M1.out hb2)
  have X2:=Lib.hid (own_below X1.out hb2)
  have B2:=Lib.hid (bstep B1.out hb2)
  clear hb2 m0 m1 ml x0 x1 x2 x3 x4 x5 xl
  obtain ⟨m0,m1,ml⟩:=M2.out
  obtain ⟨x0,x1,x2,x3,x4,x5,xl⟩:=X2.out
  have RP2:=Lib.hid (lst_below RP.out B2.out)
  have l2:w.heap.size+1<w2.heap.size:=xl
  clear RP M0 M1 X0 X1
  go_wp2
  go_loopw [7,8] (fun sv kv wr=>∃ k:Nat,k≤np∧kv=.int .i64 k∧sv=.int .i64 (mxl (dsq P x) k)∧Below w2.heap.size w2 wr) (fun _ kv _=>np - (intOf kv).toNat)
  case atStart=>exact ⟨0,Nat.zero_le _,rfl,rfl,Below.refl _ _⟩
  case round =>
    clear m0 m1 ml x0 x1 x2 x3 x4 x5 xl
    obtain ⟨k,hk,rfl,rfl,BB⟩:=hrel
    have BD:=Lib.hid BB
    obtain ⟨m0,m1,ml⟩:=mes_below M2.out BB
    obtain ⟨x0,x1,x2,x3,x4,x5,xl⟩:=own_below X2.out BB
    have sz2:=BB.size
    by_cases hlt:k<np
    · have hk1:(k:Int)<(np:Int):=by omega
      obtain ⟨b,off,rfl,rw0⟩:=RP2.out (show 0<np by omega)
      have r2:=row3_below rw0 BB
      obtain ⟨c1,c2,c3⟩:=r2.2 k hlt
      have l1:=r2.1
      have PK:=Lib.hid (HP.out k hlt)
      have E1:=Lib.hid (show mxl (dsq P x) (k+1)=Sp.mx (mxl (dsq P x) k) (sq (sub (P k) x)) from rfl)
      generalize mxl (dsq P x) k=q at *
      have RK:=Lib.hid r2
      clear r2 BB
      obtain ⟨p,hp⟩:∃ p,P k=p:=⟨_,rfl⟩
      rw [hp] at c1 c2 c3 PK E1
      have HPK:=Lib.hid hp
      clear hp
      have MI:=Lib.hid (fun W=>h7minus4_any p x W (sub_big PK.out HX.out))
      have SQ:=Lib.hid (fun W=>h7square4_any (sub p x) W (pw_big PK.out HX.out))
      have KEEP:Hid (∀ w',Below wr.heap.size wr w'→w'.cell? ⟨w.heap.size,0,none⟩=some (.slice (some ⟨b,off,none⟩) np c)∧w'.cell? ⟨b,off+k*3,none⟩=some (.int .i64 p.1)∧w'.cell? ⟨b,off+k*3+1,none⟩=some (.int .i64 p.2.1)∧w'.cell? ⟨b,off+k*3+2,none⟩=some (.int .i64 p.2.2)∧w'.cell? ⟨w.heap.size+1,0,none⟩=some (.int .i64 x.1)∧w'.cell? ⟨w.heap.size+1,1,none⟩=some (.int .i64 x.2.1)∧w'.cell? ⟨w.heap.size+1,2,none⟩=some (.int .i64 x.2.2)):=Lib.hid fun w' hb=>by
        have u0:=mes_below (mes_below M2.out BD.out) hb
        have u1:=own_below (own_below X2.out BD.out) hb
        have u2:=row3_below RK.out hb
        obtain ⟨u3,u4,u5⟩:=u2.2 k hlt
        rw [HPK.out] at u3 u4 u5
        exact ⟨u0.1,u3,u4,u5,u1.1,u1.2.1,u1.2.2.1⟩
      have b0:=Lib.hid (show Below wr.heap.size wr wr.drew from Below.drew (Below.refl _ _))
      go_wp2_with fail
      clear c1 c2 c3 m0 m1 ml x0 x1 x2 x3 x4 x5 xl
      go_region_held3 (fun w'=>w'.cell? ⟨w.heap.size,0,none⟩=some (.slice (some ⟨b,off,none⟩) np c)∧w'.cell? ⟨b,off+k*3,none⟩=some (.int .i64 p.1)∧w'.cell? ⟨b,off+k*3+1,none⟩=some (.int .i64 p.2.1)∧w'.cell? ⟨b,off+k*3+2,none⟩=some (.int .i64 p.2.2)∧w'.cell? ⟨w.heap.size+1,0,none⟩=some (.int .i64 x.1)∧w'.cell? ⟨w.heap.size+1,1,none⟩=some (.int .i64 x.2.1)∧w'.cell? ⟨w.heap.size+1,2,none⟩=some (.int .i64 x.2.2))
        (first|(with_reducible exact KEEP.out _ b0.out)|(with_reducible exact KEEP.out _ b1.out)|(with_reducible exact KEEP.out _ b2.out)|fail)
        (first|(go_at_call 74;(with_reducible refine (MI.out _).mono ?_);rintro e v1 ⟨rfl,hv1⟩;have b1:=Lib.hid (bstep b0.out hv1))|(go_at_call 73;(with_reducible refine (SQ.out _).mono ?_);rintro e v2 ⟨rfl,hv2⟩;have b2:=Lib.hid (bstep b1.out hv2))|fail)
      all_goals
        have BE:=Lib.hid (BD.out.trans (b2.out.mono sz2))
        go_wp2
        go_roundw
        case rel=>exact ⟨k+1,by omega,by go_num,by rw [E1.out],BE.out⟩
        case measure=>simp [intOf];omega
    · obtain rfl:k=np:=by omega
      go_wp2_with fail
      with_reducible refine (LEN.out _).mono ?_
      rintro e w4 ⟨rfl,hb4⟩
      obtain ⟨⟨u,t⟩,r2⟩:=R
      have hB:=bstep (B2.out.trans (BD.out.mono (by have:=B2.out.size;omega))) hb4
      clear hb4 m0 m1 ml x0 x1 x2 x3 x4 x5 xl
      go_wp2
      go_ret2
      exact ⟨rfl,by (repeat' (first|with_reducible exact hB|with_reducible refine Below.drew ?_|(with_reducible refine balloc ?_ _)|(with_reducible refine Below.setCell ?_ (by simp <;> omega) _)))⟩
theorem rbl_any (a:Option Addr) (np c:Nat) (a':Option Addr) (nf c':Nat) (x:P3) (P F:Nat→P3) (w:World) (rp:Lst w a np P) (rf:Lst w a' nf F) (hn:np≤1000000) (hm:nf≤1000000) :
    Calls Tryz.prog 31 #[msv a np c a' nf c',ptv x] w fun e w'=>e=.returned (.tuple #[.int .i64 (ballR (vcode ⟨np,nf,P,F⟩) np P x).1,.int .i64 (ballR (vcode ⟨np,nf,P,F⟩) np P x).2])∧Below w.heap.size w w':=by
  have V:=Lib.hid (fun W (B:Below w.heap.size w W)=>rval_any a np c a' nf c' P F W (lst_below rp B) (lst_below rf B) hn hm)
  have MY:=Lib.hid (fun W (_:Below w.heap.size w W)=>h7small_any x 256 W (by decide) (by decide))
  unfold ballR
  by_cases z:vcode ⟨np,nf,P,F⟩=0
  · rw [if_pos z]
    have z':(vcode ⟨np,nf,P,F⟩ != 0)=false:=by rw [z];rfl
    obtain ⟨h1,h2,h3,h4,h5⟩:=vcode_ok z
    cases e:inP 256 x with
    | true =>
      rw [e] at MY
      rw [if_pos rfl]
      exact rbl_l a np c a' nf c' x _ true P _ w V MY (Lib.hid fun W=>rlen_any _ W) z' rfl rp h1 (fun k hk=>inP_iff.1 (pts_in h4 k hk)) (inP_iff.1 e)
    | false=>rw [e] at MY;rw [if_neg (by decide)];exact rbl_n a np c a' nf c' x _ false w V MY z' rfl
  · rw [if_neg z]
    exact rbl_v a np c a' nf c' x _ w V (bne_iff_ne.2 z)
end Go.Proofs.YtbcjiigmbcfkeaaGreat
