import Derived.Test.YtpocbdompamnnaaPtM
import Derived.Test.YtpocbdompamnnaaVecM
import Derived.RegionTactic
import Derived.BigRegion
import Derived.LoopTactic
import Derived.Deep.DeepFit
namespace Go.Proofs.Ytpocbdompamnnaa
open Go.ChangeShapes Go.WideShapes Go.RowKit
open Sh
theorem inr_any (n lo hi:Int) (w:World) :
    Calls Try.prog 129 #[.int .i64 n,.int .i64 lo,.int .i64 hi] w fun e w'=>e=.returned (.bool (rngB n lo hi))∧w=w':=by
  by_cases h:lo≤n
  · by_cases k:n≤hi
    · rw [rngB_iff.2 ⟨h,k⟩]
      go_enter Try.func129,Try.ntmps129
      go_wp2
      go_ret
      exact ⟨rfl,rfl⟩
    · rw [rngB_not.2 (fun x=>k x.2)]
      have k':decide (n≤hi)=false:=decide_eq_false k
      clear k
      go_enter Try.func129,Try.ntmps129
      go_wp2
      go_ret
      exact ⟨rfl,rfl⟩
  · rw [rngB_not.2 (fun x=>h x.1)]
    go_enter Try.func129,Try.ntmps129
    go_wp2
    go_ret
    exact ⟨rfl,rfl⟩
theorem finr_any (n lo hi:Int) (w:World) :
    Calls Try.prog 46 #[.int .i64 n,.int .i64 lo,.int .i64 hi] w fun e w'=>e=.returned (.bool (rngB n lo hi))∧w=w':=by
  by_cases h:lo≤n
  · by_cases k:n≤hi
    · rw [rngB_iff.2 ⟨h,k⟩]
      go_enter Try.func46,Try.ntmps46
      go_wp2
      go_ret
      exact ⟨rfl,rfl⟩
    · rw [rngB_not.2 (fun x=>k x.2)]
      have k':decide (n≤hi)=false:=decide_eq_false k
      clear k
      go_enter Try.func46,Try.ntmps46
      go_wp2
      go_ret
      exact ⟨rfl,rfl⟩
  · rw [rngB_not.2 (fun x=>h x.1)]
    go_enter Try.func46,Try.ntmps46
    go_wp2
    go_ret
    exact ⟨rfl,rfl⟩
theorem rfinr_any (n lo hi:Int) (w:World) :
    Calls Try.prog 54 #[.int .i64 n,.int .i64 lo,.int .i64 hi] w fun e w'=>e=.returned (.bool (rngB n lo hi))∧w=w':=by
  by_cases h:lo≤n
  · by_cases k:n≤hi
    · rw [rngB_iff.2 ⟨h,k⟩]
      go_enter Try.func54,Try.ntmps54
      go_wp2
      go_ret
      exact ⟨rfl,rfl⟩
    · rw [rngB_not.2 (fun x=>k x.2)]
      have k':decide (n≤hi)=false:=decide_eq_false k
      clear k
      go_enter Try.func54,Try.ntmps54
      go_wp2
      go_ret
      exact ⟨rfl,rfl⟩
  · rw [rngB_not.2 (fun x=>h x.1)]
    go_enter Try.func54,Try.ntmps54
    go_wp2
    go_ret
    exact ⟨rfl,rfl⟩
theorem win_any (n L:Int) (w:World) (h1:-4611686018427387904≤L) (h2:L≤4611686018427387904) :
    Calls Try.prog 123 #[.int .i64 n,.int .i64 L] w fun e w'=>e=.returned (.bool (rngB n (-L) L))∧w=w':=by
  go_enter Try.func123,Try.ntmps123
  go_wp2_with fail
  refine (inr_any _ _ _ _).mono ?_
  rintro e w' ⟨rfl,rfl⟩
  go_wp2
  go_ret
  exact ⟨rfl,rfl⟩
theorem vof_any (a:P3) (w:World) :
    Calls Try.prog 100 #[ptv a] w fun e w'=>e=.returned (ptv a)∧Below w.heap.size w w':=by
  go_enter Try.func100,Try.ntmps100
  go_wp2
  refine bodyPost_ret (v:=ptv a) (by rw [results_cell rfl];go_simp) rfl ⟨rfl,?_⟩
  (repeat' (first | exact Below.refl _ _ | refine Below.setCell ?_ (by simp <;> omega) _ | refine balloc ?_ _ | refine Below.drew ?_ | refine bdrewN ?_ _))
theorem abt_any (a:P3) (w:World) :
    Calls Try.prog 81 #[ptv a] w fun e w'=>e=.returned (ptv a)∧Below w.heap.size w w':=by
  go_enter Try.func81,Try.ntmps81
  go_wp2_with fail
  refine (vof_any a _).mono ?_
  rintro e w1 ⟨rfl,hb1⟩
  obtain ⟨g1,g2,g3,g4,g5,g6,g7⟩:=own_below (own_new (w.alloc _) (0,0,0) _) hb1
  simp only [World.size_alloc] at g1 g2 g3 g4 g5 g6 g7
  go_wp2
  refine bodyPost_ret (v:=ptv a) (by rw [results_cell rfl];go_simp) rfl ⟨rfl,?_⟩
  (repeat' (first | exact Below.refl _ _ | refine bstep ?_ hb1 | refine Below.setCell ?_ (by simp <;> omega) _ | refine balloc ?_ _ | refine Below.drew ?_ | refine bdrewN ?_ _))
theorem vsc_any (a b:P3) (w:World) (h:BdP 1152921504606846976 (pw a b)) :
    Calls Try.prog 83 #[ptv a,ptv b] w fun e w'=>e=.returned (.int .i64 (dot a b))∧Below w.heap.size w w':=by
  simp only [BdP,pw] at h
  obtain ⟨h1,h2,h3,h4,h5,h6⟩:=h
  go_enter Try.func83,Try.ntmps83
  go_wp2
  go_ret
  exact ⟨rfl,by (repeat' (first | exact Below.refl _ _ | refine Below.setCell ?_ (by simp <;> omega) _ | refine balloc ?_ _ | refine Below.drew ?_ | refine bdrewN ?_ _))⟩
set_option maxHeartbeats 1000000 in
theorem vpl_any (a b:P3) (k:Int) (w:World) (h:BdP 4611686018427387904 (tim k b)) (l:BdP 4611686018427387904 (add a (tim k b))) :
    Calls Try.prog 102 #[ptv a,.int .i64 k,ptv b] w fun e w'=>e=.returned (ptv (add a (tim k b)))∧Below w.heap.size w w':=by
  simp only [BdP,tim,add] at h l
  obtain ⟨h1,h2,h3,h4,h5,h6⟩:=h
  obtain ⟨l1,l2,l3,l4,l5,l6⟩:=l
  go_enter Try.func102,Try.ntmps102
  go_wp2
  refine wp_loop_rounds 4 ?_
  rw [rounds_succ]
  go_wp2
  go_region
  go_wp2
  rw [rounds_succ]
  go_wp2
  go_region
  go_wp2
  rw [rounds_succ]
  go_wp2
  go_region
  go_wp2
  rw [rounds_succ]
  go_wp2
  refine bodyPost_ret (v:=ptv (add a (tim k b))) (by rw [results_cell rfl];go_simp;exact ⟨rfl,rfl,rfl⟩) rfl ⟨rfl,?_⟩
  (repeat' (first | exact Below.refl _ _ | refine Below.setCell ?_ (by simp <;> omega) _ | refine balloc ?_ _ | refine Below.drew ?_ | refine bdrewN ?_ _))
theorem inP_rng (a:P3) (L:Int):inP L a=(rngB a.1 (-L) L && rngB a.2.1 (-L) L && rngB a.2.2 (-L) L):=by
  unfold inP rngB
  rw [Bool.eq_iff_iff]
  simp only [decide_eq_true_eq,Bool.and_eq_true]
  constructor
  · rintro ⟨h1,h2,h3,h4,h5,h6⟩;exact ⟨⟨⟨h1,h2⟩,⟨h3,h4⟩⟩,⟨h5,h6⟩⟩
  · rintro ⟨⟨⟨h1,h2⟩,⟨h3,h4⟩⟩,⟨h5,h6⟩⟩;exact ⟨h1,h2,h3,h4,h5,h6⟩
theorem vwi_0 (a:P3) (L:Int) (w:World) (b1:-4611686018427387904≤L) (b2:L≤4611686018427387904) (h0:rngB a.1 (-L) L=false) :
    Calls Try.prog 101 #[ptv a,.int .i64 L] w fun e w'=>e=.returned (.bool (inP L a))∧Below w.heap.size w w':=by
  rw [inP_rng,h0]
  have i0:∀ w,(Instr.index 107 (.agg #[.int .i64 a.1,.int .i64 a.2.1,.int .i64 a.2.2]) (.int .i64 0)).run Try.prog w=.ok (.int .i64 a.1) w:=fun _=>by kernel_rfl
  have i1:∀ w,(Instr.index 107 (.agg #[.int .i64 a.1,.int .i64 a.2.1,.int .i64 a.2.2]) (.int .i64 1)).run Try.prog w=.ok (.int .i64 a.2.1) w:=fun _=>by kernel_rfl
  have i2:∀ w,(Instr.index 107 (.agg #[.int .i64 a.1,.int .i64 a.2.1,.int .i64 a.2.2]) (.int .i64 2)).run Try.prog w=.ok (.int .i64 a.2.2) w:=fun _=>by kernel_rfl
  have W0:=Lib.hid (fun W=>(h0 ▸ win_any a.1 L W b1 b2:Calls Try.prog 123 #[.int .i64 a.1,.int .i64 L] W fun e w'=>e=.returned (.bool false)∧W=w'))
  clear h0
  go_enter Try.func101,Try.ntmps101
  go_wp2
  refine wp_loop_rounds 4 ?_
  rw [rounds_succ]
  go_wp2_with fail
  refine (W0.out _).mono ?_
  rintro e w' ⟨rfl,rfl⟩
  go_wp2
  go_ret
  exact ⟨by simp [*],by (repeat' (first | exact Below.refl _ _ | refine Below.setCell ?_ (by simp <;> omega) _ | refine balloc ?_ _ | refine Below.drew ?_ | refine bdrewN ?_ _))⟩
theorem vwi_1 (a:P3) (L:Int) (w:World) (b1:-4611686018427387904≤L) (b2:L≤4611686018427387904) (h0:rngB a.1 (-L) L=true) (h1:rngB a.2.1 (-L) L=false) :
    Calls Try.prog 101 #[ptv a,.int .i64 L] w fun e w'=>e=.returned (.bool (inP L a))∧Below w.heap.size w w':=by
  rw [inP_rng,h0,h1]
  have i0:∀ w,(Instr.index 107 (.agg #[.int .i64 a.1,.int .i64 a.2.1,.int .i64 a.2.2]) (.int .i64 0)).run Try.prog w=.ok (.int .i64 a.1) w:=fun _=>by kernel_rfl
  have i1:∀ w,(Instr.index 107 (.agg #[.int .i64 a.1,.int .i64 a.2.1,.int .i64 a.2.2]) (.int .i64 1)).run Try.prog w=.ok (.int .i64 a.2.1) w:=fun _=>by kernel_rfl
  have i2:∀ w,(Instr.index 107 (.agg #[.int .i64 a.1,.int .i64 a.2.1,.int .i64 a.2.2]) (.int .i64 2)).run Try.prog w=.ok (.int .i64 a.2.2) w:=fun _=>by kernel_rfl
  have W0:=Lib.hid (fun W=>(h0 ▸ win_any a.1 L W b1 b2:Calls Try.prog 123 #[.int .i64 a.1,.int .i64 L] W fun e w'=>e=.returned (.bool true)∧W=w'))
  have W1:=Lib.hid (fun W=>(h1 ▸ win_any a.2.1 L W b1 b2:Calls Try.prog 123 #[.int .i64 a.2.1,.int .i64 L] W fun e w'=>e=.returned (.bool false)∧W=w'))
  clear h0 h1
  go_enter Try.func101,Try.ntmps101
  go_wp2
  refine wp_loop_rounds 4 ?_
  rw [rounds_succ]
  go_wp2_with fail
  refine (W0.out _).mono ?_
  rintro e w' ⟨rfl,rfl⟩
  go_wp2
  rw [rounds_succ]
  go_wp2_with fail
  refine (W1.out _).mono ?_
  rintro e w' ⟨rfl,rfl⟩
  go_wp2
  go_ret
  exact ⟨by simp [*],by (repeat' (first | exact Below.refl _ _ | refine Below.setCell ?_ (by simp <;> omega) _ | refine balloc ?_ _ | refine Below.drew ?_ | refine bdrewN ?_ _))⟩
theorem vwi_2 (a:P3) (L:Int) (w:World) (b1:-4611686018427387904≤L) (b2:L≤4611686018427387904) (h0:rngB a.1 (-L) L=true) (h1:rngB a.2.1 (-L) L=true) (h2:rngB a.2.2 (-L) L=false) :
    Calls Try.prog 101 #[ptv a,.int .i64 L] w fun e w'=>e=.returned (.bool (inP L a))∧Below w.heap.size w w':=by
  rw [inP_rng,h0,h1,h2]
  have i0:∀ w,(Instr.index 107 (.agg #[.int .i64 a.1,.int .i64 a.2.1,.int .i64 a.2.2]) (.int .i64 0)).run Try.prog w=.ok (.int .i64 a.1) w:=fun _=>by kernel_rfl
  have i1:∀ w,(Instr.index 107 (.agg #[.int .i64 a.1,.int .i64 a.2.1,.int .i64 a.2.2]) (.int .i64 1)).run Try.prog w=.ok (.int .i64 a.2.1) w:=fun _=>by kernel_rfl
  have i2:∀ w,(Instr.index 107 (.agg #[.int .i64 a.1,.int .i64 a.2.1,.int .i64 a.2.2]) (.int .i64 2)).run Try.prog w=.ok (.int .i64 a.2.2) w:=fun _=>by kernel_rfl
  have W0:=Lib.hid (fun W=>(h0 ▸ win_any a.1 L W b1 b2:Calls Try.prog 123 #[.int .i64 a.1,.int .i64 L] W fun e w'=>e=.returned (.bool true)∧W=w'))
  have W1:=Lib.hid (fun W=>(h1 ▸ win_any a.2.1 L W b1 b2:Calls Try.prog 123 #[.int .i64 a.2.1,.int .i64 L] W fun e w'=>e=.returned (.bool true)∧W=w'))
  have W2:=Lib.hid (fun W=>(h2 ▸ win_any a.2.2 L W b1 b2:Calls Try.prog 123 #[.int .i64 a.2.2,.int .i64 L] W fun e w'=>e=.returned (.bool false)∧W=w'))
  clear h0 h1 h2
  go_enter Try.func101,Try.ntmps101
  go_wp2
  refine wp_loop_rounds 4 ?_
  rw [rounds_succ]
  go_wp2_with fail
  refine (W0.out _).mono ?_
  rintro e w' ⟨rfl,rfl⟩
  go_wp2
  rw [rounds_succ]
  go_wp2_with fail
  refine (W1.out _).mono ?_
  rintro e w' ⟨rfl,rfl⟩
  go_wp2
  rw [rounds_succ]
  go_wp2_with fail
  refine (W2.out _).mono ?_
  rintro e w' ⟨rfl,rfl⟩
  go_wp2
  go_ret
  exact ⟨by simp [*],by (repeat' (first | exact Below.refl _ _ | refine Below.setCell ?_ (by simp <;> omega) _ | refine balloc ?_ _ | refine Below.drew ?_ | refine bdrewN ?_ _))⟩
theorem vwi_3 (a:P3) (L:Int) (w:World) (b1:-4611686018427387904≤L) (b2:L≤4611686018427387904) (h0:rngB a.1 (-L) L=true) (h1:rngB a.2.1 (-L) L=true) (h2:rngB a.2.2 (-L) L=true) :
    Calls Try.prog 101 #[ptv a,.int .i64 L] w fun e w'=>e=.returned (.bool (inP L a))∧Below w.heap.size w w':=by
  rw [inP_rng,h0,h1,h2]
  have i0:∀ w,(Instr.index 107 (.agg #[.int .i64 a.1,.int .i64 a.2.1,.int .i64 a.2.2]) (.int .i64 0)).run Try.prog w=.ok (.int .i64 a.1) w:=fun _=>by kernel_rfl
  have i1:∀ w,(Instr.index 107 (.agg #[.int .i64 a.1,.int .i64 a.2.1,.int .i64 a.2.2]) (.int .i64 1)).run Try.prog w=.ok (.int .i64 a.2.1) w:=fun _=>by kernel_rfl
  have i2:∀ w,(Instr.index 107 (.agg #[.int .i64 a.1,.int .i64 a.2.1,.int .i64 a.2.2]) (.int .i64 2)).run Try.prog w=.ok (.int .i64 a.2.2) w:=fun _=>by kernel_rfl
  have W0:=Lib.hid (fun W=>(h0 ▸ win_any a.1 L W b1 b2:Calls Try.prog 123 #[.int .i64 a.1,.int .i64 L] W fun e w'=>e=.returned (.bool true)∧W=w'))
  have W1:=Lib.hid (fun W=>(h1 ▸ win_any a.2.1 L W b1 b2:Calls Try.prog 123 #[.int .i64 a.2.1,.int .i64 L] W fun e w'=>e=.returned (.bool true)∧W=w'))
  have W2:=Lib.hid (fun W=>(h2 ▸ win_any a.2.2 L W b1 b2:Calls Try.prog 123 #[.int .i64 a.2.2,.int .i64 L] W fun e w'=>e=.returned (.bool true)∧W=w'))
  clear h0 h1 h2
  go_enter Try.func101,Try.ntmps101
  go_wp2
  refine wp_loop_rounds 4 ?_
  rw [rounds_succ]
  go_wp2_with fail
  refine (W0.out _).mono ?_
  rintro e w' ⟨rfl,rfl⟩
  go_wp2
  rw [rounds_succ]
  go_wp2_with fail
  refine (W1.out _).mono ?_
  rintro e w' ⟨rfl,rfl⟩
  go_wp2
  rw [rounds_succ]
  go_wp2_with fail
  refine (W2.out _).mono ?_
  rintro e w' ⟨rfl,rfl⟩
  go_wp2
  rw [rounds_succ]
  go_wp2
  go_ret
  exact ⟨by simp [*],by (repeat' (first | exact Below.refl _ _ | refine Below.setCell ?_ (by simp <;> omega) _ | refine balloc ?_ _ | refine Below.drew ?_ | refine bdrewN ?_ _))⟩
theorem vwi_any (a:P3) (L:Int) (w:World) (b1:-4611686018427387904≤L) (b2:L≤4611686018427387904) :
    Calls Try.prog 101 #[ptv a,.int .i64 L] w fun e w'=>e=.returned (.bool (inP L a))∧Below w.heap.size w w':=by
  cases h0:rngB a.1 (-L) L with
  | false=>exact vwi_0 a L w b1 b2 h0
  | true =>
    cases h1:rngB a.2.1 (-L) L with
    | false=>exact vwi_1 a L w b1 b2 h0 h1
    | true =>
      cases h2:rngB a.2.2 (-L) L with
      | false=>exact vwi_2 a L w b1 b2 h0 h1 h2
      | true=>exact vwi_3 a L w b1 b2 h0 h1 h2
end Go.Proofs.Ytpocbdompamnnaa
namespace Go.Proofs.Ytpocbdompamnnaa
open Go.ChangeShapes Go.WideShapes Go.RowKit
open Sh
attribute [local go_sem 1000000] run_min_mn run_max_mx
def szI (n:Int):Int:=Sp.mx n (wrap64 (-n))
theorem szI_le {n L:Int} (h0:0≤L) (hL:L≤4611686018427387904):(szI n≤L∧-L≤n) ↔ (-L≤n∧n≤L):=by
  unfold szI Sp.mx
  constructor
  · rintro ⟨h,k⟩
    refine ⟨k,?_⟩
    split at h <;> omega
  · rintro ⟨h,k⟩
    refine ⟨?_,h⟩
    have e:wrap64 (-n)=-n:=IntWalk.wrap64_in _ (by omega)
    rw [e]
    split <;> omega
theorem szI_abs {n:Int} (h:-4611686018427387904≤n∧n≤4611686018427387904):szI n=absI n:=by
  unfold szI Sp.mx absI
  have e:wrap64 (-n)=-n:=IntWalk.wrap64_in _ (by omega)
  rw [e]
  split <;> split <;> omega
theorem size_any (n:Int) (w:World) :
    Calls Try.prog 69 #[.int .i64 n] w fun e w'=>e=.returned (.int .i64 (szI n))∧w=w':=by
  go_enter Try.func69,Try.ntmps69
  go_wp2
  go_ret
  exact ⟨rfl,rfl⟩
theorem inP_sz (a:P3) (L:Int) (h0:0≤L) (hL:L≤4611686018427387904):inP L a=(decide (szI a.1≤L) && decide (szI a.2.1≤L) && decide (szI a.2.2≤L) && decide (-L≤a.1) && decide (-L≤a.2.1) && decide (-L≤a.2.2)):=by
  have x:=szI_le (n:=a.1) h0 hL
  have y:=szI_le (n:=a.2.1) h0 hL
  have z:=szI_le (n:=a.2.2) h0 hL
  unfold inP
  rw [Bool.eq_iff_iff]
  simp only [decide_eq_true_eq,Bool.and_eq_true]
  constructor
  · rintro ⟨h1,h2,h3,h4,h5,h6⟩
    exact ⟨⟨⟨⟨⟨(x.2 ⟨h1,h2⟩).1,(y.2 ⟨h3,h4⟩).1⟩,(z.2 ⟨h5,h6⟩).1⟩,h1⟩,h3⟩,h5⟩
  · rintro ⟨⟨⟨⟨⟨h1,h2⟩,h3⟩,h4⟩,h5⟩,h6⟩
    exact ⟨h4,(x.1 ⟨h1,h4⟩).2,h5,(y.1 ⟨h2,h5⟩).2,h6,(z.1 ⟨h3,h6⟩).2⟩
set_option maxHeartbeats 1000000 in
theorem small_any (a:P3) (L:Int) (w:World) (b1:0≤L) (b2:L≤4611686018427387904) :
    Calls Try.prog 41 #[ptv a,.int .i64 L] w fun e w'=>e=.returned (.bool (inP L a))∧Below w.heap.size w w':=by
  cases h0:decide (szI a.1≤L) with
  | false =>
    rw [inP_sz a L b1 b2,h0]
    go_enter Try.func41,Try.ntmps41
    go_wp2_with (go_at_call 69;(with_reducible refine (size_any _ _).mono ?_);rintro e w' ⟨rfl,rfl⟩)
    go_ret
    exact ⟨rfl,by (repeat' (first | exact Below.refl _ _ | refine Below.setCell ?_ (by simp <;> omega) _ | refine balloc ?_ _ | refine Below.drew ?_ | refine bdrewN ?_ _))⟩
  | true =>
    cases h1:decide (szI a.2.1≤L) with
    | false =>
      rw [inP_sz a L b1 b2,h0,h1]
      go_enter Try.func41,Try.ntmps41
      go_wp2_with (go_at_call 69;(with_reducible refine (size_any _ _).mono ?_);rintro e w' ⟨rfl,rfl⟩)
      go_ret
      exact ⟨rfl,by (repeat' (first | exact Below.refl _ _ | refine Below.setCell ?_ (by simp <;> omega) _ | refine balloc ?_ _ | refine Below.drew ?_ | refine bdrewN ?_ _))⟩
    | true =>
      cases h2:decide (szI a.2.2≤L) with
      | false =>
        rw [inP_sz a L b1 b2,h0,h1,h2]
        go_enter Try.func41,Try.ntmps41
        go_wp2_with (go_at_call 69;(with_reducible refine (size_any _ _).mono ?_);rintro e w' ⟨rfl,rfl⟩)
        go_ret
        exact ⟨rfl,by (repeat' (first | exact Below.refl _ _ | refine Below.setCell ?_ (by simp <;> omega) _ | refine balloc ?_ _ | refine Below.drew ?_ | refine bdrewN ?_ _))⟩
      | true =>
        cases h3:decide (-L≤a.1) with
        | false =>
          rw [inP_sz a L b1 b2,h0,h1,h2,h3]
          go_enter Try.func41,Try.ntmps41
          go_wp2_with (go_at_call 69;(with_reducible refine (size_any _ _).mono ?_);rintro e w' ⟨rfl,rfl⟩)
          go_ret
          exact ⟨rfl,by (repeat' (first | exact Below.refl _ _ | refine Below.setCell ?_ (by simp <;> omega) _ | refine balloc ?_ _ | refine Below.drew ?_ | refine bdrewN ?_ _))⟩
        | true =>
          cases h4:decide (-L≤a.2.1) with
          | false =>
            rw [inP_sz a L b1 b2,h0,h1,h2,h3,h4]
            go_enter Try.func41,Try.ntmps41
            go_wp2_with (go_at_call 69;(with_reducible refine (size_any _ _).mono ?_);rintro e w' ⟨rfl,rfl⟩)
            go_ret
            exact ⟨rfl,by (repeat' (first | exact Below.refl _ _ | refine Below.setCell ?_ (by simp <;> omega) _ | refine balloc ?_ _ | refine Below.drew ?_ | refine bdrewN ?_ _))⟩
          | true =>
            cases h5:decide (-L≤a.2.2) with
            | false =>
              rw [inP_sz a L b1 b2,h0,h1,h2,h3,h4,h5]
              go_enter Try.func41,Try.ntmps41
              go_wp2_with (go_at_call 69;(with_reducible refine (size_any _ _).mono ?_);rintro e w' ⟨rfl,rfl⟩)
              go_ret
              exact ⟨rfl,by (repeat' (first | exact Below.refl _ _ | refine Below.setCell ?_ (by simp <;> omega) _ | refine balloc ?_ _ | refine Below.drew ?_ | refine bdrewN ?_ _))⟩
            | true =>
              rw [inP_sz a L b1 b2,h0,h1,h2,h3,h4,h5]
              go_enter Try.func41,Try.ntmps41
              go_wp2_with (go_at_call 69;(with_reducible refine (size_any _ _).mono ?_);rintro e w' ⟨rfl,rfl⟩)
              go_ret
              exact ⟨rfl,by (repeat' (first | exact Below.refl _ _ | refine Below.setCell ?_ (by simp <;> omega) _ | refine balloc ?_ _ | refine Below.drew ?_ | refine bdrewN ?_ _))⟩
theorem minus4_any (a b:P3) (w:World) (h:BdP 4611686018427387904 (sub a b)) :
    Calls Try.prog 71 #[ptv a,ptv b] w fun e w'=>e=.returned (ptv (sub a b))∧Below w.heap.size w w':=by
  simp only [BdP,sub] at h
  obtain ⟨h1,h2,h3,h4,h5,h6⟩:=h
  go_enter Try.func71,Try.ntmps71
  go_wp2
  refine bodyPost_ret (v:=ptv (sub a b)) (by rw [results_cell rfl];go_simp;exact ⟨rfl,rfl,rfl⟩) rfl ⟨rfl,?_⟩
  (repeat' (first | exact Below.refl _ _ | refine Below.setCell ?_ (by simp <;> omega) _ | refine balloc ?_ _ | refine Below.drew ?_ | refine bdrewN ?_ _))
theorem square4_any (a:P3) (w:World) (h:BdP 1152921504606846976 (pw a a)) :
    Calls Try.prog 70 #[ptv a] w fun e w'=>e=.returned (.int .i64 (sq a))∧Below w.heap.size w w':=by
  simp only [BdP,pw] at h
  obtain ⟨h1,h2,h3,h4,h5,h6⟩:=h
  go_enter Try.func70,Try.ntmps70
  go_wp2
  go_ret
  exact ⟨rfl,by (repeat' (first | exact Below.refl _ _ | refine Below.setCell ?_ (by simp <;> omega) _ | refine balloc ?_ _ | refine Below.drew ?_ | refine bdrewN ?_ _))⟩
end Go.Proofs.Ytpocbdompamnnaa
namespace Go.Proofs.Ytpocbdompamnnaa
open Go.ChangeShapes Go.WideShapes Go.RowKit
open Sh
abbrev mov (m:Mo):Value:=.agg #[.int .i64 m.c,.int .i64 m.t,.int .i64 m.d.1,.int .i64 m.d.2.1,.int .i64 m.d.2.2,.int .i64 m.s0,.int .i64 m.s1,.int .i64 m.s2,.int .i64 m.s3,.int .i64 m.s4,.int .i64 m.s5]
abbrev mob (m:Mo) (t:TypeId):Obj:=.cells #[.int .i64 m.c,.int .i64 m.t,.int .i64 m.d.1,.int .i64 m.d.2.1,.int .i64 m.d.2.2,.int .i64 m.s0,.int .i64 m.s1,.int .i64 m.s2,.int .i64 m.s3,.int .i64 m.s4,.int .i64 m.s5] t
def OwnMo (w:World) (b:Nat) (m:Mo):Prop :=
  (w.cell? ⟨b,0,none⟩=some (.int .i64 m.c)∧w.cell? ⟨b,1,none⟩=some (.int .i64 m.t)∧w.cell? ⟨b,2,none⟩=some (.int .i64 m.d.1)∧w.cell? ⟨b,3,none⟩=some (.int .i64 m.d.2.1)∧w.cell? ⟨b,4,none⟩=some (.int .i64 m.d.2.2)∧w.cell? ⟨b,5,none⟩=some (.int .i64 m.s0)∧w.cell? ⟨b,6,none⟩=some (.int .i64 m.s1)∧w.cell? ⟨b,7,none⟩=some (.int .i64 m.s2)∧w.cell? ⟨b,8,none⟩=some (.int .i64 m.s3)∧w.cell? ⟨b,9,none⟩=some (.int .i64 m.s4)∧w.cell? ⟨b,10,none⟩=some (.int .i64 m.s5))∧(w.frozen? ⟨b,0,none⟩=false∧w.frozen? ⟨b,1,none⟩=false∧w.frozen? ⟨b,2,none⟩=false∧w.frozen? ⟨b,3,none⟩=false∧w.frozen? ⟨b,4,none⟩=false∧w.frozen? ⟨b,5,none⟩=false∧w.frozen? ⟨b,6,none⟩=false∧w.frozen? ⟨b,7,none⟩=false∧w.frozen? ⟨b,8,none⟩=false∧w.frozen? ⟨b,9,none⟩=false∧w.frozen? ⟨b,10,none⟩=false)∧b < w.heap.size
theorem ownMo_new (w:World) (m:Mo) (t:TypeId):OwnMo (w.alloc (mob m t)) w.heap.size m:=⟨⟨by go_simp,by go_simp,by go_simp,by go_simp,by go_simp,by go_simp,by go_simp,by go_simp,by go_simp,by go_simp,by go_simp⟩,⟨by go_simp,by go_simp,by go_simp,by go_simp,by go_simp,by go_simp,by go_simp,by go_simp,by go_simp,by go_simp,by go_simp⟩,by simp⟩
theorem ownMo_below {w w1:World} {b:Nat} {m:Mo} (h:OwnMo w b m) (hb:Below w.heap.size w w1):OwnMo w1 b m:=by
  obtain ⟨⟨h0,h1,h2,h3,h4,h5,h6,h7,h8,h9,h10⟩,⟨f0,f1,f2,f3,f4,f5,f6,f7,f8,f9,f10⟩,l⟩:=h
  exact ⟨⟨(hb.cell (p:=⟨b,0,none⟩) l).trans h0,(hb.cell (p:=⟨b,1,none⟩) l).trans h1,(hb.cell (p:=⟨b,2,none⟩) l).trans h2,(hb.cell (p:=⟨b,3,none⟩) l).trans h3,(hb.cell (p:=⟨b,4,none⟩) l).trans h4,(hb.cell (p:=⟨b,5,none⟩) l).trans h5,(hb.cell (p:=⟨b,6,none⟩) l).trans h6,(hb.cell (p:=⟨b,7,none⟩) l).trans h7,(hb.cell (p:=⟨b,8,none⟩) l).trans h8,(hb.cell (p:=⟨b,9,none⟩) l).trans h9,(hb.cell (p:=⟨b,10,none⟩) l).trans h10⟩,⟨(hb.frozen (p:=⟨b,0,none⟩) l).trans f0,(hb.frozen (p:=⟨b,1,none⟩) l).trans f1,(hb.frozen (p:=⟨b,2,none⟩) l).trans f2,(hb.frozen (p:=⟨b,3,none⟩) l).trans f3,(hb.frozen (p:=⟨b,4,none⟩) l).trans f4,(hb.frozen (p:=⟨b,5,none⟩) l).trans f5,(hb.frozen (p:=⟨b,6,none⟩) l).trans f6,(hb.frozen (p:=⟨b,7,none⟩) l).trans f7,(hb.frozen (p:=⟨b,8,none⟩) l).trans f8,(hb.frozen (p:=⟨b,9,none⟩) l).trans f9,(hb.frozen (p:=⟨b,10,none⟩) l).trans f10⟩,Nat.lt_of_lt_of_le l hb.size⟩
theorem ownMo_alloc {w:World} {b:Nat} {m:Mo} (h:OwnMo w b m) (o:Obj):OwnMo (w.alloc o) b m:=ownMo_below h ((Below.refl _ _).alloc (Nat.le_refl _) _)
theorem ownMo_drew {w:World} {b:Nat} {m:Mo} (h:OwnMo w b m):OwnMo w.drew b m:=h
theorem ownMo_cells {w:World} {b:Nat} {m:Mo} (h:OwnMo w b m):w.cell? ⟨b,0,none⟩=some (.int .i64 m.c)∧w.cell? ⟨b,1,none⟩=some (.int .i64 m.t)∧w.cell? ⟨b,2,none⟩=some (.int .i64 m.d.1)∧w.cell? ⟨b,3,none⟩=some (.int .i64 m.d.2.1)∧w.cell? ⟨b,4,none⟩=some (.int .i64 m.d.2.2)∧w.cell? ⟨b,5,none⟩=some (.int .i64 m.s0)∧w.cell? ⟨b,6,none⟩=some (.int .i64 m.s1)∧w.cell? ⟨b,7,none⟩=some (.int .i64 m.s2)∧w.cell? ⟨b,8,none⟩=some (.int .i64 m.s3)∧w.cell? ⟨b,9,none⟩=some (.int .i64 m.s4)∧w.cell? ⟨b,10,none⟩=some (.int .i64 m.s5):=h.1
def MVal (m:Mo) (w:World) (e:Ending) (w':World):Prop:=e=.returned (.int .i64 (mcode m))∧Below w.heap.size w w'
theorem mval_no {m:Mo} {w w':World} (h:¬ mok m) (hb:Below w.heap.size w w'):MVal m w (.returned (.int .i64 1)) w':=⟨by rw [mcode_not h],hb⟩
theorem mval_yes {m:Mo} {w w':World} (h:mok m) (hb:Below w.heap.size w w'):MVal m w (.returned (.int .i64 0)) w':=⟨by rw [mcode_mok h],hb⟩
theorem rng_t {m:Mo} (h:rngB m.t 0 1048576=false):¬ mok m:=fun x=>rngB_not.1 h x.1
theorem rng_c {m:Mo} (h:rngB m.c (-m.t) m.t=false):¬ mok m:=fun x=>rngB_not.1 h x.2.1
theorem rng_d1 {m:Mo} (h:rngB m.d.1 (-1073741824) 1073741824=false):¬ mok m:=fun x=>rngB_not.1 h (cor1 x.2.2.1)
theorem rng_d2 {m:Mo} (h:rngB m.d.2.1 (-1073741824) 1073741824=false):¬ mok m:=fun x=>rngB_not.1 h (cor2 x.2.2.1)
theorem rng_d3 {m:Mo} (h:rngB m.d.2.2 (-1073741824) 1073741824=false):¬ mok m:=fun x=>rngB_not.1 h (cor3 x.2.2.1)
theorem rng_s0 {m:Mo} (h:rngB m.s0 (-17179869184) 17179869184=false):¬ mok m:=fun x=>rngB_not.1 h x.2.2.2.1
theorem rng_s1 {m:Mo} (h:rngB m.s1 (-17179869184) 17179869184=false):¬ mok m:=fun x=>rngB_not.1 h x.2.2.2.2.1
theorem rng_s2 {m:Mo} (h:rngB m.s2 (-17179869184) 17179869184=false):¬ mok m:=fun x=>rngB_not.1 h x.2.2.2.2.2.1
theorem rng_s3 {m:Mo} (h:rngB m.s3 (-17179869184) 17179869184=false):¬ mok m:=fun x=>rngB_not.1 h x.2.2.2.2.2.2.1
theorem rng_s4 {m:Mo} (h:rngB m.s4 (-17179869184) 17179869184=false):¬ mok m:=fun x=>rngB_not.1 h x.2.2.2.2.2.2.2.1
theorem rng_s5 {m:Mo} (h:rngB m.s5 (-17179869184) 17179869184=false):¬ mok m:=fun x=>rngB_not.1 h x.2.2.2.2.2.2.2.2
theorem rng_all {m:Mo} (h0:rngB m.t 0 1048576=true) (h1:rngB m.c (-m.t) m.t=true) (h2:rngB m.d.1 (-1073741824) 1073741824=true) (h3:rngB m.d.2.1 (-1073741824) 1073741824=true) (h4:rngB m.d.2.2 (-1073741824) 1073741824=true) (h5:rngB m.s0 (-17179869184) 17179869184=true) (h6:rngB m.s1 (-17179869184) 17179869184=true) (h7:rngB m.s2 (-17179869184) 17179869184=true) (h8:rngB m.s3 (-17179869184) 17179869184=true) (h9:rngB m.s4 (-17179869184) 17179869184=true) (h10:rngB m.s5 (-17179869184) 17179869184=true):mok m:=by
  have a:=rngB_iff.1 h2
  have b:=rngB_iff.1 h3
  have c:=rngB_iff.1 h4
  exact ⟨rngB_iff.1 h0,rngB_iff.1 h1,⟨a.1,a.2,b.1,b.2,c.1,c.2⟩,rngB_iff.1 h5,rngB_iff.1 h6,rngB_iff.1 h7,rngB_iff.1 h8,rngB_iff.1 h9,rngB_iff.1 h10⟩
end Go.Proofs.Ytpocbdompamnnaa
namespace Go.Proofs.Ytpocbdompamnnaa
open Go.ChangeShapes Go.WideShapes Go.RowKit
open Sh
end Go.Proofs.Ytpocbdompamnnaa
namespace Go.Proofs.Ytpocbdompamnnaa
open Go.ChangeShapes Go.WideShapes Go.RowKit
open Sh
abbrev chv (q:Ch):Value:=.agg #[.int .i64 q.1.1.1,.int .i64 q.1.1.2.1,.int .i64 q.1.1.2.2,.int .i64 q.1.2.1.1,.int .i64 q.1.2.1.2.1,.int .i64 q.1.2.1.2.2,.int .i64 q.1.2.2.1,.int .i64 q.1.2.2.2.1,.int .i64 q.1.2.2.2.2,.int .i64 q.2]
abbrev chb (q:Ch) (t:TypeId):Obj:=.cells #[.int .i64 q.1.1.1,.int .i64 q.1.1.2.1,.int .i64 q.1.1.2.2,.int .i64 q.1.2.1.1,.int .i64 q.1.2.1.2.1,.int .i64 q.1.2.1.2.2,.int .i64 q.1.2.2.1,.int .i64 q.1.2.2.2.1,.int .i64 q.1.2.2.2.2,.int .i64 q.2] t
def RowC (w:World) (b off n:Nat) (Q:Nat→Ch):Prop :=
  b < w.heap.size∧∀ k,k < n→w.cell? ⟨b,off + k * 10,none⟩=some (.int .i64 (Q k).1.1.1)∧w.cell? ⟨b,off + k * 10 + 1,none⟩=some (.int .i64 (Q k).1.1.2.1)∧w.cell? ⟨b,off + k * 10 + 2,none⟩=some (.int .i64 (Q k).1.1.2.2)∧w.cell? ⟨b,off + k * 10 + 3,none⟩=some (.int .i64 (Q k).1.2.1.1)∧w.cell? ⟨b,off + k * 10 + 4,none⟩=some (.int .i64 (Q k).1.2.1.2.1)∧w.cell? ⟨b,off + k * 10 + 5,none⟩=some (.int .i64 (Q k).1.2.1.2.2)∧w.cell? ⟨b,off + k * 10 + 6,none⟩=some (.int .i64 (Q k).1.2.2.1)∧w.cell? ⟨b,off + k * 10 + 7,none⟩=some (.int .i64 (Q k).1.2.2.2.1)∧w.cell? ⟨b,off + k * 10 + 8,none⟩=some (.int .i64 (Q k).1.2.2.2.2)∧w.cell? ⟨b,off + k * 10 + 9,none⟩=some (.int .i64 (Q k).2)
theorem rowC_in {w wr:World} {B b off n:Nat} {Q:Nat→Ch} (r:RowC w b off n Q) (hb:Below B w wr) (h:b < B):RowC wr b off n Q:=by
  refine ⟨Nat.lt_of_lt_of_le r.1 hb.size,fun k hk=>?_⟩
  obtain ⟨h0,h1,h2,h3,h4,h5,h6,h7,h8,h9⟩:=r.2 k hk
  exact ⟨(hb.cell (p:=⟨b,_,none⟩) h).trans h0,(hb.cell (p:=⟨b,_,none⟩) h).trans h1,(hb.cell (p:=⟨b,_,none⟩) h).trans h2,(hb.cell (p:=⟨b,_,none⟩) h).trans h3,(hb.cell (p:=⟨b,_,none⟩) h).trans h4,(hb.cell (p:=⟨b,_,none⟩) h).trans h5,(hb.cell (p:=⟨b,_,none⟩) h).trans h6,(hb.cell (p:=⟨b,_,none⟩) h).trans h7,(hb.cell (p:=⟨b,_,none⟩) h).trans h8,(hb.cell (p:=⟨b,_,none⟩) h).trans h9⟩
theorem rowC_below {w w1:World} {b off n:Nat} {Q:Nat→Ch} (r:RowC w b off n Q) (hb:Below w.heap.size w w1):RowC w1 b off n Q:=rowC_in r hb r.1
def LstC (w:World) (a:Option Addr) (n:Nat) (Q:Nat→Ch):Prop:=0 < n→∃ b off,a=some ⟨b,off,none⟩∧RowC w b off n Q
theorem lstC_below {w w1:World} {a:Option Addr} {n:Nat} {Q:Nat→Ch} (h:LstC w a n Q) (hb:Below w.heap.size w w1):LstC w1 a n Q:=fun h0=>by
  obtain ⟨b,off,e,r⟩:=h h0
  exact ⟨b,off,e,rowC_below r hb⟩
theorem lstC_in {w wr:World} {a:Option Addr} {n:Nat} {Q:Nat→Ch} (h:LstC w a n Q) (hb:Below w.heap.size w wr):LstC wr a n Q:=lstC_below h hb
def OwnCh (w:World) (b:Nat) (q:Ch):Prop:=(w.cell? ⟨b,0,none⟩=some (.int .i64 q.1.1.1)∧w.cell? ⟨b,1,none⟩=some (.int .i64 q.1.1.2.1)∧w.cell? ⟨b,2,none⟩=some (.int .i64 q.1.1.2.2)∧w.cell? ⟨b,3,none⟩=some (.int .i64 q.1.2.1.1)∧w.cell? ⟨b,4,none⟩=some (.int .i64 q.1.2.1.2.1)∧w.cell? ⟨b,5,none⟩=some (.int .i64 q.1.2.1.2.2)∧w.cell? ⟨b,6,none⟩=some (.int .i64 q.1.2.2.1)∧w.cell? ⟨b,7,none⟩=some (.int .i64 q.1.2.2.2.1)∧w.cell? ⟨b,8,none⟩=some (.int .i64 q.1.2.2.2.2)∧w.cell? ⟨b,9,none⟩=some (.int .i64 q.2))∧b < w.heap.size
theorem ownCh_new (w:World) (q:Ch) (t:TypeId):OwnCh (w.alloc (chb q t)) w.heap.size q:=⟨⟨by go_simp,by go_simp,by go_simp,by go_simp,by go_simp,by go_simp,by go_simp,by go_simp,by go_simp,by go_simp⟩,by simp⟩
theorem ownCh_below {w w1:World} {b:Nat} {q:Ch} (h:OwnCh w b q) (hb:Below w.heap.size w w1):OwnCh w1 b q:=by
  obtain ⟨⟨h0,h1,h2,h3,h4,h5,h6,h7,h8,h9⟩,l⟩:=h
  exact ⟨⟨(hb.cell (p:=⟨b,0,none⟩) l).trans h0,(hb.cell (p:=⟨b,1,none⟩) l).trans h1,(hb.cell (p:=⟨b,2,none⟩) l).trans h2,(hb.cell (p:=⟨b,3,none⟩) l).trans h3,(hb.cell (p:=⟨b,4,none⟩) l).trans h4,(hb.cell (p:=⟨b,5,none⟩) l).trans h5,(hb.cell (p:=⟨b,6,none⟩) l).trans h6,(hb.cell (p:=⟨b,7,none⟩) l).trans h7,(hb.cell (p:=⟨b,8,none⟩) l).trans h8,(hb.cell (p:=⟨b,9,none⟩) l).trans h9⟩,Nat.lt_of_lt_of_le l hb.size⟩
theorem ownCh_alloc {w:World} {b:Nat} {q:Ch} (h:OwnCh w b q) (o:Obj):OwnCh (w.alloc o) b q:=ownCh_below h ((Below.refl _ _).alloc (Nat.le_refl _) _)
theorem int_ne0 {x:Int} (h:x ≠ 0):(x != 0)=true:=bne_iff_ne.2 h
theorem fvc_big (a:Option Addr) (n cap:Nat) (w:World) (h:96 < n) (hn:n≤140737488355328) :
    Calls Try.prog 22 #[.slice a n cap] w fun e w'=>e=.returned (.int .i64 4)∧Below w.heap.size w w':=by
  go_enter Try.func22,Try.ntmps22
  go_wp2
  go_ret
  exact ⟨rfl,Below.refl _ _⟩
theorem fvc_zero (a:Option Addr) (cap:Nat) (w:World) :
    Calls Try.prog 22 #[.slice a 0 cap] w fun e w'=>e=.returned (.int .i64 0)∧Below w.heap.size w w':=by
  go_enter Try.func22,Try.ntmps22
  go_wp2
  refine wp_loop_rounds 1 ?_
  rw [rounds_succ]
  go_wp2
  go_ret
  exact ⟨rfl,Below.refl _ _⟩
set_option maxRecDepth 100000 in
set_option maxHeartbeats 2000000 in
theorem fvc_row (b off n cap:Nat) (Q:Nat→Ch) (w:World) (r:RowC w b off n Q) (hn:n≤96) :
    Calls Try.prog 22 #[.slice (some ⟨b,off,none⟩) n cap] w fun e w'=>e=.returned (.int .i64 (chcodes Q n))∧Below w.heap.size w w':=by
  have hb1:b < w.heap.size:=r.1
  have R:=Lib.hid r
  have hn':(n:Int)≤96:=by omega
  obtain ⟨res,hres⟩:∃ res,chcodes Q n=res:=⟨_,rfl⟩
  have RES:=Lib.hid hres
  rw [hres]
  clear r hres
  go_enter Try.func22,Try.ntmps22
  go_wp2
  go_loopw [11] (fun kv wr=>∃ k:Nat,k≤n∧kv=.int .i64 k∧chcodes Q k=0∧Below w.heap.size w wr) (fun kv _=>n - (intOf kv).toNat)
  case atStart=>exact ⟨0,Nat.zero_le _,rfl,rfl,Below.refl _ _⟩
  case round =>
    obtain ⟨k,hk,rfl,good,BB⟩:=hrel
    have GOOD:=Lib.hid good
    have B0:=Lib.hid BB
    clear good BB
    by_cases hlt:k < n
    · have r2:=rowC_in R.out B0.out hb1
      obtain ⟨c0,c1,c2,c3,c4,c5,c6,c7,c8,c9⟩:=r2.2 k hlt
      have r5:=r2.1
      clear r2
      have hk1:(k:Int) < (n:Int):=by omega
      have HIT:=Lib.hid (fun h:chcode (Q k) ≠ 0=>chcodes_hit hlt GOOD.out h)
      have NEXT:=Lib.hid (fun h:chcode (Q k)=0=>chcodes_next GOOD.out h)
      obtain ⟨q,hq⟩:∃ q,Q k=q:=⟨_,rfl⟩
      rw [hq] at c0 c1 c2 c3 c4 c5 c6 c7 c8 c9 HIT NEXT
      have QK:=Lib.hid hq
      clear hq
      obtain ⟨pc,hpc⟩:∃ pc,pcode q.1.1 q.1.2.1 q.1.2.2=pc:=⟨_,rfl⟩
      have V:=Lib.hid (fun W=>(hpc ▸ vp_any q.1.1 q.1.2.1 q.1.2.2 W:Calls Try.prog 45 #[pnv q.1.1 q.1.2.1 q.1.2.2] W fun e w'=>e=.returned (.int .i64 pc)∧Below W.heap.size W w'))
      have PC:=Lib.hid hpc
      clear hpc
      by_cases z:pc=0
      · subst z
        cases hr:rngB q.2 (-100) 100 with
        | false =>
          have I:=Lib.hid (fun W=>(hr ▸ finr_any q.2 (-100) 100 W:Calls Try.prog 46 #[.int .i64 q.2,.int .i64 (-100),.int .i64 100] W fun e w'=>e=.returned (.bool false)∧W=w'))
          have E:=Lib.hid (chcode_far PC.out hr)
          have hf:res=1:=by rw [← RES.out,HIT.out (by rw [E.out];decide),E.out]
          subst hf
          clear hr
          go_wp2_with fail
          refine (V.out _).mono ?_
          rintro e w1 ⟨rfl,hb2⟩
          have r3:=rowC_in R.out (bstep (balloc B0.out _) hb2) hb1
          have own:=ownCh_below (ownCh_new wr q 75) hb2
          obtain ⟨⟨d0,d1,d2,d3,d4,d5,d6,d7,d8,d9⟩,dl⟩:=own
          clear c0 c1 c2 c3 c4 c5 c6 c7 c8 c9 r3
          go_wp2_with fail
          refine (I.out _).mono ?_
          rintro e w' ⟨rfl,rfl⟩
          go_wp2
          go_ret
          exact ⟨rfl,by have hB:=B0.out;(repeat' (first | exact Below.refl _ _ | refine bstep ?_ hb2 | refine bstep ?_ hB | refine Below.setCell ?_ (by simp <;> omega) _ | refine balloc ?_ _ | refine Below.drew ?_ | refine bdrewN ?_ _))⟩
        | true =>
          have I:=Lib.hid (fun W=>(hr ▸ finr_any q.2 (-100) 100 W:Calls Try.prog 46 #[.int .i64 q.2,.int .i64 (-100),.int .i64 100] W fun e w'=>e=.returned (.bool true)∧W=w'))
          have E:=Lib.hid (chcode_ok PC.out hr)
          clear hr
          go_wp2_with fail
          refine (V.out _).mono ?_
          rintro e w1 ⟨rfl,hb2⟩
          have r3:=rowC_in R.out (bstep (balloc B0.out _) hb2) hb1
          have own:=ownCh_below (ownCh_new wr q 75) hb2
          obtain ⟨⟨d0,d1,d2,d3,d4,d5,d6,d7,d8,d9⟩,dl⟩:=own
          clear c0 c1 c2 c3 c4 c5 c6 c7 c8 c9 r3
          go_wp2_with fail
          refine (I.out _).mono ?_
          rintro e w' ⟨rfl,rfl⟩
          go_wp2
          go_roundw
          case rel=>exact ⟨k + 1,by omega,by go_num,NEXT.out E.out,by have hB:=B0.out;(repeat' (first | exact Below.refl _ _ | refine bstep ?_ hb2 | refine bstep ?_ hB | refine Below.setCell ?_ (by simp <;> omega) _ | refine balloc ?_ _ | refine Below.drew ?_ | refine bdrewN ?_ _))⟩
          case measure=>simp [intOf];omega
      · have z1:=int_ne0 z
        have hf:res=pc:=by rw [← RES.out,HIT.out (by rw [chcode_panel (by rw [PC.out];exact z),PC.out];exact z),chcode_panel (by rw [PC.out];exact z),PC.out]
        subst hf
        clear z
        go_wp2_with fail
        refine (V.out _).mono ?_
        rintro e w1 ⟨rfl,hb2⟩
        go_wp2
        go_ret
        exact ⟨rfl,by have hB:=B0.out;(repeat' (first | exact Below.refl _ _ | refine bstep ?_ hb2 | refine bstep ?_ hB | refine Below.setCell ?_ (by simp <;> omega) _ | refine balloc ?_ _ | refine Below.drew ?_ | refine bdrewN ?_ _))⟩
    · obtain rfl:k=n:=by omega
      have hf:res=0:=by rw [← RES.out,GOOD.out]
      subst hf
      go_wp2
      go_ret
      exact ⟨rfl,B0.out⟩
theorem fvc_any (a:Option Addr) (n cap:Nat) (Q:Nat→Ch) (w:World) (r:LstC w a n Q) (hn:n≤140737488355328) :
    Calls Try.prog 22 #[.slice a n cap] w fun e w'=>e=.returned (.int .i64 (ccode n Q))∧Below w.heap.size w w':=by
  unfold ccode
  by_cases h:96 < n
  · rw [if_pos h];exact fvc_big a n cap w h hn
  · rw [if_neg h]
    by_cases h0:n=0
    · subst h0;exact fvc_zero a cap w
    · obtain ⟨b,off,rfl,rr⟩:=r (by omega)
      exact fvc_row b off n cap Q w rr (by omega)
theorem rfvc_big (a:Option Addr) (n cap:Nat) (w:World) (h:96 < n) (hn:n≤140737488355328) :
    Calls Try.prog 26 #[.slice a n cap] w fun e w'=>e=.returned (.int .i64 4)∧Below w.heap.size w w':=by
  go_enter Try.func26,Try.ntmps26
  go_wp2
  go_ret
  exact ⟨rfl,Below.refl _ _⟩
theorem rfvc_zero (a:Option Addr) (cap:Nat) (w:World) :
    Calls Try.prog 26 #[.slice a 0 cap] w fun e w'=>e=.returned (.int .i64 0)∧Below w.heap.size w w':=by
  go_enter Try.func26,Try.ntmps26
  go_wp2
  refine wp_loop_rounds 1 ?_
  rw [rounds_succ]
  go_wp2
  go_ret
  exact ⟨rfl,Below.refl _ _⟩
set_option maxRecDepth 100000 in
set_option maxHeartbeats 2000000 in
theorem rfvc_row (b off n cap:Nat) (Q:Nat→Ch) (w:World) (r:RowC w b off n Q) (hn:n≤96) :
    Calls Try.prog 26 #[.slice (some ⟨b,off,none⟩) n cap] w fun e w'=>e=.returned (.int .i64 (chcodes Q n))∧Below w.heap.size w w':=by
  have hb1:b < w.heap.size:=r.1
  have R:=Lib.hid r
  have hn':(n:Int)≤96:=by omega
  obtain ⟨res,hres⟩:∃ res,chcodes Q n=res:=⟨_,rfl⟩
  have RES:=Lib.hid hres
  rw [hres]
  clear r hres
  go_enter Try.func26,Try.ntmps26
  go_wp2
  go_loopw [3] (fun kv wr=>∃ k:Nat,k≤n∧kv=.int .i64 k∧chcodes Q k=0∧Below w.heap.size w wr) (fun kv _=>n - (intOf kv).toNat)
  case atStart=>exact ⟨0,Nat.zero_le _,rfl,rfl,Below.refl _ _⟩
  case round =>
    obtain ⟨k,hk,rfl,good,BB⟩:=hrel
    have GOOD:=Lib.hid good
    have B0:=Lib.hid BB
    clear good BB
    by_cases hlt:k < n
    · have r2:=rowC_in R.out B0.out hb1
      obtain ⟨c0,c1,c2,c3,c4,c5,c6,c7,c8,c9⟩:=r2.2 k hlt
      have r5:=r2.1
      clear r2
      have hk1:(k:Int) < (n:Int):=by omega
      have HIT:=Lib.hid (fun h:chcode (Q k) ≠ 0=>chcodes_hit hlt GOOD.out h)
      have NEXT:=Lib.hid (fun h:chcode (Q k)=0=>chcodes_next GOOD.out h)
      obtain ⟨q,hq⟩:∃ q,Q k=q:=⟨_,rfl⟩
      rw [hq] at c0 c1 c2 c3 c4 c5 c6 c7 c8 c9 HIT NEXT
      have QK:=Lib.hid hq
      clear hq
      obtain ⟨pc,hpc⟩:∃ pc,pcode q.1.1 q.1.2.1 q.1.2.2=pc:=⟨_,rfl⟩
      have V:=Lib.hid (fun W=>(hpc ▸ rvp_any q.1.1 q.1.2.1 q.1.2.2 W:Calls Try.prog 53 #[pnv q.1.1 q.1.2.1 q.1.2.2] W fun e w'=>e=.returned (.int .i64 pc)∧Below W.heap.size W w'))
      have PC:=Lib.hid hpc
      clear hpc
      by_cases z:pc=0
      · subst z
        cases hr:rngB q.2 (-100) 100 with
        | false =>
          have I:=Lib.hid (fun W=>(hr ▸ rfinr_any q.2 (-100) 100 W:Calls Try.prog 54 #[.int .i64 q.2,.int .i64 (-100),.int .i64 100] W fun e w'=>e=.returned (.bool false)∧W=w'))
          have E:=Lib.hid (chcode_far PC.out hr)
          have hf:res=1:=by rw [← RES.out,HIT.out (by rw [E.out];decide),E.out]
          subst hf
          clear hr
          go_wp2_with fail
          refine (V.out _).mono ?_
          rintro e w1 ⟨rfl,hb2⟩
          have r3:=rowC_in R.out (bstep B0.out hb2) hb1
          skip
          obtain ⟨d0,d1,d2,d3,d4,d5,d6,d7,d8,d9⟩:=(QK.out ▸ r3.2 k hlt:w1.cell? ⟨b,off + k * 10,none⟩=some (.int .i64 q.1.1.1)∧w1.cell? ⟨b,off + k * 10 + 1,none⟩=some (.int .i64 q.1.1.2.1)∧w1.cell? ⟨b,off + k * 10 + 2,none⟩=some (.int .i64 q.1.1.2.2)∧w1.cell? ⟨b,off + k * 10 + 3,none⟩=some (.int .i64 q.1.2.1.1)∧w1.cell? ⟨b,off + k * 10 + 4,none⟩=some (.int .i64 q.1.2.1.2.1)∧w1.cell? ⟨b,off + k * 10 + 5,none⟩=some (.int .i64 q.1.2.1.2.2)∧w1.cell? ⟨b,off + k * 10 + 6,none⟩=some (.int .i64 q.1.2.2.1)∧w1.cell? ⟨b,off + k * 10 + 7,none⟩=some (.int .i64 q.1.2.2.2.1)∧w1.cell? ⟨b,off + k * 10 + 8,none⟩=some (.int .i64 q.1.2.2.2.2)∧w1.cell? ⟨b,off + k * 10 + 9,none⟩=some (.int .i64 q.2))
          have r6:=r3.1
          clear c0 c1 c2 c3 c4 c5 c6 c7 c8 c9 r3
          go_wp2_with fail
          refine (I.out _).mono ?_
          rintro e w' ⟨rfl,rfl⟩
          go_wp2
          go_ret
          exact ⟨rfl,by have hB:=B0.out;(repeat' (first | exact Below.refl _ _ | refine bstep ?_ hb2 | refine bstep ?_ hB | refine Below.setCell ?_ (by simp <;> omega) _ | refine balloc ?_ _ | refine Below.drew ?_ | refine bdrewN ?_ _))⟩
        | true =>
          have I:=Lib.hid (fun W=>(hr ▸ rfinr_any q.2 (-100) 100 W:Calls Try.prog 54 #[.int .i64 q.2,.int .i64 (-100),.int .i64 100] W fun e w'=>e=.returned (.bool true)∧W=w'))
          have E:=Lib.hid (chcode_ok PC.out hr)
          clear hr
          go_wp2_with fail
          refine (V.out _).mono ?_
          rintro e w1 ⟨rfl,hb2⟩
          have r3:=rowC_in R.out (bstep B0.out hb2) hb1
          skip
          obtain ⟨d0,d1,d2,d3,d4,d5,d6,d7,d8,d9⟩:=(QK.out ▸ r3.2 k hlt:w1.cell? ⟨b,off + k * 10,none⟩=some (.int .i64 q.1.1.1)∧w1.cell? ⟨b,off + k * 10 + 1,none⟩=some (.int .i64 q.1.1.2.1)∧w1.cell? ⟨b,off + k * 10 + 2,none⟩=some (.int .i64 q.1.1.2.2)∧w1.cell? ⟨b,off + k * 10 + 3,none⟩=some (.int .i64 q.1.2.1.1)∧w1.cell? ⟨b,off + k * 10 + 4,none⟩=some (.int .i64 q.1.2.1.2.1)∧w1.cell? ⟨b,off + k * 10 + 5,none⟩=some (.int .i64 q.1.2.1.2.2)∧w1.cell? ⟨b,off + k * 10 + 6,none⟩=some (.int .i64 q.1.2.2.1)∧w1.cell? ⟨b,off + k * 10 + 7,none⟩=some (.int .i64 q.1.2.2.2.1)∧w1.cell? ⟨b,off + k * 10 + 8,none⟩=some (.int .i64 q.1.2.2.2.2)∧w1.cell? ⟨b,off + k * 10 + 9,none⟩=some (.int .i64 q.2))
          have r6:=r3.1
          clear c0 c1 c2 c3 c4 c5 c6 c7 c8 c9 r3
          go_wp2_with fail
          refine (I.out _).mono ?_
          rintro e w' ⟨rfl,rfl⟩
          go_wp2
          go_roundw
          case rel=>exact ⟨k + 1,by omega,by go_num,NEXT.out E.out,by have hB:=B0.out;(repeat' (first | exact Below.refl _ _ | refine bstep ?_ hb2 | refine bstep ?_ hB | refine Below.setCell ?_ (by simp <;> omega) _ | refine balloc ?_ _ | refine Below.drew ?_ | refine bdrewN ?_ _))⟩
          case measure=>simp [intOf];omega
      · have z1:=int_ne0 z
        have hf:res=pc:=by rw [← RES.out,HIT.out (by rw [chcode_panel (by rw [PC.out];exact z),PC.out];exact z),chcode_panel (by rw [PC.out];exact z),PC.out]
        subst hf
        clear z
        go_wp2_with fail
        refine (V.out _).mono ?_
        rintro e w1 ⟨rfl,hb2⟩
        go_wp2
        go_ret
        exact ⟨rfl,by have hB:=B0.out;(repeat' (first | exact Below.refl _ _ | refine bstep ?_ hb2 | refine bstep ?_ hB | refine Below.setCell ?_ (by simp <;> omega) _ | refine balloc ?_ _ | refine Below.drew ?_ | refine bdrewN ?_ _))⟩
    · obtain rfl:k=n:=by omega
      have hf:res=0:=by rw [← RES.out,GOOD.out]
      subst hf
      go_wp2
      go_ret
      exact ⟨rfl,B0.out⟩
theorem rfvc_any (a:Option Addr) (n cap:Nat) (Q:Nat→Ch) (w:World) (r:LstC w a n Q) (hn:n≤140737488355328) :
    Calls Try.prog 26 #[.slice a n cap] w fun e w'=>e=.returned (.int .i64 (ccode n Q))∧Below w.heap.size w w':=by
  unfold ccode
  by_cases h:96 < n
  · rw [if_pos h];exact rfvc_big a n cap w h hn
  · rw [if_neg h]
    by_cases h0:n=0
    · subst h0;exact rfvc_zero a cap w
    · obtain ⟨b,off,rfl,rr⟩:=r (by omega)
      exact rfvc_row b off n cap Q w rr (by omega)
end Go.Proofs.Ytpocbdompamnnaa
