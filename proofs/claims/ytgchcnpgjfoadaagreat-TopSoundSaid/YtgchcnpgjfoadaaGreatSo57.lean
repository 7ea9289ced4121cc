import Derived.StillTailTactics
import Derived.Sort.Grow
import Derived.Shelf.SlSortCmp.WholeK
import Derived.Test.YtgchcnpgjfoadaaGreatShelf
import Derived.Test.YtgchcnpgjfoadaaGreatSo56
namespace Go.Proofs.YtgchcnpgjfoadaaGreat
open Go.ChangeShapes Go.WideShapes Go.RowKit
open Sh
open Go.Sort Go.Shelf
def orI (a b c:Int):Int:=if a ≠ 0 then a else if b ≠ 0 then b else c
set_option maxRecDepth 100000 in
set_option maxHeartbeats 2000000 in
theorem or8_any (x y z:Int) (b:Nat) (w:World) (h0:w.cell? ⟨b,0,none⟩=some (.int .i64 x)) (h1:w.cell? ⟨b,1,none⟩=some (.int .i64 y)) (h2:w.cell? ⟨b,2,none⟩=some (.int .i64 z)) (_:b < w.heap.size):Calls Tryz.prog 65 #[.slice (some ⟨b,0,none⟩) 3 3] w fun e w'=>e=.returned (.int .i64 (orI x y z))∧w'=w:=by
  unfold orI
  by_cases cx:x=0
  · rw [if_neg (fun h=>h cx)]
    by_cases cy:y=0
    · rw [if_neg (fun h=>h cy)]
      by_cases cz:z=0
      · subst cx
        subst cy
        subst cz
        go_enter Tryz.func65,Tryz.ntmps65
        go_wp2
        refine wp_loop_rounds 4 ?_
        rw [rounds_succ]
        go_wp2
        rw [rounds_succ]
        go_wp2
        rw [rounds_succ]
        go_wp2
        rw [rounds_succ]
        go_wp2
        go_ret
        exact ⟨rfl,rfl⟩
      · subst cx
        subst cy
        have ez:(z != 0)=true:=bne_iff_ne.2 cz
        go_enter Tryz.func65,Tryz.ntmps65
        go_wp2
        refine wp_loop_rounds 4 ?_
        rw [rounds_succ]
        go_wp2
        rw [rounds_succ]
        go_wp2
        rw [rounds_succ]
        go_wp2
        go_ret
        exact ⟨rfl,rfl⟩
    · subst cx
      rw [if_pos cy]
      have ey:(y != 0)=true:=bne_iff_ne.2 cy
      go_enter Tryz.func65,Tryz.ntmps65
      go_wp2
      refine wp_loop_rounds 4 ?_
      rw [rounds_succ]
      go_wp2
      rw [rounds_succ]
      go_wp2
      go_ret
      exact ⟨rfl,rfl⟩
  · rw [if_pos cx]
    have ex:(x != 0)=true:=bne_iff_ne.2 cx
    go_enter Tryz.func65,Tryz.ntmps65
    go_wp2
    refine wp_loop_rounds 4 ?_
    rw [rounds_succ]
    go_wp2
    go_ret
    exact ⟨rfl,rfl⟩
def cfA (x y:Int × Int × Int):Int:=orI (Lib.compareInt x.1 y.1) (Lib.compareInt x.2.1 y.2.1) (Lib.compareInt x.2.2 y.2.2)
theorem cfA_lt (x y:Int × Int × Int):ltOf cfA x y=decide (x.1 < y.1∨(x.1=y.1∧(x.2.1 < y.2.1∨(x.2.1=y.2.1∧x.2.2 < y.2.2)))):=by
  unfold ltOf cfA orI Lib.compareInt
  congr 1
  apply propext
  repeat' split
  all_goals omega
theorem cfA_swo:SWO (ltOf cfA) where
  irrefl x:=by rw [cfA_lt];exact decide_eq_false (by omega)
  trans x y z h k:=by
    rw [cfA_lt] at h k ⊢
    have h:=of_decide_eq_true h
    have k:=of_decide_eq_true k
    exact decide_eq_true (by omega)
  ntrans x y z h k:=by
    rw [cfA_lt] at h k ⊢
    have h:=of_decide_eq_false h
    have k:=of_decide_eq_false k
    exact decide_eq_false (by omega)
def encA (x:Int × Int × Int):List Value:=[.int .i64 x.1,.int .i64 x.2.1,.int .i64 x.2.2]
set_option maxRecDepth 100000 in
set_option maxHeartbeats 2000000 in
theorem cmpA_any (x y:Int × Int × Int) (w:World):Calls Tryz.prog 42 #[.agg #[.int .i64 x.1,.int .i64 x.2.1,.int .i64 x.2.2],.agg #[.int .i64 y.1,.int .i64 y.2.1,.int .i64 y.2.2]] w fun e w'=>e=.returned (.int .i64 (cfA x y))∧∃ q os',w'=grow (w.drewN q) os':=by
  have C1:=Lib.hid (fun W=>Tryz.cmp_Compare_int x.1 y.1 W)
  have C2:=Lib.hid (fun W=>Tryz.cmp_Compare_int x.2.1 y.2.1 W)
  have C3:=Lib.hid (fun W=>Tryz.cmp_Compare_int x.2.2 y.2.2 W)
  unfold cfA
  generalize Lib.compareInt x.1 y.1=u at *
  generalize Lib.compareInt x.2.1 y.2.1=v at *
  generalize Lib.compareInt x.2.2 y.2.2=z at *
  have P0:=Lib.hid (own_alloc (own_new w x 83) (ptc y 83))
  have P1:=Lib.hid (own_new (w.alloc (ptc x 83)) y 83)
  simp only [World.size_alloc] at P1
  have G0:=Lib.hid (show (w.alloc (ptc x 83)).alloc (ptc y 83)=grow w #[ptc x 83,ptc y 83] by rw [alloc_eq_grow,alloc_eq_grow,grow_grow];rfl)
  go_enter Tryz.func42,Tryz.ntmps42
  go_wp2
  obtain ⟨o0,o1,o2⟩:=own_cells P0.out
  obtain ⟨q0,q1,q2⟩:=own_cells P1.out
  clear P0 P1
  generalize (w.alloc (ptc x 83)).alloc (ptc y 83)=W0 at *
  refine wp_region_still_tail 15 (by kernel_rfl) (by kernel_rfl) ?_
  simp only [List.take_succ_cons,List.take_zero,List.drop_succ_cons,List.drop_zero]
  (repeat still_step)
  still_call (C1.out _)
  (repeat still_step)
  still_call (C2.out _)
  (repeat still_step)
  still_call (C3.out _)
  (repeat still_step)
  refine wpStill_nil ?_
  change wpList _ _ _ _ _ (World.drew _)
  go_wp2_with fail
  refine (or8_any u v z W0.heap.size _ (by go_simp) (by go_simp) (by go_simp) (by simp)).mono ?_
  rintro e w1 ⟨rfl,rfl⟩
  go_wp2
  go_ret
  refine ⟨rfl,1,#[ptc x 83,ptc y 83] ++ #[.cells #[.int .i64 u,.int .i64 v,.int .i64 z] 3],?_⟩
  rw [G0.out,alloc_eq_grow,grow_grow,drew_grow]
  rfl
end Go.Proofs.YtgchcnpgjfoadaaGreat
