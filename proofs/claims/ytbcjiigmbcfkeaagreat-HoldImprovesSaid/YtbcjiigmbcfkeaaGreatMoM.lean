import Derived.Test.YtbcjiigmbcfkeaaGreatPtM
import Derived.Test.YtbcjiigmbcfkeaaGreatVecM
import Derived.RegionTactic
import Derived.BigRegion
import Derived.LoopTactic
import Derived.Deep.DeepFit
namespace Go.Proofs.YtbcjiigmbcfkeaaGreat
open Go.ChangeShapes Go.WideShapes Go.RowKit
open Sh
theorem finr_any (n lo hi:Int) (w:World) :
    Calls Tryz.prog 149 #[.int .i64 n,.int .i64 lo,.int .i64 hi] w fun e w'=>e=.returned (.bool (rngB n lo hi))∧w=w':=by
  by_cases h:lo≤n
  · by_cases k:n≤hi
    · rw [rngB_iff.2 ⟨h,k⟩]
      go_enter Tryz.func149,Tryz.ntmps149
      go_wp2
      go_ret
      exact ⟨rfl,rfl⟩
    · rw [rngB_not.2 (fun x=>k x.2)]
      have k':decide (n≤hi)=false:=decide_eq_false k
      clear k
      go_enter Tryz.func149,Tryz.ntmps149
      go_wp2
      go_ret
      exact ⟨rfl,rfl⟩
  · rw [rngB_not.2 (fun x=>h x.1)]
    go_enter Tryz.func149,Tryz.ntmps149
    go_wp2
    go_ret
    exact ⟨rfl,rfl⟩
theorem rfinr_any (n lo hi:Int) (w:World) :
    Calls Tryz.prog 163 #[.int .i64 n,.int .i64 lo,.int .i64 hi] w fun e w'=>e=.returned (.bool (rngB n lo hi))∧w=w':=by
  by_cases h:lo≤n
  · by_cases k:n≤hi
    · rw [rngB_iff.2 ⟨h,k⟩]
      go_enter Tryz.func163,Tryz.ntmps163
      go_wp2
      go_ret
      exact ⟨rfl,rfl⟩
    · rw [rngB_not.2 (fun x=>k x.2)]
      have k':decide (n≤hi)=false:=decide_eq_false k
      clear k
      go_enter Tryz.func163,Tryz.ntmps163
      go_wp2
      go_ret
      exact ⟨rfl,rfl⟩
  · rw [rngB_not.2 (fun x=>h x.1)]
    go_enter Tryz.func163,Tryz.ntmps163
    go_wp2
    go_ret
    exact ⟨rfl,rfl⟩
attribute [local go_sem 1000000] run_min_mn run_max_mx
end Go.Proofs.YtbcjiigmbcfkeaaGreat
namespace Go.Proofs.YtbcjiigmbcfkeaaGreat
open Go.ChangeShapes Go.WideShapes Go.RowKit
open Sh
theorem int_ne0 {x:Int} (h:x ≠ 0):(x != 0)=true:=bne_iff_ne.2 h
end Go.Proofs.YtbcjiigmbcfkeaaGreat
