import Derived.Test.YtbcjiigmbcfkeaaGreatMoM
import Derived.Test.YtbcjiigmbcfkeaaGreatFiPts
import Derived.Deep.QuietTactic
import Derived.BigQuiet
import Derived.StillTailTactics
namespace Go.Proofs.YtbcjiigmbcfkeaaGreat
open Go.ChangeShapes Go.WideShapes Go.RowKit
open Sh
attribute [local go_sem 1000000] run_min_mn run_max_mx
theorem run_max3' (P:Program) (w:World) (ts:Array TypeId) (t:TypeId) (x y z:Int):(Builtin.max_ ts t #[.int .i64 x,.int .i64 y,.int .i64 z]).run P w=.ok (.int .i64 (Sp.mx (Sp.mx x y) z)) w:=by
  unfold Sp.mx;simp [Builtin.max_,Builtin.max2]
theorem run_min3' (P:Program) (w:World) (ts:Array TypeId) (t:TypeId) (x y z:Int):(Builtin.min_ ts t #[.int .i64 x,.int .i64 y,.int .i64 z]).run P w=.ok (.int .i64 (Sp.mn (Sp.mn x y) z)) w:=by
  unfold Sp.mn;simp [Builtin.min_,Builtin.min2]
attribute [local go_sem high] run_max3' run_min3'
theorem sq_pos' (n:Int):0≤n*n:=by
  rw [← Int.natAbs_mul_self];exact Int.natCast_nonneg _
def lo3' (a b c:Int):Int:=Sp.mn (Sp.mn a b) c
def hi3' (a b c:Int):Int:=Sp.mx (Sp.mx a b) c
end Go.Proofs.YtbcjiigmbcfkeaaGreat
namespace Go.Proofs.YtbcjiigmbcfkeaaGreat
open Go.ChangeShapes Go.WideShapes Go.RowKit
open Sh
attribute [local go_sem 1000000] run_min_mn run_max_mx
attribute [local go_sem high] run_max3' run_min3'
theorem minmax_lo (P:Program) (w:World) (ts:Array TypeId) (t:TypeId) (x y z:Int):(Builtin.min_ ts t #[.int .i64 x,.int .i64 y,.int .i64 z]).run P w=.ok (.int .i64 (lo3' x y z)) w:=run_min3' P w ts t x y z
theorem minmax_hi (P:Program) (w:World) (ts:Array TypeId) (t:TypeId) (x y z:Int):(Builtin.max_ ts t #[.int .i64 x,.int .i64 y,.int .i64 z]).run P w=.ok (.int .i64 (hi3' x y z)) w:=run_max3' P w ts t x y z
attribute [-go_sem] run_max3' run_min3'
attribute [local go_sem 2000000] minmax_lo minmax_hi
end Go.Proofs.YtbcjiigmbcfkeaaGreat
namespace Go.Proofs.YtbcjiigmbcfkeaaGreat
open Go.ChangeShapes Go.WideShapes Go.RowKit
open Sh
abbrev Pu:=P9 × Int × Int
def pucode (p:Pu):Int:=if pcode p.1.1 p.1.2.1 p.1.2.2=0 then (if rngB p.2.1 0 1000 && rngB p.2.2 (-100) 100 then 0 else 1) else pcode p.1.1 p.1.2.1 p.1.2.2
abbrev p9w (t:P9):Value:=pnv t.1 t.2.1 t.2.2
def acode8 (x:P3) (s t d:Int):Int:=if inP 256 x && (rngB s 1 16 && (rngB t 0 2000 && rngB d 0 3)) then 0 else 1
theorem acode8_ok {x:P3} {s t d:Int} (h:acode8 x s t d=0):BdP 256 x∧(1≤s∧s≤16)∧(0≤t∧t≤2000)∧(0≤d∧d≤3):=by
  unfold acode8 at h
  cases e:(inP 256 x && (rngB s 1 16 && (rngB t 0 2000 && rngB d 0 3))) with
 |true =>
    rw [Bool.and_eq_true,Bool.and_eq_true,Bool.and_eq_true] at e
    exact ⟨inP_iff.1 e.1,rngB_iff.1 e.2.1,rngB_iff.1 e.2.2.1,rngB_iff.1 e.2.2.2⟩
 |false=>rw [e,if_neg Bool.false_ne_true] at h;exact absurd h (by decide)
def fcode (p:Pu) (x:P3) (s:Int):Int:=if pucode p=0 then acode8 x s 0 0 else pucode p
theorem fcode_ok {p:Pu} {x:P3} {s:Int} (h:fcode p x s=0):pucode p=0∧BdP 256 x∧1≤s∧s≤16:=by
  unfold fcode at h
  by_cases z:pucode p=0
  · rw [if_pos z] at h
    obtain ⟨h1,h2,_⟩:=acode8_ok h
    exact ⟨z,h1,h2.1,h2.2⟩
  · rw [if_neg z] at h
    exact absurd h z
end Go.Proofs.YtbcjiigmbcfkeaaGreat
