import Derived.Test.YtpocbdompamnnaaChecked
import Derived.WalkKit
import Derived.Below
import Derived.Lib.Hide
import Derived.Outline
import Derived.Deep.QuietTactic
import Derived.BigQuiet
import Derived.WalkLawsBesides
import Derived.WalkSpells
import Derived.Laws.ResultCell
import Derived.Test.YtpocbdompamnnaaNum
namespace Go.Proofs.Ytpocbdompamnnaa
open Go.ChangeShapes Go.WideShapes Go.RowKit
theorem hid5 {a b c d e:Prop} (A:a) (B:b) (C:c) (D:d) (E:e):Hid a∧Hid b∧Hid c∧Hid d∧Hid e:=⟨Lib.hid A,Lib.hid B,Lib.hid C,Lib.hid D,Lib.hid E⟩
theorem out4 {a b c d:Prop} (A:Hid a) (B:Hid b) (C:Hid c) (D:Hid d):a∧b∧c∧d:=⟨A.out,B.out,C.out,D.out⟩
abbrev spv (lo hi:Int):Value:=.agg #[.int .i64 lo,.int .i64 hi]
abbrev spr (r:Sp.R):Value:=.tuple #[.agg #[.int .i64 r.1.1,.int .i64 r.1.2],.int .i64 r.2]
theorem bcell {W w1:World} (hb:Below W.heap.size W w1):(∀ b o,b < W.heap.size→w1.cell? ⟨b,o,none⟩=W.cell? ⟨b,o,none⟩)∧(∀ b o,b < W.heap.size→w1.frozen? ⟨b,o,none⟩=W.frozen? ⟨b,o,none⟩) :=
  ⟨fun b o h=>hb.cell (p:=⟨b,o,none⟩) h,fun b o h=>hb.frozen (p:=⟨b,o,none⟩) h⟩
def Pair (w:World) (b:Nat) (x y:Int):Prop :=
  w.cell? ⟨b,0,none⟩=some (.int .i64 x)∧w.cell? ⟨b,1,none⟩=some (.int .i64 y)∧w.frozen? ⟨b,0,none⟩=false∧w.frozen? ⟨b,1,none⟩=false∧b < w.heap.size
theorem pair_new (w:World) (x y:Int) (t:TypeId):Pair (w.alloc (.cells #[.int .i64 x,.int .i64 y] t)) w.heap.size x y :=
  ⟨by go_simp,by go_simp,by go_simp,by go_simp,by simp⟩
theorem pair_alloc {w:World} {b:Nat} {x y:Int} (h:Pair w b x y) (o:Obj):Pair (w.alloc o) b x y:=by
  obtain ⟨h1,h2,h3,h4,h5⟩:=h
  exact ⟨by go_simp,by go_simp,by go_simp,by go_simp,by simp;omega⟩
theorem pair_below {w w1:World} {b:Nat} {x y:Int} (h:Pair w b x y) (hb:Below w.heap.size w w1):Pair w1 b x y:=by
  obtain ⟨h1,h2,h3,h4,h5⟩:=h
  exact ⟨(hb.cell (p:=⟨b,0,none⟩) h5).trans h1,(hb.cell (p:=⟨b,1,none⟩) h5).trans h2,(hb.frozen (p:=⟨b,0,none⟩) h5).trans h3,(hb.frozen (p:=⟨b,1,none⟩) h5).trans h4,Nat.lt_of_lt_of_le h5 hb.size⟩
theorem bstep {a w w1:World} (h:Below a.heap.size a w) (hb:Below w.heap.size w w1):Below a.heap.size a w1:=h.trans (hb.mono h.size)
theorem balloc {a w:World} (h:Below a.heap.size a w) (o:Obj):Below a.heap.size a (w.alloc o):=h.alloc h.size o
theorem bdrewN {B:Nat} {a w:World} (h:Below B a w) (n:Nat):Below B a (w.drewN n):=⟨h.os,h.tape,h.output,h.size,h.block⟩
theorem pair_drewN {w:World} {b:Nat} {x y:Int} (h:Pair w b x y) (n:Nat):Pair (w.drewN n) b x y:=h
theorem below_step {B:Nat} {a w w1:World} (h:Below B a w) (hb:Below w.heap.size w w1) (hB:B≤w.heap.size):Below B a w1:=h.trans (hb.mono hB)
theorem results_cell_tmp2 {fn:Func} {p u v:Tmp} {ty:TypeId} (h:fn.results=#[.cell p ty,.tmp u,.tmp v]) (tmps:Array Value) (P:Program) (w:World) :
    (results fn tmps).run P w =
      ((asAddr (tmps.getD p undef)).run P w).andThen fun a w₁=>((loadVar ty a).run P w₁).andThen fun x w₂=>.ok (.tuple #[x,tmps.getD u undef,tmps.getD v undef]) w₂:=by
  simp only [results,h]
  simp [Sem.run_bind,Result.andThen]
theorem run_min_mn (P:Program) (w:World) (ts:Array TypeId) (t:TypeId) (x y:Int):(Builtin.min_ ts t #[.int .i64 x,.int .i64 y]).run P w=.ok (.int .i64 (Sp.mn x y)) w:=by
  unfold Sp.mn;exact run_min_int2 ..
theorem run_max_mx (P:Program) (w:World) (ts:Array TypeId) (t:TypeId) (x y:Int):(Builtin.max_ ts t #[.int .i64 x,.int .i64 y]).run P w=.ok (.int .i64 (Sp.mx x y)) w:=by
  unfold Sp.mx;exact run_max_int2 ..
theorem valid_yes (lo hi:Int) (w:World) (h:Sp.vldB lo hi=true) :
    Calls Try.prog 68 #[spv lo hi] w fun e w'=>e=.returned (.bool true)∧w.alloc (.cells #[.int .i64 lo,.int .i64 hi] 47)=w':=by
  obtain ⟨h1,h2,h3⟩:=Sp.vld_iff.1 h
  clear h
  go_enter Try.func68,Try.ntmps68
  go_wp2
  go_ret
  exact ⟨rfl,rfl⟩
theorem valid_no (lo hi:Int) (w:World) (h:Sp.vldB lo hi=false) :
    Calls Try.prog 68 #[spv lo hi] w fun e w'=>e=.returned (.bool false)∧w.alloc (.cells #[.int .i64 lo,.int .i64 hi] 47)=w':=by
  have h:=Sp.vld_not.1 h
  by_cases h1:-1099511627776≤lo
  · by_cases h2:lo≤hi
    · have h3:¬ hi≤1099511627776:=fun h3=>h ⟨h1,h2,h3⟩
      clear h
      go_enter Try.func68,Try.ntmps68
      go_wp2
      go_ret
      exact ⟨rfl,rfl⟩
    · clear h
      go_enter Try.func68,Try.ntmps68
      go_wp2
      go_ret
      exact ⟨rfl,rfl⟩
  · clear h
    go_enter Try.func68,Try.ntmps68
    go_wp2
    go_ret
    exact ⟨rfl,rfl⟩
theorem valid_any (lo hi:Int) (w:World) :
    Calls Try.prog 68 #[spv lo hi] w fun e w'=>e=.returned (.bool (Sp.vldB lo hi))∧w.alloc (.cells #[.int .i64 lo,.int .i64 hi] 47)=w':=by
  cases h:Sp.vldB lo hi
  · exact valid_no lo hi w h
  · exact valid_yes lo hi w h
theorem valid_below (lo hi:Int) (w:World) :
    Calls Try.prog 68 #[spv lo hi] w fun e w'=>e=.returned (.bool (Sp.vldB lo hi))∧Below w.heap.size w w' :=
  (valid_any lo hi w).mono fun _ _ ⟨h,k⟩=>⟨h,k ▸ (Below.refl _ _).alloc (Nat.le_refl _) _⟩
theorem least_yes (lo hi:Int) (w:World) (h:Sp.vldB lo hi=true) :
    Calls Try.prog 65 #[.int .i64 lo,.int .i64 hi] w fun e w'=>e=.returned (spr ((lo,hi),0))∧Below w.heap.size w w':=by
  go_enter Try.func65,Try.ntmps65
  go_wp2_with fail
  refine (valid_yes _ _ _ h).mono ?_
  rintro e w1 ⟨rfl,rfl⟩
  go_wp2
  refine bodyPost_ret (v:=spr ((lo,hi),0)) (by rw [results_cell_tmp rfl];go_simp) rfl ⟨rfl,?_⟩
  exact (((Below.refl _ _).alloc (Nat.le_refl _) _).alloc (by simp) _).alloc (by simp;omega) _
theorem least_no (lo hi:Int) (w:World) (h:Sp.vldB lo hi=false) :
    Calls Try.prog 65 #[.int .i64 lo,.int .i64 hi] w fun e w'=>e=.returned (spr ((0,0),4))∧Below w.heap.size w w':=by
  go_enter Try.func65,Try.ntmps65
  go_wp2_with fail
  refine (valid_no _ _ _ h).mono ?_
  rintro e w1 ⟨rfl,rfl⟩
  go_wp2
  refine bodyPost_ret (v:=spr ((0,0),4)) (by rw [results_cell_tmp rfl];go_simp) rfl ⟨rfl,?_⟩
  exact (((Below.refl _ _).alloc (Nat.le_refl _) _).alloc (by simp) _).alloc (by simp;omega) _
theorem least_any (lo hi:Int) (w:World) :
    Calls Try.prog 65 #[.int .i64 lo,.int .i64 hi] w fun e w'=>e=.returned (spr (Sp.told lo hi))∧Below w.heap.size w w':=by
  cases h:Sp.vldB lo hi
  · rw [Sp.told_no h];exact least_no lo hi w h
  · rw [Sp.told_yes h];exact least_yes lo hi w h
end Go.Proofs.Ytpocbdompamnnaa
