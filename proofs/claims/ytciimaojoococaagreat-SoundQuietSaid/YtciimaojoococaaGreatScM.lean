import Derived.Test.YtciimaojoococaaGreatMulRef
import Derived.StillTailTactics
import Derived.Deep.RegionHeld3
namespace Go.Proofs.YtciimaojoococaaGreat
open Go.ChangeShapes Go.WideShapes Go.RowKit
attribute [local go_sem 1000000] run_min_mn run_max_mx
theorem run_max3 (P:Program) (w:World) (ts:Array TypeId) (t:TypeId) (x y z:Int):(Builtin.max_ ts t #[.int .i64 x,.int .i64 y,.int .i64 z]).run P w=.ok (.int .i64 (Sp.mx (Sp.mx x y) z)) w:=by
  unfold Sp.mx;simp [Builtin.max_,Builtin.max2]
attribute [local go_sem high] run_max3
def prodR (n m:Int):Int:=if -1099511627776≤n * m∧n * m≤1099511627776 then n * m else if (n < 0∧0≤m∨0≤n∧m < 0) then -1099511627777 else 1099511627777
set_option maxRecDepth 100000 in
theorem sizes_any (lo hi:Int) (w:World) (h1:-1099511627776≤lo) (h2:lo≤1099511627776) (h3:-1099511627776≤hi) (h4:hi≤1099511627776) :
    Calls Tryz.prog 87 #[spv lo hi] w fun e w'=>e=.returned (.tuple #[.int .i64 (Sp.mx (Sp.mx 0 lo) (-hi)),.int .i64 (Sp.mx (-lo) hi)])∧Below w.heap.size w w':=by
  have V0:IntKind.i64.wrap (-lo)=-lo:=IntWalk.i64_in _ (by omega)
  have V1:IntKind.i64.wrap (-hi)=-hi:=IntWalk.i64_in _ (by omega)
  go_enter Tryz.func87,Tryz.ntmps87
  go_wp2
  go_quiet (fail)
  go_wp2
  go_ret2
  exact ⟨rfl,by (repeat' (first | exact Below.refl _ _ | refine Below.setCell ?_ (by simp <;> omega) _ | refine balloc ?_ _ | refine Below.drew ?_ | refine bdrewN ?_ _))⟩
theorem prod_in0 (a b:Int) (x y:Nat) (w:World) (ex:Hid (a.natAbs=x)) (ey:Hid (b.natAbs=y)) (hx:x≤1099511627776) (hy:y≤1099511627776) (hp:(x:Int) * (y:Int)≤1099511627776)  (t:decide (a < 0)=false) (u:decide (b < 0)=false) :
    Calls Tryz.prog 57 #[.int .i64 a,.int .i64 b] w fun e w'=>e=.returned (.int .i64 ((x:Int) * (y:Int)))∧w=w':=by
  have h0:=prod0 x y
  have hX:=Lib.hid hx
  have hY:=Lib.hid hy
  clear hx hy
  go_enter Tryz.func57,Tryz.ntmps57
  go_wp2_with fail
  refine (size1_any _ _ _ ex.out hX.out).mono ?_
  rintro e w1 ⟨rfl,rfl⟩
  go_wp2_with fail
  refine (size1_any _ _ _ ey.out hY.out).mono ?_
  rintro e w1 ⟨rfl,rfl⟩
  go_wp2_with fail
  refine (Tryz.bits_Mul64 _ _ (Nat.lt_of_le_of_lt hX.out (by decide)) (Nat.lt_of_le_of_lt hY.out (by decide)) _).mono ?_
  rintro e w1 ⟨rfl,rfl⟩
  go_wp2
  go_ret
  exact ⟨ret_int (by first | rfl | omega),rfl⟩
theorem prod_mid0 (a b:Int) (x y:Nat) (w:World) (ex:Hid (a.natAbs=x)) (ey:Hid (b.natAbs=y)) (hx:x≤1099511627776) (hy:y≤1099511627776) (hp:1099511627776 < (x:Int) * (y:Int)) (hq:x * y < 18446744073709551616)  (t:decide (a < 0)=false) (u:decide (b < 0)=false) :
    Calls Tryz.prog 57 #[.int .i64 a,.int .i64 b] w fun e w'=>e=.returned (.int .i64 (1099511627777))∧w=w':=by
  have h0:=prod0 x y
  have hX:=Lib.hid hx
  have hY:=Lib.hid hy
  clear hx hy
  have C:Hid (∀ w:World,Calls Tryz.prog 98 #[.int .u64 (x:Int),.int .u64 (y:Int)] w fun e w'=>e=.returned (.tuple #[.int .u64 0,.int .u64 ((x:Int) * (y:Int))])∧w'=w):=by
    intro w
    have T:=Tryz.bits_Mul64 _ _ (Nat.lt_of_le_of_lt hX.out (by decide)) (Nat.lt_of_le_of_lt hY.out (by decide)) w
    rw [Nat.div_eq_of_lt hq,Nat.mod_eq_of_lt hq,Int.natCast_mul] at T
    exact T
  clear hq
  go_enter Tryz.func57,Tryz.ntmps57
  go_wp2_with fail
  refine (size1_any _ _ _ ex.out hX.out).mono ?_
  rintro e w1 ⟨rfl,rfl⟩
  go_wp2_with fail
  refine (size1_any _ _ _ ey.out hY.out).mono ?_
  rintro e w1 ⟨rfl,rfl⟩
  go_wp2_with fail
  refine (C.out _).mono ?_
  rintro e w1 ⟨rfl,rfl⟩
  go_wp2
  go_ret
  exact ⟨ret_int (by first | rfl | omega),rfl⟩
theorem prod_big0 (a b:Int) (x y:Nat) (w:World) (ex:Hid (a.natAbs=x)) (ey:Hid (b.natAbs=y)) (hx:x≤1099511627776) (hy:y≤1099511627776) (hp:18446744073709551616≤x * y)  (t:decide (a < 0)=false) (u:decide (b < 0)=false) :
    Calls Tryz.prog 57 #[.int .i64 a,.int .i64 b] w fun e w'=>e=.returned (.int .i64 (1099511627777))∧w=w':=by
  have h0:=prod0 x y
  have hX:=Lib.hid hx
  have hY:=Lib.hid hy
  clear hx hy
  have C0:∃ h l:Nat,1≤h∧∀ w:World,Calls Tryz.prog 98 #[.int .u64 (x:Int),.int .u64 (y:Int)] w fun e w'=>e=.returned (.tuple #[.int .u64 (h:Int),.int .u64 (l:Int)])∧w'=w :=
    ⟨_,_,by omega,fun w=>Tryz.bits_Mul64 _ _ (Nat.lt_of_le_of_lt hX.out (by decide)) (Nat.lt_of_le_of_lt hY.out (by decide)) w⟩
  obtain ⟨h,l,hh,C1⟩:=C0
  have C:=Lib.hid C1
  clear C1 hp
  go_enter Tryz.func57,Tryz.ntmps57
  go_wp2_with fail
  refine (size1_any _ _ _ ex.out hX.out).mono ?_
  rintro e w1 ⟨rfl,rfl⟩
  go_wp2_with fail
  refine (size1_any _ _ _ ey.out hY.out).mono ?_
  rintro e w1 ⟨rfl,rfl⟩
  go_wp2_with fail
  refine (C.out _).mono ?_
  rintro e w1 ⟨rfl,rfl⟩
  go_wp2
  go_ret
  exact ⟨ret_int (by first | rfl | omega),rfl⟩
theorem prod_in1 (a b:Int) (x y:Nat) (w:World) (ex:Hid (a.natAbs=x)) (ey:Hid (b.natAbs=y)) (hx:x≤1099511627776) (hy:y≤1099511627776) (hp:(x:Int) * (y:Int)≤1099511627776)  (t:decide (a < 0)=true) (u:decide (b < 0)=false) :
    Calls Tryz.prog 57 #[.int .i64 a,.int .i64 b] w fun e w'=>e=.returned (.int .i64 (-((x:Int) * (y:Int))))∧w=w':=by
  have h0:=prod0 x y
  have hX:=Lib.hid hx
  have hY:=Lib.hid hy
  clear hx hy
  go_enter Tryz.func57,Tryz.ntmps57
  go_wp2_with fail
  refine (size1_any _ _ _ ex.out hX.out).mono ?_
  rintro e w1 ⟨rfl,rfl⟩
  go_wp2_with fail
  refine (size1_any _ _ _ ey.out hY.out).mono ?_
  rintro e w1 ⟨rfl,rfl⟩
  go_wp2_with fail
  refine (Tryz.bits_Mul64 _ _ (Nat.lt_of_le_of_lt hX.out (by decide)) (Nat.lt_of_le_of_lt hY.out (by decide)) _).mono ?_
  rintro e w1 ⟨rfl,rfl⟩
  go_wp2
  go_ret
  exact ⟨ret_int (by first | rfl | omega),rfl⟩
theorem prod_mid1 (a b:Int) (x y:Nat) (w:World) (ex:Hid (a.natAbs=x)) (ey:Hid (b.natAbs=y)) (hx:x≤1099511627776) (hy:y≤1099511627776) (hp:1099511627776 < (x:Int) * (y:Int)) (hq:x * y < 18446744073709551616)  (t:decide (a < 0)=true) (u:decide (b < 0)=false) :
    Calls Tryz.prog 57 #[.int .i64 a,.int .i64 b] w fun e w'=>e=.returned (.int .i64 (-(1099511627777)))∧w=w':=by
  have h0:=prod0 x y
  have hX:=Lib.hid hx
  have hY:=Lib.hid hy
  clear hx hy
  have C:Hid (∀ w:World,Calls Tryz.prog 98 #[.int .u64 (x:Int),.int .u64 (y:Int)] w fun e w'=>e=.returned (.tuple #[.int .u64 0,.int .u64 ((x:Int) * (y:Int))])∧w'=w):=by
    intro w
    have T:=Tryz.bits_Mul64 _ _ (Nat.lt_of_le_of_lt hX.out (by decide)) (Nat.lt_of_le_of_lt hY.out (by decide)) w
    rw [Nat.div_eq_of_lt hq,Nat.mod_eq_of_lt hq,Int.natCast_mul] at T
    exact T
  clear hq
  go_enter Tryz.func57,Tryz.ntmps57
  go_wp2_with fail
  refine (size1_any _ _ _ ex.out hX.out).mono ?_
  rintro e w1 ⟨rfl,rfl⟩
  go_wp2_with fail
  refine (size1_any _ _ _ ey.out hY.out).mono ?_
  rintro e w1 ⟨rfl,rfl⟩
  go_wp2_with fail
  refine (C.out _).mono ?_
  rintro e w1 ⟨rfl,rfl⟩
  go_wp2
  go_ret
  exact ⟨ret_int (by first | rfl | omega),rfl⟩
theorem prod_big1 (a b:Int) (x y:Nat) (w:World) (ex:Hid (a.natAbs=x)) (ey:Hid (b.natAbs=y)) (hx:x≤1099511627776) (hy:y≤1099511627776) (hp:18446744073709551616≤x * y)  (t:decide (a < 0)=true) (u:decide (b < 0)=false) :
    Calls Tryz.prog 57 #[.int .i64 a,.int .i64 b] w fun e w'=>e=.returned (.int .i64 (-(1099511627777)))∧w=w':=by
  have h0:=prod0 x y
  have hX:=Lib.hid hx
  have hY:=Lib.hid hy
  clear hx hy
  have C0:∃ h l:Nat,1≤h∧∀ w:World,Calls Tryz.prog 98 #[.int .u64 (x:Int),.int .u64 (y:Int)] w fun e w'=>e=.returned (.tuple #[.int .u64 (h:Int),.int .u64 (l:Int)])∧w'=w :=
    ⟨_,_,by omega,fun w=>Tryz.bits_Mul64 _ _ (Nat.lt_of_le_of_lt hX.out (by decide)) (Nat.lt_of_le_of_lt hY.out (by decide)) w⟩
  obtain ⟨h,l,hh,C1⟩:=C0
  have C:=Lib.hid C1
  clear C1 hp
  go_enter Tryz.func57,Tryz.ntmps57
  go_wp2_with fail
  refine (size1_any _ _ _ ex.out hX.out).mono ?_
  rintro e w1 ⟨rfl,rfl⟩
  go_wp2_with fail
  refine (size1_any _ _ _ ey.out hY.out).mono ?_
  rintro e w1 ⟨rfl,rfl⟩
  go_wp2_with fail
  refine (C.out _).mono ?_
  rintro e w1 ⟨rfl,rfl⟩
  go_wp2
  go_ret
  exact ⟨ret_int (by first | rfl | omega),rfl⟩
theorem prod_in2 (a b:Int) (x y:Nat) (w:World) (ex:Hid (a.natAbs=x)) (ey:Hid (b.natAbs=y)) (hx:x≤1099511627776) (hy:y≤1099511627776) (hp:(x:Int) * (y:Int)≤1099511627776)  (t:decide (a < 0)=false) (u:decide (b < 0)=true) :
    Calls Tryz.prog 57 #[.int .i64 a,.int .i64 b] w fun e w'=>e=.returned (.int .i64 (-((x:Int) * (y:Int))))∧w=w':=by
  have h0:=prod0 x y
  have hX:=Lib.hid hx
  have hY:=Lib.hid hy
  clear hx hy
  go_enter Tryz.func57,Tryz.ntmps57
  go_wp2_with fail
  refine (size1_any _ _ _ ex.out hX.out).mono ?_
  rintro e w1 ⟨rfl,rfl⟩
  go_wp2_with fail
  refine (size1_any _ _ _ ey.out hY.out).mono ?_
  rintro e w1 ⟨rfl,rfl⟩
  go_wp2_with fail
  refine (Tryz.bits_Mul64 _ _ (Nat.lt_of_le_of_lt hX.out (by decide)) (Nat.lt_of_le_of_lt hY.out (by decide)) _).mono ?_
  rintro e w1 ⟨rfl,rfl⟩
  go_wp2
  go_ret
  exact ⟨ret_int (by first | rfl | omega),rfl⟩
theorem prod_mid2 (a b:Int) (x y:Nat) (w:World) (ex:Hid (a.natAbs=x)) (ey:Hid (b.natAbs=y)) (hx:x≤1099511627776) (hy:y≤1099511627776) (hp:1099511627776 < (x:Int) * (y:Int)) (hq:x * y < 18446744073709551616)  (t:decide (a < 0)=false) (u:decide (b < 0)=true) :
    Calls Tryz.prog 57 #[.int .i64 a,.int .i64 b] w fun e w'=>e=.returned (.int .i64 (-(1099511627777)))∧w=w':=by
  have h0:=prod0 x y
  have hX:=Lib.hid hx
  have hY:=Lib.hid hy
  clear hx hy
  have C:Hid (∀ w:World,Calls Tryz.prog 98 #[.int .u64 (x:Int),.int .u64 (y:Int)] w fun e w'=>e=.returned (.tuple #[.int .u64 0,.int .u64 ((x:Int) * (y:Int))])∧w'=w):=by
    intro w
    have T:=Tryz.bits_Mul64 _ _ (Nat.lt_of_le_of_lt hX.out (by decide)) (Nat.lt_of_le_of_lt hY.out (by decide)) w
    rw [Nat.div_eq_of_lt hq,Nat.mod_eq_of_lt hq,Int.natCast_mul] at T
    exact T
  clear hq
  go_enter Tryz.func57,Tryz.ntmps57
  go_wp2_with fail
  refine (size1_any _ _ _ ex.out hX.out).mono ?_
  rintro e w1 ⟨rfl,rfl⟩
  go_wp2_with fail
  refine (size1_any _ _ _ ey.out hY.out).mono ?_
  rintro e w1 ⟨rfl,rfl⟩
  go_wp2_with fail
  refine (C.out _).mono ?_
  rintro e w1 ⟨rfl,rfl⟩
  go_wp2
  go_ret
  exact ⟨ret_int (by first | rfl | omega),rfl⟩
theorem prod_big2 (a b:Int) (x y:Nat) (w:World) (ex:Hid (a.natAbs=x)) (ey:Hid (b.natAbs=y)) (hx:x≤1099511627776) (hy:y≤1099511627776) (hp:18446744073709551616≤x * y)  (t:decide (a < 0)=false) (u:decide (b < 0)=true) :
    Calls Tryz.prog 57 #[.int .i64 a,.int .i64 b] w fun e w'=>e=.returned (.int .i64 (-(1099511627777)))∧w=w':=by
  have h0:=prod0 x y
  have hX:=Lib.hid hx
  have hY:=Lib.hid hy
  clear hx hy
  have C0:∃ h l:Nat,1≤h∧∀ w:World,Calls Tryz.prog 98 #[.int .u64 (x:Int),.int .u64 (y:Int)] w fun e w'=>e=.returned (.tuple #[.int .u64 (h:Int),.int .u64 (l:Int)])∧w'=w :=
    ⟨_,_,by omega,fun w=>Tryz.bits_Mul64 _ _ (Nat.lt_of_le_of_lt hX.out (by decide)) (Nat.lt_of_le_of_lt hY.out (by decide)) w⟩
  obtain ⟨h,l,hh,C1⟩:=C0
  have C:=Lib.hid C1
  clear C1 hp
  go_enter Tryz.func57,Tryz.ntmps57
  go_wp2_with fail
  refine (size1_any _ _ _ ex.out hX.out).mono ?_
  rintro e w1 ⟨rfl,rfl⟩
  go_wp2_with fail
  refine (size1_any _ _ _ ey.out hY.out).mono ?_
  rintro e w1 ⟨rfl,rfl⟩
  go_wp2_with fail
  refine (C.out _).mono ?_
  rintro e w1 ⟨rfl,rfl⟩
  go_wp2
  go_ret
  exact ⟨ret_int (by first | rfl | omega),rfl⟩
theorem prod_in3 (a b:Int) (x y:Nat) (w:World) (ex:Hid (a.natAbs=x)) (ey:Hid (b.natAbs=y)) (hx:x≤1099511627776) (hy:y≤1099511627776) (hp:(x:Int) * (y:Int)≤1099511627776)  (t:decide (a < 0)=true) (u:decide (b < 0)=true) :
    Calls Tryz.prog 57 #[.int .i64 a,.int .i64 b] w fun e w'=>e=.returned (.int .i64 ((x:Int) * (y:Int)))∧w=w':=by
  have h0:=prod0 x y
  have hX:=Lib.hid hx
  have hY:=Lib.hid hy
  clear hx hy
  go_enter Tryz.func57,Tryz.ntmps57
  go_wp2_with fail
  refine (size1_any _ _ _ ex.out hX.out).mono ?_
  rintro e w1 ⟨rfl,rfl⟩
  go_wp2_with fail
  refine (size1_any _ _ _ ey.out hY.out).mono ?_
  rintro e w1 ⟨rfl,rfl⟩
  go_wp2_with fail
  refine (Tryz.bits_Mul64 _ _ (Nat.lt_of_le_of_lt hX.out (by decide)) (Nat.lt_of_le_of_lt hY.out (by decide)) _).mono ?_
  rintro e w1 ⟨rfl,rfl⟩
  go_wp2
  go_ret
  exact ⟨ret_int (by first | rfl | omega),rfl⟩
theorem prod_mid3 (a b:Int) (x y:Nat) (w:World) (ex:Hid (a.natAbs=x)) (ey:Hid (b.natAbs=y)) (hx:x≤1099511627776) (hy:y≤1099511627776) (hp:1099511627776 < (x:Int) * (y:Int)) (hq:x * y < 18446744073709551616)  (t:decide (a < 0)=true) (u:decide (b < 0)=true) :
    Calls Tryz.prog 57 #[.int .i64 a,.int .i64 b] w fun e w'=>e=.returned (.int .i64 (1099511627777))∧w=w':=by
  have h0:=prod0 x y
  have hX:=Lib.hid hx
  have hY:=Lib.hid hy
  clear hx hy
  have C:Hid (∀ w:World,Calls Tryz.prog 98 #[.int .u64 (x:Int),.int .u64 (y:Int)] w fun e w'=>e=.returned (.tuple #[.int .u64 0,.int .u64 ((x:Int) * (y:Int))])∧w'=w):=by
    intro w
    have T:=Tryz.bits_Mul64 _ _ (Nat.lt_of_le_of_lt hX.out (by decide)) (Nat.lt_of_le_of_lt hY.out (by decide)) w
    rw [Nat.div_eq_of_lt hq,Nat.mod_eq_of_lt hq,Int.natCast_mul] at T
    exact T
  clear hq
  go_enter Tryz.func57,Tryz.ntmps57
  go_wp2_with fail
  refine (size1_any _ _ _ ex.out hX.out).mono ?_
  rintro e w1 ⟨rfl,rfl⟩
  go_wp2_with fail
  refine (size1_any _ _ _ ey.out hY.out).mono ?_
  rintro e w1 ⟨rfl,rfl⟩
  go_wp2_with fail
  refine (C.out _).mono ?_
  rintro e w1 ⟨rfl,rfl⟩
  go_wp2
  go_ret
  exact ⟨ret_int (by first | rfl | omega),rfl⟩
theorem prod_big3 (a b:Int) (x y:Nat) (w:World) (ex:Hid (a.natAbs=x)) (ey:Hid (b.natAbs=y)) (hx:x≤1099511627776) (hy:y≤1099511627776) (hp:18446744073709551616≤x * y)  (t:decide (a < 0)=true) (u:decide (b < 0)=true) :
    Calls Tryz.prog 57 #[.int .i64 a,.int .i64 b] w fun e w'=>e=.returned (.int .i64 (1099511627777))∧w=w':=by
  have h0:=prod0 x y
  have hX:=Lib.hid hx
  have hY:=Lib.hid hy
  clear hx hy
  have C0:∃ h l:Nat,1≤h∧∀ w:World,Calls Tryz.prog 98 #[.int .u64 (x:Int),.int .u64 (y:Int)] w fun e w'=>e=.returned (.tuple #[.int .u64 (h:Int),.int .u64 (l:Int)])∧w'=w :=
    ⟨_,_,by omega,fun w=>Tryz.bits_Mul64 _ _ (Nat.lt_of_le_of_lt hX.out (by decide)) (Nat.lt_of_le_of_lt hY.out (by decide)) w⟩
  obtain ⟨h,l,hh,C1⟩:=C0
  have C:=Lib.hid C1
  clear C1 hp
  go_enter Tryz.func57,Tryz.ntmps57
  go_wp2_with fail
  refine (size1_any _ _ _ ex.out hX.out).mono ?_
  rintro e w1 ⟨rfl,rfl⟩
  go_wp2_with fail
  refine (size1_any _ _ _ ey.out hY.out).mono ?_
  rintro e w1 ⟨rfl,rfl⟩
  go_wp2_with fail
  refine (C.out _).mono ?_
  rintro e w1 ⟨rfl,rfl⟩
  go_wp2
  go_ret
  exact ⟨ret_int (by first | rfl | omega),rfl⟩
theorem sproduct_any (a b:Int) (w:World) (h:Sp.vldB a a=true) (k:Sp.vldB b b=true) :
    Calls Tryz.prog 57 #[.int .i64 a,.int .i64 b] w fun e w'=>e=.returned (.int .i64 (prodR a b))∧w=w':=by
  obtain ⟨h1,_,h2⟩:=Sp.vld_iff.1 h
  obtain ⟨k1,_,k2⟩:=Sp.vld_iff.1 k
  obtain ⟨x,ex⟩:∃ x,a.natAbs=x:=⟨_,rfl⟩
  obtain ⟨y,ey⟩:∃ y,b.natAbs=y:=⟨_,rfl⟩
  have hx:x≤1099511627776:=by omega
  have hy:y≤1099511627776:=by omega
  have q0:=prod0 x y
  unfold prodR
  rcases Int.lt_or_le a 0 with ha | ha <;> rcases Int.lt_or_le b 0 with hb | hb
  · have M:a * b=(x:Int) * (y:Int):=by
      rw [show a=-(x:Int) by omega,show b=-(y:Int) by omega,Int.neg_mul_neg]
    rw [M]
    rcases Int.lt_or_le 1099511627776 ((x:Int) * (y:Int)) with c | c
    · rw [if_neg (by omega),if_neg (by omega)]
      rcases Int.lt_or_le ((x:Int) * (y:Int)) 18446744073709551616 with d | d
      · exact prod_mid3 a b x y w ex ey hx hy c (by rw [← Int.natCast_mul] at d;omega) (decide_eq_true ha) (decide_eq_true hb)
      · exact prod_big3 a b x y w ex ey hx hy (by rw [← Int.natCast_mul] at d;omega) (decide_eq_true ha) (decide_eq_true hb)
    · rw [if_pos (by omega)]
      exact prod_in3 a b x y w ex ey hx hy c (decide_eq_true ha) (decide_eq_true hb)
  · have M:a * b=-((x:Int) * (y:Int)):=by
      rw [show a=-(x:Int) by omega,show b=(y:Int) by omega,Int.neg_mul]
    rw [M]
    rcases Int.lt_or_le 1099511627776 ((x:Int) * (y:Int)) with c | c
    · rw [if_neg (by omega),if_pos (by omega)]
      rcases Int.lt_or_le ((x:Int) * (y:Int)) 18446744073709551616 with d | d
      · exact prod_mid1 a b x y w ex ey hx hy c (by rw [← Int.natCast_mul] at d;omega) (decide_eq_true ha) (decide_eq_false (by omega))
      · exact prod_big1 a b x y w ex ey hx hy (by rw [← Int.natCast_mul] at d;omega) (decide_eq_true ha) (decide_eq_false (by omega))
    · rw [if_pos (by omega)]
      exact prod_in1 a b x y w ex ey hx hy c (decide_eq_true ha) (decide_eq_false (by omega))
  · have M:a * b=-((x:Int) * (y:Int)):=by
      rw [show a=(x:Int) by omega,show b=-(y:Int) by omega,Int.mul_neg]
    rw [M]
    rcases Int.lt_or_le 1099511627776 ((x:Int) * (y:Int)) with c | c
    · rw [if_neg (by omega),if_pos (by omega)]
      rcases Int.lt_or_le ((x:Int) * (y:Int)) 18446744073709551616 with d | d
      · exact prod_mid2 a b x y w ex ey hx hy c (by rw [← Int.natCast_mul] at d;omega) (decide_eq_false (by omega)) (decide_eq_true hb)
      · exact prod_big2 a b x y w ex ey hx hy (by rw [← Int.natCast_mul] at d;omega) (decide_eq_false (by omega)) (decide_eq_true hb)
    · rw [if_pos (by omega)]
      exact prod_in2 a b x y w ex ey hx hy c (decide_eq_false (by omega)) (decide_eq_true hb)
  · have M:a * b=(x:Int) * (y:Int):=by
      rw [show a=(x:Int) by omega,show b=(y:Int) by omega]
    rw [M]
    rcases Int.lt_or_le 1099511627776 ((x:Int) * (y:Int)) with c | c
    · rw [if_neg (by omega),if_neg (by omega)]
      rcases Int.lt_or_le ((x:Int) * (y:Int)) 18446744073709551616 with d | d
      · exact prod_mid0 a b x y w ex ey hx hy c (by rw [← Int.natCast_mul] at d;omega) (decide_eq_false (by omega)) (decide_eq_false (by omega))
      · exact prod_big0 a b x y w ex ey hx hy (by rw [← Int.natCast_mul] at d;omega) (decide_eq_false (by omega)) (decide_eq_false (by omega))
    · rw [if_pos (by omega)]
      exact prod_in0 a b x y w ex ey hx hy c (decide_eq_false (by omega)) (decide_eq_false (by omega))
end Go.Proofs.YtciimaojoococaaGreat
namespace Go.Proofs.YtciimaojoococaaGreat
open Go.ChangeShapes Go.WideShapes Go.RowKit
attribute [local go_sem 1000000] run_min_mn run_max_mx
theorem pair_drew {w:World} {b:Nat} {x y:Int} (h:Pair w b x y):Pair w.drew b x y:=h
def scaleR (lo hi n:Int):Sp.R:=if Sp.vldB lo hi=true∧-1099511627776≤n∧n≤1099511627776 then Sp.told (Sp.mn (lo * n) (hi * n)) (Sp.mx (lo * n) (hi * n)) else ((0,0),1)
end Go.Proofs.YtciimaojoococaaGreat
namespace Go.Proofs.YtciimaojoococaaGreat
open Go.ChangeShapes Go.WideShapes Go.RowKit
attribute [local go_sem 1000000] run_min_mn run_max_mx
theorem scale_in {lo hi n F:Int} (hf:F=Sp.mx (-lo) hi) (h0:lo≤hi) (hn:Sp.mx n (-n) * F≤1099511627776) (hF:0≤F) :
    -1099511627776≤lo * n∧lo * n≤1099511627776∧-1099511627776≤hi * n∧hi * n≤1099511627776:=by
  rw [Sp.mx_eq] at hf hn
  have a:=Sp.mul_bd (x:=lo) (y:=n) (A:=F) (B:=max n (-n)) (by omega) (by omega) (by omega) (by omega)
  have b:=Sp.mul_bd (x:=hi) (y:=n) (A:=F) (B:=max n (-n)) (by omega) (by omega) (by omega) (by omega)
  rw [Int.mul_comm] at hn
  omega
theorem scale_out {lo hi n F:Int} (hf:F=Sp.mx (-lo) hi) (_h0:lo≤hi) (hn:1099511627776 < Sp.mx n (-n) * F) (_hF:0≤F) :
    Sp.told (Sp.mn (lo * n) (hi * n)) (Sp.mx (lo * n) (hi * n))=((0,0),4):=by
  apply Sp.told_no
  rw [Sp.vld_not]
  intro ⟨c1,c2,c3⟩
  simp only [Sp.mn_eq,Sp.mx_eq] at *
  rcases Int.lt_or_le n 0 with k | k
  · rw [show max n (-n)=-n by omega] at hn
    by_cases q:-lo≤hi
    · rw [hf,show max (-lo) hi=hi by omega,Int.neg_mul,Int.mul_comm n hi] at hn;omega
    · rw [hf,show max (-lo) hi=-lo by omega,Int.neg_mul_neg,Int.mul_comm n lo] at hn;omega
  · rw [show max n (-n)=n by omega] at hn
    by_cases q:-lo≤hi
    · rw [hf,show max (-lo) hi=hi by omega,Int.mul_comm n hi] at hn;omega
    · rw [hf,show max (-lo) hi=-lo by omega,Int.mul_neg,Int.mul_comm n lo] at hn;omega
theorem mul_mono {lo hi n:Int} (h:lo≤hi):(0≤n→lo * n≤hi * n)∧(n < 0→hi * n≤lo * n) :=
  ⟨fun k=>Int.mul_le_mul_of_nonneg_right h k,fun k=>Int.mul_le_mul_of_nonpos_right h (by omega)⟩
theorem prodR_sign {a n:Int} (_:Sp.vldB a a=true):(-1099511627776≤a * n∧a * n≤1099511627776→prodR a n=a * n)∧(¬ (-1099511627776≤a * n∧a * n≤1099511627776)→¬ (-1099511627776≤prodR a n∧prodR a n≤1099511627776)):=by
  unfold prodR
  exact ⟨fun h=>if_pos h,fun h=>by rw [if_neg h];split <;> omega⟩
theorem told_same {p q r s:Int} (h1:(-1099511627776≤p∧p≤1099511627776→r=p)∧(¬ (-1099511627776≤p∧p≤1099511627776)→¬ (-1099511627776≤r∧r≤1099511627776)))
    (h2:(-1099511627776≤q∧q≤1099511627776→s=q)∧(¬ (-1099511627776≤q∧q≤1099511627776)→¬ (-1099511627776≤s∧s≤1099511627776))):Sp.told r s=Sp.told p q:=by
  by_cases c:Sp.vldB p q=true
  · have c':=Sp.vld_iff.1 c
    rw [h1.1 (by omega),h2.1 (by omega)]
  · have c1:Sp.vldB p q=false:=by simpa using c
    have c':=Sp.vld_not.1 c1
    rw [Sp.told_no c1,Sp.told_no]
    rw [Sp.vld_not]
    intro h
    by_cases u:-1099511627776≤p∧p≤1099511627776
    · by_cases v:-1099511627776≤q∧q≤1099511627776
      · rw [h1.1 u,h2.1 v] at h;exact c' h
      · have:=h2.2 v;omega
    · have:=h1.2 u;omega
theorem scale_pos {lo hi n:Int} (h:lo≤hi) (k:0≤n):Sp.mn (lo * n) (hi * n)=lo * n∧Sp.mx (lo * n) (hi * n)=hi * n:=by
  have:=(mul_mono (n:=n) h).1 k;rw [Sp.mn_eq,Sp.mx_eq];omega
theorem scale_neg {lo hi n:Int} (h:lo≤hi) (k:n < 0):Sp.mn (lo * n) (hi * n)=hi * n∧Sp.mx (lo * n) (hi * n)=lo * n:=by
  have:=(mul_mono (n:=n) h).2 k;rw [Sp.mn_eq,Sp.mx_eq];omega
theorem div_test {a F:Int} (hF:0 < F):(1099511627776 / F < a ↔ 1099511627776 < a * F):=Int.ediv_lt_iff_lt_mul hF
set_option maxRecDepth 100000 in
set_option maxHeartbeats 800000 in
theorem scale_s0 (lo hi n:Int) (w:World) (h:Sp.vldB lo hi=true) (h1:-1099511627776≤n) (h2:n≤1099511627776) (t:(Sp.mx (-lo) hi)≤0) (p:-1099511627776≤lo * n∧lo * n≤1099511627776∧-1099511627776≤hi * n∧hi * n≤1099511627776) :
    Calls Tryz.prog 51 #[spv lo hi,.int .i64 n] w fun e w'=>e=.returned (spr (Sp.told (Sp.mn (lo * n) (hi * n)) (Sp.mx (lo * n) (hi * n))))∧Below w.heap.size w w':=by
  have q:=Sp.vld_iff.1 h
  have b1:Hid (-1099511627776≤lo):=(by omega:-1099511627776≤lo)
  have b2:Hid (lo≤1099511627776):=(by omega:lo≤1099511627776)
  have b3:Hid (-1099511627776≤hi):=(by omega:-1099511627776≤hi)
  have b4:Hid (hi≤1099511627776):=(by omega:hi≤1099511627776)
  have V0:IntKind.i64.wrap (lo * n)=lo * n:=IntWalk.i64_in _ (by omega)
  have V1:IntKind.i64.wrap (hi * n)=hi * n:=IntWalk.i64_in _ (by omega)
  clear q p
  go_enter Tryz.func51,Tryz.ntmps51
  go_wp2_with fail
  refine (valid_yes _ _ _ h).mono ?_
  rintro e w1 ⟨rfl,rfl⟩
  go_wp2_with fail
  refine (betw_yes _ _ _ _ h1 h2).mono ?_
  rintro e w1 ⟨rfl,rfl⟩
  go_wp2_with fail
  refine (sizes_any _ _ _ b1.out b2.out b3.out b4.out).mono ?_
  rintro e w1 ⟨rfl,hb⟩
  obtain ⟨x1,x2,x3,x4,x5⟩:=pair_below (pair_alloc (pair_alloc (pair_new w lo hi _) _) _) hb
  have z0:=pair_below (pair_alloc (pair_new (w.alloc _) 0 0 _) _) hb
  simp only [World.size_alloc] at z0
  have Z:=z0
  obtain ⟨z1,z2,z3,z4,z5⟩:=z0
  go_wp2_with fail
  go_quiet (fail)
  go_wp2_with fail
  refine (least_any _ _ _).mono ?_
  rintro e w2 ⟨rfl,hb2⟩
  obtain ⟨g1,g2,g3,g4,g5⟩:=pair_below (pair_drewN Z _) hb2
  go_wp2
  refine bodyPost_ret (v:=spr (Sp.told _ _)) (by rw [results_cell_tmp rfl];go_simp) rfl ⟨rfl,?_⟩
  (repeat' (first | exact Below.refl _ _ | refine bstep ?_ hb | refine bstep ?_ hb2 | refine Below.setCell ?_ (by simp <;> omega) _ | refine balloc ?_ _ | refine Below.drew ?_ | refine bdrewN ?_ _))
set_option maxRecDepth 100000 in
set_option maxHeartbeats 800000 in
theorem scale_s1 (lo hi n:Int) (w:World) (h:Sp.vldB lo hi=true) (h1:-1099511627776≤n) (h2:n≤1099511627776) (t:1≤(Sp.mx (-lo) hi)) (tt:(Sp.mx (-lo) hi)≤1099511627776) (u:Sp.mx n (-n)≤1099511627776 / (Sp.mx (-lo) hi)) (p:-1099511627776≤lo * n∧lo * n≤1099511627776∧-1099511627776≤hi * n∧hi * n≤1099511627776) :
    Calls Tryz.prog 51 #[spv lo hi,.int .i64 n] w fun e w'=>e=.returned (spr (Sp.told (Sp.mn (lo * n) (hi * n)) (Sp.mx (lo * n) (hi * n))))∧Below w.heap.size w w':=by
  have q:=Sp.vld_iff.1 h
  have b1:Hid (-1099511627776≤lo):=(by omega:-1099511627776≤lo)
  have b2:Hid (lo≤1099511627776):=(by omega:lo≤1099511627776)
  have b3:Hid (-1099511627776≤hi):=(by omega:-1099511627776≤hi)
  have b4:Hid (hi≤1099511627776):=(by omega:hi≤1099511627776)
  have V0:IntKind.i64.wrap (lo * n)=lo * n:=IntWalk.i64_in _ (by omega)
  have V1:IntKind.i64.wrap (hi * n)=hi * n:=IntWalk.i64_in _ (by omega)
  clear q p
  go_enter Tryz.func51,Tryz.ntmps51
  go_wp2_with fail
  refine (valid_yes _ _ _ h).mono ?_
  rintro e w1 ⟨rfl,rfl⟩
  go_wp2_with fail
  refine (betw_yes _ _ _ _ h1 h2).mono ?_
  rintro e w1 ⟨rfl,rfl⟩
  go_wp2_with fail
  refine (sizes_any _ _ _ b1.out b2.out b3.out b4.out).mono ?_
  rintro e w1 ⟨rfl,hb⟩
  obtain ⟨x1,x2,x3,x4,x5⟩:=pair_below (pair_alloc (pair_alloc (pair_new w lo hi _) _) _) hb
  have z0:=pair_below (pair_alloc (pair_new (w.alloc _) 0 0 _) _) hb
  simp only [World.size_alloc] at z0
  have Z:=z0
  obtain ⟨z1,z2,z3,z4,z5⟩:=z0
  go_wp2_with fail
  go_quiet (fail)
  go_wp2_with fail
  refine (least_any _ _ _).mono ?_
  rintro e w2 ⟨rfl,hb2⟩
  obtain ⟨g1,g2,g3,g4,g5⟩:=pair_below (pair_drewN Z _) hb2
  go_wp2
  refine bodyPost_ret (v:=spr (Sp.told _ _)) (by rw [results_cell_tmp rfl];go_simp) rfl ⟨rfl,?_⟩
  (repeat' (first | exact Below.refl _ _ | refine bstep ?_ hb | refine bstep ?_ hb2 | refine Below.setCell ?_ (by simp <;> omega) _ | refine balloc ?_ _ | refine Below.drew ?_ | refine bdrewN ?_ _))
set_option maxRecDepth 100000 in
set_option maxHeartbeats 800000 in
theorem scale_s2 (lo hi n:Int) (w:World) (h:Sp.vldB lo hi=true) (h1:-1099511627776≤n) (h2:n≤1099511627776) (t:1≤(Sp.mx (-lo) hi)) (tt:(Sp.mx (-lo) hi)≤1099511627776) (u:1099511627776 / (Sp.mx (-lo) hi) < Sp.mx n (-n)) :
    Calls Tryz.prog 51 #[spv lo hi,.int .i64 n] w fun e w'=>e=.returned (spr ((0,0),4))∧Below w.heap.size w w':=by
  have q:=Sp.vld_iff.1 h
  have b1:Hid (-1099511627776≤lo):=(by omega:-1099511627776≤lo)
  have b2:Hid (lo≤1099511627776):=(by omega:lo≤1099511627776)
  have b3:Hid (-1099511627776≤hi):=(by omega:-1099511627776≤hi)
  have b4:Hid (hi≤1099511627776):=(by omega:hi≤1099511627776)
  clear q
  go_enter Tryz.func51,Tryz.ntmps51
  go_wp2_with fail
  refine (valid_yes _ _ _ h).mono ?_
  rintro e w1 ⟨rfl,rfl⟩
  go_wp2_with fail
  refine (betw_yes _ _ _ _ h1 h2).mono ?_
  rintro e w1 ⟨rfl,rfl⟩
  go_wp2_with fail
  refine (sizes_any _ _ _ b1.out b2.out b3.out b4.out).mono ?_
  rintro e w1 ⟨rfl,hb⟩
  obtain ⟨x1,x2,x3,x4,x5⟩:=pair_below (pair_alloc (pair_alloc (pair_new w lo hi _) _) _) hb
  have z0:=pair_below (pair_alloc (pair_new (w.alloc _) 0 0 _) _) hb
  simp only [World.size_alloc] at z0
  have Z:=z0
  obtain ⟨z1,z2,z3,z4,z5⟩:=z0
  go_wp2
  refine bodyPost_ret (v:=spr ((0,0),4)) (by rw [results_cell_tmp rfl];go_simp) rfl ⟨rfl,?_⟩
  (repeat' (first | exact Below.refl _ _ | refine bstep ?_ hb | refine Below.setCell ?_ (by simp <;> omega) _ | refine balloc ?_ _ | refine Below.drew ?_ | refine bdrewN ?_ _))
theorem scale_yes (lo hi n:Int) (w:World) (h:Sp.vldB lo hi=true) (h1:-1099511627776≤n) (h2:n≤1099511627776) :
    Calls Tryz.prog 51 #[spv lo hi,.int .i64 n] w fun e w'=>e=.returned (spr (Sp.told (Sp.mn (lo * n) (hi * n)) (Sp.mx (lo * n) (hi * n))))∧Below w.heap.size w w':=by
  have q:=Sp.vld_iff.1 h
  have e1:=Sp.mx_eq (-lo) hi
  have e2:=Sp.mx_eq n (-n)
  rcases Int.lt_or_le 0 (Sp.mx (-lo) hi) with t | t
  · rcases Int.lt_or_le (1099511627776 / (Sp.mx (-lo) hi)) (Sp.mx n (-n)) with u | u
    · rw [scale_out rfl q.2.1 ((div_test t).1 u) (by omega)]
      exact scale_s2 lo hi n w h h1 h2 t (by omega) u
    · exact scale_s1 lo hi n w h h1 h2 t (by omega) u (scale_in rfl q.2.1 (by have:=div_test (a:=Sp.mx n (-n)) t;omega) (by omega))
  · refine scale_s0 lo hi n w h h1 h2 t ?_
    obtain rfl:lo=0:=by omega
    obtain rfl:hi=0:=by omega
    simp
theorem scale_no1 (lo hi n:Int) (w:World) (h:Sp.vldB lo hi=false) :
    Calls Tryz.prog 51 #[spv lo hi,.int .i64 n] w fun e w'=>e=.returned (spr ((0,0),1))∧Below w.heap.size w w':=by
  go_enter Tryz.func51,Tryz.ntmps51
  go_wp2_with fail
  refine (valid_no _ _ _ h).mono ?_
  rintro e w1 ⟨rfl,rfl⟩
  go_wp2
  refine bodyPost_ret (v:=spr ((0,0),1)) (by rw [results_cell_tmp rfl];go_simp) rfl ⟨rfl,?_⟩
  (repeat' (first | exact Below.refl _ _ | refine Below.setCell ?_ (by simp <;> omega) _ | refine balloc ?_ _ | refine Below.drew ?_ | refine bdrewN ?_ _))
theorem scale_no2 (lo hi n:Int) (w:World) (h:Sp.vldB lo hi=true) (k:¬ (-1099511627776≤n∧n≤1099511627776)) :
    Calls Tryz.prog 51 #[spv lo hi,.int .i64 n] w fun e w'=>e=.returned (spr ((0,0),1))∧Below w.heap.size w w':=by
  rcases Int.lt_or_le n (-1099511627776) with h1 | h1
  · clear k
    go_enter Tryz.func51,Tryz.ntmps51
    go_wp2_with fail
    refine (valid_yes _ _ _ h).mono ?_
    rintro e w1 ⟨rfl,rfl⟩
    go_wp2
    refine bodyPost_ret (v:=spr ((0,0),1)) (by rw [results_cell_tmp rfl];go_simp) rfl ⟨rfl,?_⟩
    (repeat' (first | exact Below.refl _ _ | refine Below.setCell ?_ (by simp <;> omega) _ | refine balloc ?_ _ | refine Below.drew ?_ | refine bdrewN ?_ _))
  · have h2:decide (n≤1099511627776)=false:=decide_eq_false (by omega)
    clear k
    go_enter Tryz.func51,Tryz.ntmps51
    go_wp2_with fail
    refine (valid_yes _ _ _ h).mono ?_
    rintro e w1 ⟨rfl,rfl⟩
    go_wp2
    refine bodyPost_ret (v:=spr ((0,0),1)) (by rw [results_cell_tmp rfl];go_simp) rfl ⟨rfl,?_⟩
    (repeat' (first | exact Below.refl _ _ | refine Below.setCell ?_ (by simp <;> omega) _ | refine balloc ?_ _ | refine Below.drew ?_ | refine bdrewN ?_ _))
theorem scale_any (lo hi n:Int) (w:World) :
    Calls Tryz.prog 51 #[spv lo hi,.int .i64 n] w fun e w'=>e=.returned (spr (scaleR lo hi n))∧Below w.heap.size w w':=by
  unfold scaleR
  split
  · rename_i q;exact scale_yes _ _ _ _ q.1 q.2.1 q.2.2
  · rename_i q
    cases h:Sp.vldB lo hi
    · exact scale_no1 _ _ _ _ h
    · exact scale_no2 _ _ _ _ h (fun k=>q ⟨h,k⟩)
set_option maxRecDepth 100000 in
set_option maxHeartbeats 800000 in
theorem rscale_neg (lo hi n:Int) (w:World) (h:Sp.vldB lo hi=true) (h1:-1099511627776≤n) (h2:n≤1099511627776) (k:n < 0) :
    Calls Tryz.prog 27 #[spv lo hi,.int .i64 n] w fun e w'=>e=.returned (spr (Sp.told (prodR hi n) (prodR lo n)))∧Below w.heap.size w w':=by
  have q:=Sp.vld_iff.1 h
  have X0:Hid (Sp.vldB lo lo=true):=(by rw [Sp.vld_iff];omega:Sp.vldB lo lo=true)
  have X1:Hid (Sp.vldB hi hi=true):=(by rw [Sp.vld_iff];omega:Sp.vldB hi hi=true)
  have X2:Hid (Sp.vldB n n=true):=(by rw [Sp.vld_iff];omega:Sp.vldB n n=true)
  clear q
  go_enter Tryz.func27,Tryz.ntmps27
  go_wp2_with fail
  refine (rvalid_yes _ _ _ h).mono ?_
  rintro e w1 ⟨rfl,rfl⟩
  go_wp2_with fail
  refine (rbetw_yes _ _ _ _ h1 h2).mono ?_
  rintro e w1 ⟨rfl,rfl⟩
  go_wp2_with fail
  go_region_held3 (fun w'=>w'.cell? ⟨w.heap.size,0,none⟩=some (.int .i64 lo)∧w'.cell? ⟨w.heap.size,1,none⟩=some (.int .i64 hi))
    (first | go_keep)
    (first | (go_at_call 57;refine (sproduct_any _ _ _ (by first | exact X0.out | exact X1.out) X2.out).mono ?_;rintro e w2 ⟨rfl,rfl⟩) | (go_at_call 56;refine (told_any _ _ _).mono ?_;rintro e w2 ⟨rfl,hb⟩;have y0:=pair_below (pair_drew (pair_alloc (pair_alloc (pair_new w lo hi _) _) _)) hb;have z0:=pair_below (pair_drew (pair_alloc (pair_new (w.alloc _) 0 0 _) _)) hb;simp only [World.size_alloc] at z0;obtain ⟨g1,g2,g3,g4,g5⟩:=z0;obtain ⟨y1,y2,y3,y4,y5⟩:=y0))
  all_goals
    go_wp2
    refine bodyPost_ret (v:=spr (Sp.told _ _)) (by rw [results_cell_tmp rfl];go_simp) rfl ⟨rfl,?_⟩
    (repeat' (first | exact Below.refl _ _ | refine bstep ?_ hb | refine Below.setCell ?_ (by simp <;> omega) _ | refine balloc ?_ _ | refine Below.drew ?_ | refine bdrewN ?_ _))
set_option maxRecDepth 100000 in
set_option maxHeartbeats 800000 in
theorem rscale_pos (lo hi n:Int) (w:World) (h:Sp.vldB lo hi=true) (h1:-1099511627776≤n) (h2:n≤1099511627776) (k:0≤n) :
    Calls Tryz.prog 27 #[spv lo hi,.int .i64 n] w fun e w'=>e=.returned (spr (Sp.told (prodR lo n) (prodR hi n)))∧Below w.heap.size w w':=by
  have q:=Sp.vld_iff.1 h
  have X0:Hid (Sp.vldB lo lo=true):=(by rw [Sp.vld_iff];omega:Sp.vldB lo lo=true)
  have X1:Hid (Sp.vldB hi hi=true):=(by rw [Sp.vld_iff];omega:Sp.vldB hi hi=true)
  have X2:Hid (Sp.vldB n n=true):=(by rw [Sp.vld_iff];omega:Sp.vldB n n=true)
  clear q
  go_enter Tryz.func27,Tryz.ntmps27
  go_wp2_with fail
  refine (rvalid_yes _ _ _ h).mono ?_
  rintro e w1 ⟨rfl,rfl⟩
  go_wp2_with fail
  refine (rbetw_yes _ _ _ _ h1 h2).mono ?_
  rintro e w1 ⟨rfl,rfl⟩
  go_wp2_with fail
  go_region_held3 (fun w'=>w'.cell? ⟨w.heap.size,0,none⟩=some (.int .i64 lo)∧w'.cell? ⟨w.heap.size,1,none⟩=some (.int .i64 hi))
    (first | go_keep)
    (first | (go_at_call 57;refine (sproduct_any _ _ _ (by first | exact X0.out | exact X1.out) X2.out).mono ?_;rintro e w2 ⟨rfl,rfl⟩) | (go_at_call 56;refine (told_any _ _ _).mono ?_;rintro e w2 ⟨rfl,hb⟩;have y0:=pair_below (pair_drew (pair_alloc (pair_alloc (pair_new w lo hi _) _) _)) hb;have z0:=pair_below (pair_drew (pair_alloc (pair_new (w.alloc _) 0 0 _) _)) hb;simp only [World.size_alloc] at z0;obtain ⟨g1,g2,g3,g4,g5⟩:=z0;obtain ⟨y1,y2,y3,y4,y5⟩:=y0))
  all_goals
    go_wp2
    refine bodyPost_ret (v:=spr (Sp.told _ _)) (by rw [results_cell_tmp rfl];go_simp) rfl ⟨rfl,?_⟩
    (repeat' (first | exact Below.refl _ _ | refine bstep ?_ hb | refine Below.setCell ?_ (by simp <;> omega) _ | refine balloc ?_ _ | refine Below.drew ?_ | refine bdrewN ?_ _))
theorem rscale_yes (lo hi n:Int) (w:World) (h:Sp.vldB lo hi=true) (h1:-1099511627776≤n) (h2:n≤1099511627776) :
    Calls Tryz.prog 27 #[spv lo hi,.int .i64 n] w fun e w'=>e=.returned (spr (Sp.told (Sp.mn (lo * n) (hi * n)) (Sp.mx (lo * n) (hi * n))))∧Below w.heap.size w w':=by
  have q:=Sp.vld_iff.1 h
  have X0:Sp.vldB lo lo=true:=by rw [Sp.vld_iff];omega
  have X1:Sp.vldB hi hi=true:=by rw [Sp.vld_iff];omega
  rcases Int.lt_or_le n 0 with k | k
  · rw [(scale_neg q.2.1 k).1,(scale_neg q.2.1 k).2,← told_same (prodR_sign X1) (prodR_sign X0)]
    exact rscale_neg lo hi n w h h1 h2 k
  · rw [(scale_pos q.2.1 k).1,(scale_pos q.2.1 k).2,← told_same (prodR_sign X0) (prodR_sign X1)]
    exact rscale_pos lo hi n w h h1 h2 k
theorem rscale_no1 (lo hi n:Int) (w:World) (h:Sp.vldB lo hi=false) :
    Calls Tryz.prog 27 #[spv lo hi,.int .i64 n] w fun e w'=>e=.returned (spr ((0,0),1))∧Below w.heap.size w w':=by
  go_enter Tryz.func27,Tryz.ntmps27
  go_wp2_with fail
  refine (rvalid_no _ _ _ h).mono ?_
  rintro e w1 ⟨rfl,rfl⟩
  go_wp2
  refine bodyPost_ret (v:=spr ((0,0),1)) (by rw [results_cell_tmp rfl];go_simp) rfl ⟨rfl,?_⟩
  (repeat' (first | exact Below.refl _ _ | refine Below.setCell ?_ (by simp <;> omega) _ | refine balloc ?_ _ | refine Below.drew ?_ | refine bdrewN ?_ _))
theorem rscale_no2 (lo hi n:Int) (w:World) (h:Sp.vldB lo hi=true) (k:¬ (-1099511627776≤n∧n≤1099511627776)) :
    Calls Tryz.prog 27 #[spv lo hi,.int .i64 n] w fun e w'=>e=.returned (spr ((0,0),1))∧Below w.heap.size w w':=by
  rcases Int.lt_or_le n (-1099511627776) with h1 | h1
  · clear k
    go_enter Tryz.func27,Tryz.ntmps27
    go_wp2_with fail
    refine (rvalid_yes _ _ _ h).mono ?_
    rintro e w1 ⟨rfl,rfl⟩
    go_wp2
    refine bodyPost_ret (v:=spr ((0,0),1)) (by rw [results_cell_tmp rfl];go_simp) rfl ⟨rfl,?_⟩
    (repeat' (first | exact Below.refl _ _ | refine Below.setCell ?_ (by simp <;> omega) _ | refine balloc ?_ _ | refine Below.drew ?_ | refine bdrewN ?_ _))
  · have h2:decide (n≤1099511627776)=false:=decide_eq_false (by omega)
    clear k
    go_enter Tryz.func27,Tryz.ntmps27
    go_wp2_with fail
    refine (rvalid_yes _ _ _ h).mono ?_
    rintro e w1 ⟨rfl,rfl⟩
    go_wp2
    refine bodyPost_ret (v:=spr ((0,0),1)) (by rw [results_cell_tmp rfl];go_simp) rfl ⟨rfl,?_⟩
    (repeat' (first | exact Below.refl _ _ | refine Below.setCell ?_ (by simp <;> omega) _ | refine balloc ?_ _ | refine Below.drew ?_ | refine bdrewN ?_ _))
theorem rscale_any (lo hi n:Int) (w:World) :
    Calls Tryz.prog 27 #[spv lo hi,.int .i64 n] w fun e w'=>e=.returned (spr (scaleR lo hi n))∧Below w.heap.size w w':=by
  unfold scaleR
  split
  · rename_i q;exact rscale_yes _ _ _ _ q.1 q.2.1 q.2.2
  · rename_i q
    cases h:Sp.vldB lo hi
    · exact rscale_no1 _ _ _ _ h
    · exact rscale_no2 _ _ _ _ h (fun k=>q ⟨h,k⟩)
end Go.Proofs.YtciimaojoococaaGreat
