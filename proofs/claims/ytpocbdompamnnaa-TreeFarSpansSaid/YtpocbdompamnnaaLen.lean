import Derived.Test.YtpocbdompamnnaaInvM
namespace Go.Proofs.Ytpocbdompamnnaa
open Go.ChangeShapes Go.WideShapes Go.RowKit
theorem csq_iff_l (n:Nat):(Rt.isq n * Rt.isq n < n→Rt.csq n=Rt.isq n + 1)∧(n≤Rt.isq n * Rt.isq n→Rt.csq n=Rt.isq n):=by
  have a:=(Rt.isq_spec n).1
  unfold Rt.csq
  exact ⟨fun h=>if_neg (by omega),fun h=>if_pos (by omega)⟩
def hi64 (x:Nat):Nat:=x / 18446744073709551616
def lo64 (x:Nat):Nat:=x % 18446744073709551616
theorem lex_le {a b:Nat} (h:a≤b):hi64 a < hi64 b∨hi64 a=hi64 b∧lo64 a≤lo64 b:=by unfold hi64 lo64;omega
theorem lex_gt {a b:Nat} (h:b < a):hi64 b < hi64 a∨hi64 a=hi64 b∧lo64 b < lo64 a:=by unfold hi64 lo64;omega
theorem lex_eq {a b:Nat}:(hi64 a=hi64 b∧lo64 a=lo64 b) ↔ a=b:=by
  constructor
  · unfold hi64 lo64;omega
  · intro h;subst h;exact ⟨rfl,rfl⟩
def lenR (n:Int):Sp.R:=if 0≤n∧n≤1099511627776 then Sp.told ((Rt.isq (n.toNat * 1099511627776):Nat):Int) ((Rt.csq (n.toNat * 1099511627776):Nat):Int) else ((0,0),1)
theorem val_u {a b:Int} (h:a=b):Value.int .u64 a=.int .u64 b:=by rw [h]
theorem len_yes (x:Nat) (w:World) (h:x≤1099511627776) :
    Calls Try.prog 62 #[.int .i64 x] w fun e w'=>e=.returned (spr (Sp.told ((Rt.isq (x * 1099511627776):Nat):Int) ((Rt.csq (x * 1099511627776):Nat):Int)))∧Below w.heap.size w w':=by
  have R0:Hid (∀ w:World,Calls Try.prog 91 #[.int .i64 x,.int .i64 20] w fun e w'=>e=.returned (.tuple #[.int .i64 (Rt.isq (x * 1099511627776):Nat),.int .i64 (Rt.csq (x * 1099511627776):Nat)])∧w=w'):=fun w=>root_any x 20 w (by omega) (by decide)
  have a1:(0:Int)≤(x:Int):=by omega
  have a2:(x:Int)≤1099511627776:=by omega
  clear h
  go_enter Try.func62,Try.ntmps62
  go_wp2_with fail
  refine (betw_yes _ _ _ _ a1 a2).mono ?_
  rintro e w1 ⟨rfl,rfl⟩
  go_wp2_with fail
  refine (R0.out _).mono ?_
  rintro e w1 ⟨rfl,rfl⟩
  go_wp2_with fail
  refine (least_any _ _ _).mono ?_
  rintro e w2 ⟨rfl,hb⟩
  obtain ⟨g1,g2,g3,g4,g5⟩:=pair_below (pair_new _ _ _ _) hb
  go_wp2
  refine bodyPost_ret (v:=spr (Sp.told _ _)) (by rw [results_cell_tmp rfl];go_simp) rfl ⟨rfl,?_⟩
  (repeat' (first | exact Below.refl _ _ | refine bstep ?_ hb | refine Below.setCell ?_ (by simp <;> omega) _ | refine balloc ?_ _ | refine Below.drew ?_ | refine bdrewN ?_ _))
theorem len_no (n:Int) (w:World) (h:¬ (0≤n∧n≤1099511627776)) :
    Calls Try.prog 62 #[.int .i64 n] w fun e w'=>e=.returned (spr ((0,0),1))∧Below w.heap.size w w':=by
  rcases Int.lt_or_le n 0 with a1 | a1
  · clear h
    go_enter Try.func62,Try.ntmps62
    go_wp2
    refine bodyPost_ret (v:=spr ((0,0),1)) (by rw [results_cell_tmp rfl];go_simp) rfl ⟨rfl,?_⟩
    (repeat' (first | exact Below.refl _ _ | refine Below.setCell ?_ (by simp <;> omega) _ | refine balloc ?_ _ | refine Below.drew ?_ | refine bdrewN ?_ _))
  · have a2:decide (n≤1099511627776)=false:=decide_eq_false (by omega)
    clear h
    go_enter Try.func62,Try.ntmps62
    go_wp2
    refine bodyPost_ret (v:=spr ((0,0),1)) (by rw [results_cell_tmp rfl];go_simp) rfl ⟨rfl,?_⟩
    (repeat' (first | exact Below.refl _ _ | refine Below.setCell ?_ (by simp <;> omega) _ | refine balloc ?_ _ | refine Below.drew ?_ | refine bdrewN ?_ _))
theorem len_any (n:Int) (w:World) :
    Calls Try.prog 62 #[.int .i64 n] w fun e w'=>e=.returned (spr (lenR n))∧Below w.heap.size w w':=by
  unfold lenR
  split
  · rename_i h
    obtain ⟨x,rfl⟩:=Int.eq_ofNat_of_zero_le h.1
    rw [Int.toNat_natCast]
    exact len_yes x w (by omega)
  · rename_i h;exact len_no _ _ h
end Go.Proofs.Ytpocbdompamnnaa
