/-
  The contracts of Sum and Mean: lists of spans.
-/
import Derived.Test.YtlegalibjkeccaaTotal
namespace Go.Proofs.Ytlegalibjkeccaa
open Go.ChangeShapes Go.WideShapes Go.RowKit

/-- what total answers of a list, in every world that keeps what was there -/
def TotC (F : FuncId) (a : Option Addr) (n cap : Nat) (lo hi e : Int) (w : World) : Prop :=
  ∀ W : World, Below w.heap.size w W → Calls Try.prog F #[.slice a n cap] W fun e' w' => e' = .returned (.tuple #[.int .i64 lo, .int .i64 hi, .int .i64 e]) ∧ Below W.heap.size W w'
def sumR (lo hi e : Int) : Sp.R := if e = 0 then Sp.told lo hi else ((0, 0), e)
def meanR (lo hi e : Int) (n : Nat) : Sp.R := if e = 0 then (if n = 0 then ((0, 0), 1) else Sp.told (Sp.fl lo n) (Sp.ce hi n)) else ((0, 0), e)
theorem mean_e (a : Option Addr) (n cap : Nat) (lo hi er : Int) (w W : World) (T : Hid (TotC 74 a n cap lo hi er w)) (B : Below w.heap.size w W) (z : er ≠ 0) :
    Calls Try.prog 62 #[.slice a n cap] W fun e w' => e = .returned (spr ((0, 0), er)) ∧ Below W.heap.size W w' := by
  have z1 : (er != 0) = true := bne_iff_ne.2 z
  clear z
  go_enter Try.func62, Try.ntmps62
  go_wp2_with fail
  refine (T.out _ (balloc B _)).mono ?_
  rintro e' w1 ⟨rfl, hb⟩
  obtain ⟨g1, g2, g3, g4, g5⟩ := pair_below (pair_new W 0 0 _) hb
  go_wp2
  refine bodyPost_ret (v := spr ((0, 0), er)) (by rw [results_cell_tmp rfl]; go_simp) rfl ⟨rfl, ?_⟩
  (repeat' (first | exact Below.refl _ _ | refine bstep ?_ hb | refine Below.setCell ?_ (by simp <;> omega) _ | refine balloc ?_ _ | refine Below.drew ?_ | refine bdrewN ?_ _))
theorem mean_zero (a : Option Addr) (cap : Nat) (lo hi : Int) (w W : World) (T : Hid (TotC 74 a 0 cap lo hi 0 w)) (B : Below w.heap.size w W) :
    Calls Try.prog 62 #[.slice a 0 cap] W fun e w' => e = .returned (spr ((0, 0), 1)) ∧ Below W.heap.size W w' := by
  go_enter Try.func62, Try.ntmps62
  go_wp2_with fail
  refine (T.out _ (balloc B _)).mono ?_
  rintro e' w1 ⟨rfl, hb⟩
  obtain ⟨g1, g2, g3, g4, g5⟩ := pair_below (pair_new W 0 0 _) hb
  go_wp2
  refine bodyPost_ret (v := spr ((0, 0), 1)) (by rw [results_cell_tmp rfl]; go_simp) rfl ⟨rfl, ?_⟩
  (repeat' (first | exact Below.refl _ _ | refine bstep ?_ hb | refine Below.setCell ?_ (by simp <;> omega) _ | refine balloc ?_ _ | refine Below.drew ?_ | refine bdrewN ?_ _))
theorem mean_ok (a : Option Addr) (n cap : Nat) (lo hi : Int) (w W : World) (T : Hid (TotC 74 a n cap lo hi 0 w)) (B : Below w.heap.size w W) (hn : 0 < n) (hm : n ≤ 20000) (h1 : Hid (Sm lo n)) (h2 : Hid (Sm hi n)) :
    Calls Try.prog 62 #[.slice a n cap] W fun e w' => e = .returned (spr (Sp.told (Sp.fl lo n) (Sp.ce hi n))) ∧ Below W.heap.size W w' := by
  have N : Hid ((n : Int) ≠ 0) := (by omega : (n : Int) ≠ 0)
  have nB : ((n : Int) == 0) = false := beq_eq_false_iff_ne.2 (by omega)
  have hm' : (n : Int) ≤ 20000 := by omega
  clear hn hm
  go_enter Try.func62, Try.ntmps62
  go_wp2_with fail
  refine (T.out _ (balloc B _)).mono ?_
  rintro e' w1 ⟨rfl, hb⟩
  have z0 := pair_below (pair_new W 0 0 _) hb
  go_wp2_with fail
  refine (down_any _ _ _ h1.out N.out).mono ?_
  rintro e' w2 ⟨rfl, rfl⟩
  go_wp2_with fail
  refine (up_any _ _ _ h2.out N.out).mono ?_
  rintro e' w2 ⟨rfl, rfl⟩
  go_wp2_with fail
  refine (least_any _ _ _).mono ?_
  rintro e' w2 ⟨rfl, hb2⟩
  obtain ⟨g1, g2, g3, g4, g5⟩ := pair_below z0 hb2
  go_wp2
  refine bodyPost_ret (v := spr (Sp.told (Sp.fl lo n) (Sp.ce hi n))) (by rw [results_cell_tmp rfl]; go_simp) rfl ⟨rfl, ?_⟩
  (repeat' (first | exact Below.refl _ _ | refine bstep ?_ hb | refine bstep ?_ hb2 | refine Below.setCell ?_ (by simp <;> omega) _ | refine balloc ?_ _ | refine Below.drew ?_ | refine bdrewN ?_ _))
theorem mean_any (a : Option Addr) (n cap : Nat) (lo hi er : Int) (w W : World) (T : Hid (TotC 74 a n cap lo hi er w)) (B : Below w.heap.size w W) (hm : n ≤ 20000) (h1 : Hid (Sm lo n)) (h2 : Hid (Sm hi n)) :
    Calls Try.prog 62 #[.slice a n cap] W fun e w' => e = .returned (spr (meanR lo hi er n)) ∧ Below W.heap.size W w' := by
  unfold meanR
  split
  · rename_i z
    subst z
    split
    · rename_i z; subst z; exact mean_zero a cap lo hi w W T B
    · exact mean_ok a n cap lo hi w W T B (by omega) hm h1 h2
  · rename_i z; exact mean_e a n cap lo hi er w W T B z
end Go.Proofs.Ytlegalibjkeccaa
