/-
  The contract of facettop.meets, and words for the walk of TopSpans.
-/
import Derived.Test.YthpjjpfflpjpdabTopNum4
import Derived.Test.YthpjjpfflpjpdabWideL
import Derived.Test.YthpjjpfflpjpdabArith
namespace Go.Proofs.Ythpjjpfflpjpdab
open Go.ChangeShapes Go.WideShapes Go.RowKit
theorem meets_e1 (al ah e bl bh k : Int) (w : World) (h : e ≠ 0) :
    Calls Try.prog 21 #[spv al ah, .int .i64 e, spv bl bh, .int .i64 k] w fun e w' => e = .returned (.bool true) ∧ Below w.heap.size w w' := by
  have h1 : (e != 0) = true := bne_iff_ne.2 h
  clear h
  go_enter Try.func21, Try.ntmps21
  go_wp2
  go_ret
  exact ⟨rfl, by (repeat' (first | exact Below.refl _ _ | refine Below.setCell ?_ (by simp <;> omega) _ | refine balloc ?_ _ | refine Below.drew ?_ | refine bdrewN ?_ _))⟩
theorem meets_e2 (al ah bl bh k : Int) (w : World) (h : k ≠ 0) :
    Calls Try.prog 21 #[spv al ah, .int .i64 0, spv bl bh, .int .i64 k] w fun e w' => e = .returned (.bool true) ∧ Below w.heap.size w w' := by
  have h1 : (k != 0) = true := bne_iff_ne.2 h
  clear h
  go_enter Try.func21, Try.ntmps21
  go_wp2
  go_ret
  exact ⟨rfl, by (repeat' (first | exact Below.refl _ _ | refine Below.setCell ?_ (by simp <;> omega) _ | refine balloc ?_ _ | refine Below.drew ?_ | refine bdrewN ?_ _))⟩
theorem meets_ok (al ah bl bh : Int) (w : World) (h : Sp.vldB al ah = true) (k : Sp.vldB bl bh = true) (c1 : bl ≤ ah) (c2 : al ≤ bh) :
    Calls Try.prog 21 #[spv al ah, .int .i64 0, spv bl bh, .int .i64 0] w fun e w' => e = .returned (.bool true) ∧ Below w.heap.size w w' := by
  go_enter Try.func21, Try.ntmps21
  go_wp2_with fail
  refine (meet_yes _ _ _ _ _ h k c1 c2).mono ?_
  rintro x w1 ⟨rfl, hb⟩
  go_wp2
  go_ret
  exact ⟨rfl, by (repeat' (first | exact Below.refl _ _ | refine bstep ?_ hb | refine Below.setCell ?_ (by simp <;> omega) _ | refine balloc ?_ _ | refine Below.drew ?_ | refine bdrewN ?_ _))⟩
theorem meets_imp (al ah e bl bh k : Int) (w : World) (h : e = 0 → k = 0 → Sp.vldB al ah = true ∧ Sp.vldB bl bh = true ∧ bl ≤ ah ∧ al ≤ bh) :
    Calls Try.prog 21 #[spv al ah, .int .i64 e, spv bl bh, .int .i64 k] w fun e w' => e = .returned (.bool true) ∧ Below w.heap.size w w' := by
  by_cases c : e = 0
  · by_cases d : k = 0
    · obtain ⟨h1, h2, h3, h4⟩ := h c d
      subst c d
      exact meets_ok _ _ _ _ _ h1 h2 h3 h4
    · subst c; exact meets_e2 _ _ _ _ _ _ d
  · exact meets_e1 _ _ _ _ _ _ _ c
/-- what a walk keeps: four spans -/
def S4 (w wc : World) (M : Nat) (al ah bl bh cl ch ml mh : Int) : Prop :=
  Pair wc w.heap.size al ah ∧ Pair wc (w.heap.size + 1) bl bh ∧ Pair wc (w.heap.size + 1 + 1) cl ch ∧ Pair wc M ml mh ∧ Below w.heap.size w wc
theorem s4_below {w wc w1 : World} {M : Nat} {al ah bl bh cl ch ml mh : Int} (h : S4 w wc M al ah bl bh cl ch ml mh) (hb : Below wc.heap.size wc w1) : S4 w w1 M al ah bl bh cl ch ml mh :=
  ⟨pair_below h.1 hb, pair_below h.2.1 hb, pair_below h.2.2.1 hb, pair_below h.2.2.2.1 hb, bstep h.2.2.2.2 hb⟩
/-- a list of three, and of four -/
def L3 (x y z : Int) (k : Nat) : Int := if k = 0 then x else if k = 1 then y else z
def L4 (x y z u : Int) (k : Nat) : Int := if k = 0 then x else if k = 1 then y else if k = 2 then z else u
theorem row_new3 (w : World) (b : Nat) (hb : b = w.heap.size) (x y z u p q : Int) (t : TypeId) : Row (w.alloc (.cells #[.int .i64 x, .int .i64 y, .int .i64 z, .int .i64 u, .int .i64 p, .int .i64 q] t)) b 0 3 (L3 x z p) (L3 y u q) := by
  subst hb
  exact ⟨by simp, fun k hk => by
    match k, hk with
    | 0, _ => exact ⟨by go_simp; rfl, by go_simp; rfl⟩
    | 1, _ => exact ⟨by go_simp; rfl, by go_simp; rfl⟩
    | 2, _ => exact ⟨by go_simp; rfl, by go_simp; rfl⟩⟩
theorem row_new4 (w : World) (b : Nat) (hb : b = w.heap.size) (x y z u p q r s : Int) (t : TypeId) : Row (w.alloc (.cells #[.int .i64 x, .int .i64 y, .int .i64 z, .int .i64 u, .int .i64 p, .int .i64 q, .int .i64 r, .int .i64 s] t)) b 0 4 (L4 x z p r) (L4 y u q s) := by
  subst hb
  exact ⟨by simp, fun k hk => by
    match k, hk with
    | 0, _ => exact ⟨by go_simp; rfl, by go_simp; rfl⟩
    | 1, _ => exact ⟨by go_simp; rfl, by go_simp; rfl⟩
    | 2, _ => exact ⟨by go_simp; rfl, by go_simp; rfl⟩
    | 3, _ => exact ⟨by go_simp; rfl, by go_simp; rfl⟩⟩

end Go.Proofs.Ythpjjpfflpjpdab
