/-
  The contracts of Move, Scale and Turn where they make a mesh.
-/
import Derived.Test.YtfpenkgkcjpknaaMoves0
namespace Go.Proofs.Ytfpenkgkcjpknaa
open Go.ChangeShapes Go.WideShapes Go.RowKit
open Sh
set_option maxRecDepth 100000 in
set_option maxHeartbeats 1000000 in
theorem turn_row (b off np c : Nat) (a' : Option Addr) (nf c' : Nat) (h F : Nat → P3) (N NF : Nat) (code : Int) (w : World) (V : Hid (∀ W, Below w.heap.size w W → Calls Try.prog 24 #[msv (some ⟨b, off, none⟩) np c a' nf c'] W fun e w' => e = .returned (.int .i64 0) ∧ Below W.heap.size W w')) (PL : Hid (∀ W, Below w.heap.size w W → Calls Try.prog 26 #[msv (some ⟨b, off, none⟩) np c a' nf c', .func (.func 27) #[] #[]] W (Placed np nf h F W))) (hn : np ≤ 1000000) (hm : nf ≤ 1000000) (E : Hid (N = (if vcode ⟨np, nf, h, F⟩ = 0 then np else 0) ∧ NF = (if vcode ⟨np, nf, h, F⟩ = 0 then nf else 0) ∧ code = vcode ⟨np, nf, h, F⟩)) :
    Calls Try.prog 8 #[msv (some ⟨b, off, none⟩) np c a' nf c'] w (MovedW N NF h F code w) := by
  have HN := Lib.hid hn
  have HM := Lib.hid hm
  clear hn hm
  go_enter Try.func8, Try.ntmps8
  go_wp2_with fail
  refine (V.out _ (by (repeat' (first | exact Below.refl _ _ | refine Below.setCell ?_ (by simp <;> omega) _ | refine balloc ?_ _ | refine Below.drew ?_ | refine bdrewN ?_ _)))).mono ?_
  rintro e w1 ⟨rfl, hb1⟩
  have RM := Lib.hid (by have z := ownMs_below (ownMs_new (w.alloc (msc (some ⟨b, off, none⟩) np c a' nf c' 25)) (.slice none 0 0) (.slice none 0 0) 25) hb1; simp only [World.size_alloc] at z; exact z : OwnMs w1 (w.heap.size + 1) (.slice none 0 0) (.slice none 0 0))
  have ME := Lib.hid (mes_below (mes_alloc (mes_new w (some ⟨b, off, none⟩) np c a' nf c' 25) (.cells #[.slice none 0 0, .slice none 0 0] 25)) hb1)
  have B1 := Lib.hid (bstep (balloc (balloc (Below.refl w.heap.size w) (msc (some ⟨b, off, none⟩) np c a' nf c' 25)) (.cells #[.slice none 0 0, .slice none 0 0] 25)) hb1)
  clear hb1
  have RM2 := RM
  have ME2 := ME
  have B2 := B1
  clear RM ME B1
  obtain ⟨m1, m2, m3⟩ := ME2.out
  go_wp2_with fail
  refine (PL.out _ B2.out).mono ?_
  rintro e w3 ⟨ga, gc, fa, fc, rfl, lg, lf, hb3⟩
  have LG := Lib.hid lg
  have LF := Lib.hid lf
  have RM3 := Lib.hid (ownMs_below RM2.out hb3)
  have B3 := Lib.hid (bstep B2.out hb3)
  have RL := Lib.hid (show w.heap.size + 1 < w1.heap.size from RM2.out.2.2.2.2)
  clear lg lf hb3 m1 m2 m3
  obtain ⟨m1, m2, m3, m4, m5⟩ := RM3.out
  by_cases hz : vcode ⟨np, nf, h, F⟩ = 0
  · have Z := Lib.hid hz
    clear hz m1 m2 m3 m4 m5
    go_wp2_with fail
    refine (checked_yes ga np gc fa nf fc h F _ (lstw_lst LG.out) (lstw_lst LF.out) HN.out HM.out Z.out).mono ?_
    rintro e w4 ⟨rfl, hb4⟩
    have RM4 := Lib.hid (ownMs_below RM3.out hb4)
    have LG4 := Lib.hid (lstw_below LG.out hb4)
    have LF4 := Lib.hid (lstw_below LF.out hb4)
    have B4 := Lib.hid (bstep B3.out hb4)
    clear hb4
    obtain ⟨m1, m2, m3, m4, m5⟩ := RM4.out
    go_wp2
    refine bodyPost_ret (v := .tuple #[msv ga np gc fa nf fc, .int .i64 0]) (by rw [results_cell_tmp rfl]; go_simp) rfl ?_
    obtain ⟨e1, e2, e3⟩ := E.out
    rw [if_pos Z.out] at e1 e2
    rw [Z.out] at e3
    subst e1 e2 e3
    exact ⟨ga, gc, fa, fc, rfl, lstw_mono (lstw_put2 LG4.out RL.out) (by have := RL.out; omega), lstw_mono (lstw_put2 LF4.out RL.out) (by have := RL.out; omega), below_put2 B4.out (by omega)⟩
  · have Z := Lib.hid hz
    clear hz m1 m2 m3 m4 m5
    go_wp2_with fail
    refine (checked_not ga np gc fa nf fc h F _ (lstw_lst LG.out) (lstw_lst LF.out) HN.out HM.out Z.out).mono ?_
    rintro e w4 ⟨rfl, hb4⟩
    have RM4 := Lib.hid (ownMs_below RM3.out hb4)
    have B4 := Lib.hid (bstep B3.out hb4)
    clear hb4
    obtain ⟨m1, m2, m3, m4, m5⟩ := RM4.out
    go_wp2
    refine bodyPost_ret (v := .tuple #[msv none 0 0 none 0 0, .int .i64 (vcode ⟨np, nf, h, F⟩)]) (by rw [results_cell_tmp rfl]; go_simp) rfl ?_
    obtain ⟨e1, e2, e3⟩ := E.out
    rw [if_neg Z.out] at e1 e2
    subst e1 e2 e3
    exact movedW_none ⟨rfl, below_put2 B4.out (by omega)⟩

end Go.Proofs.Ytfpenkgkcjpknaa
