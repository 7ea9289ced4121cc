/-
  The contracts of Move and Scale.
-/
import Derived.Test.YtcphdlcglaopjaaPlaced
namespace Go.Proofs.Ytcphdlcglaopjaa
open Go.ChangeShapes Go.WideShapes Go.RowKit
open Sh
/-- a mesh in new memory, and a code -/
def MovedW (N NF : Nat) (P F : Nat → P3) (code : Int) (w : World) (e : Ending) (w' : World) : Prop :=
  ∃ a c a' c', e = .returned (.tuple #[msv a N c a' NF c', .int .i64 code]) ∧ LstW w' w.heap.size a N P ∧ LstW w' w.heap.size a' NF F ∧ Below w.heap.size w w'
theorem movedW_none {P F : Nat → P3} {code : Int} {w w' : World} {e : Ending} (h : e = .returned (.tuple #[msv none 0 0 none 0 0, .int .i64 code]) ∧ Below w.heap.size w w') : MovedW 0 0 P F code w e w' :=
  ⟨none, 0, none, 0, h.1, lstw_zero _ _ _ _, lstw_zero _ _ _ _, h.2⟩
theorem move_no (a : Option Addr) (np c : Nat) (a' : Option Addr) (nf c' : Nat) (v : P3) (code : Int) (w : World) (V : Hid (∀ W, Below w.heap.size w W → Calls Try.prog 20 #[msv a np c a' nf c'] W fun e w' => e = .returned (.int .i64 code) ∧ Below W.heap.size W w')) (z : code ≠ 0) :
    Calls Try.prog 40 #[msv a np c a' nf c', ptv v] w fun e w' => e = .returned (.tuple #[msv none 0 0 none 0 0, .int .i64 code]) ∧ Below w.heap.size w w' := by
  have z1 := int_ne0 z
  clear z
  go_enter Try.func40, Try.ntmps40
  go_wp2_with fail
  refine (V.out _ (by (repeat' (first | exact Below.refl _ _ | refine Below.setCell ?_ (by simp <;> omega) _ | refine balloc ?_ _ | refine Below.drew ?_ | refine bdrewN ?_ _)))).mono ?_
  rintro e w1 ⟨rfl, hb1⟩
  have RM := Lib.hid (by have z := ownMs_below (ownMs_new ((w.alloc (msc a np c a' nf c' 25)).alloc (.cells #[.int .i64 v.1, .int .i64 v.2.1, .int .i64 v.2.2] 33)) (.slice none 0 0) (.slice none 0 0) 25) hb1; simp only [World.size_alloc] at z; exact z : OwnMs w1 (w.heap.size + 1 + 1) (.slice none 0 0) (.slice none 0 0))
  have ME := Lib.hid (mes_below (mes_alloc (mes_alloc (mes_new w a np c a' nf c' 25) (.cells #[.int .i64 v.1, .int .i64 v.2.1, .int .i64 v.2.2] 33)) (.cells #[.slice none 0 0, .slice none 0 0] 25)) hb1)
  have B1 := Lib.hid (bstep (balloc (balloc (balloc (Below.refl w.heap.size w) (msc a np c a' nf c' 25)) (.cells #[.int .i64 v.1, .int .i64 v.2.1, .int .i64 v.2.2] 33)) (.cells #[.slice none 0 0, .slice none 0 0] 25)) hb1)
  clear hb1
  obtain ⟨m1, m2, m3, m4, m5⟩ := RM.out
  go_wp2
  refine bodyPost_ret (v := .tuple #[msv none 0 0 none 0 0, .int .i64 code]) (by rw [results_cell_tmp rfl]; go_simp) rfl ⟨rfl, ?_⟩
  exact below_put2 B1.out (by omega)
theorem move_far (a : Option Addr) (np c : Nat) (a' : Option Addr) (nf c' : Nat) (v : P3) (w : World) (V : Hid (∀ W, Below w.heap.size w W → Calls Try.prog 20 #[msv a np c a' nf c'] W fun e w' => e = .returned (.int .i64 0) ∧ Below W.heap.size W w')) (I : Hid (∀ W, Calls Try.prog 88 #[ptv v, .int .i64 128] W fun e w' => e = .returned (.bool false) ∧ Below W.heap.size W w')) :
    Calls Try.prog 40 #[msv a np c a' nf c', ptv v] w fun e w' => e = .returned (.tuple #[msv none 0 0 none 0 0, .int .i64 1]) ∧ Below w.heap.size w w' := by
  go_enter Try.func40, Try.ntmps40
  go_wp2_with fail
  refine (V.out _ (by (repeat' (first | exact Below.refl _ _ | refine Below.setCell ?_ (by simp <;> omega) _ | refine balloc ?_ _ | refine Below.drew ?_ | refine bdrewN ?_ _)))).mono ?_
  rintro e w1 ⟨rfl, hb1⟩
  have HB1 := Lib.hid hb1
  have RM := Lib.hid (by have z := ownMs_below (ownMs_new ((w.alloc (msc a np c a' nf c' 25)).alloc (.cells #[.int .i64 v.1, .int .i64 v.2.1, .int .i64 v.2.2] 33)) (.slice none 0 0) (.slice none 0 0) 25) hb1; simp only [World.size_alloc] at z; exact z : OwnMs w1 (w.heap.size + 1 + 1) (.slice none 0 0) (.slice none 0 0))
  have ME := Lib.hid (mes_below (mes_alloc (mes_alloc (mes_new w a np c a' nf c' 25) (.cells #[.int .i64 v.1, .int .i64 v.2.1, .int .i64 v.2.2] 33)) (.cells #[.slice none 0 0, .slice none 0 0] 25)) hb1)
  have B1 := Lib.hid (bstep (balloc (balloc (balloc (Below.refl w.heap.size w) (msc a np c a' nf c' 25)) (.cells #[.int .i64 v.1, .int .i64 v.2.1, .int .i64 v.2.2] 33)) (.cells #[.slice none 0 0, .slice none 0 0] 25)) hb1)
  clear hb1
  have OV := Lib.hid (by have z := own_below (own_alloc (own_new (w.alloc (msc a np c a' nf c' 25)) v 33) (.cells #[.slice none 0 0, .slice none 0 0] 25)) HB1.out; simp only [World.size_alloc] at z; exact z : Own w1 (w.heap.size + 1) v)
  obtain ⟨o1, o2, o3, o4, o5, o6, o7⟩ := OV.out
  go_wp2_with fail
  refine (I.out _).mono ?_
  rintro e w2 ⟨rfl, hb2⟩
  have RM2 := Lib.hid (ownMs_below RM.out hb2)
  have ME2 := Lib.hid (mes_below ME.out hb2)
  have OV2 := Lib.hid (own_below OV.out hb2)
  have B2 := Lib.hid (bstep B1.out hb2)
  clear hb2 o1 o2 o3 o4 o5 o6 o7
  obtain ⟨m1, m2, m3, m4, m5⟩ := RM2.out
  go_wp2
  refine bodyPost_ret (v := .tuple #[msv none 0 0 none 0 0, .int .i64 1]) (by rw [results_cell_tmp rfl]; go_simp) rfl ⟨rfl, ?_⟩
  exact below_put2 B2.out (by omega)
theorem scale_no (a : Option Addr) (np c : Nat) (a' : Option Addr) (nf c' : Nat) (k : Int) (code : Int) (w : World) (V : Hid (∀ W, Below w.heap.size w W → Calls Try.prog 20 #[msv a np c a' nf c'] W fun e w' => e = .returned (.int .i64 code) ∧ Below W.heap.size W w')) (z : code ≠ 0) :
    Calls Try.prog 42 #[msv a np c a' nf c', .int .i64 k] w fun e w' => e = .returned (.tuple #[msv none 0 0 none 0 0, .int .i64 code]) ∧ Below w.heap.size w w' := by
  have z1 := int_ne0 z
  clear z
  go_enter Try.func42, Try.ntmps42
  go_wp2_with fail
  refine (V.out _ (by (repeat' (first | exact Below.refl _ _ | refine Below.setCell ?_ (by simp <;> omega) _ | refine balloc ?_ _ | refine Below.drew ?_ | refine bdrewN ?_ _)))).mono ?_
  rintro e w1 ⟨rfl, hb1⟩
  have RM := Lib.hid (by have z := ownMs_below (ownMs_new ((w.alloc (msc a np c a' nf c' 25)).alloc (.cells #[.int .i64 k] 3)) (.slice none 0 0) (.slice none 0 0) 25) hb1; simp only [World.size_alloc] at z; exact z : OwnMs w1 (w.heap.size + 1 + 1) (.slice none 0 0) (.slice none 0 0))
  have ME := Lib.hid (mes_below (mes_alloc (mes_alloc (mes_new w a np c a' nf c' 25) (.cells #[.int .i64 k] 3)) (.cells #[.slice none 0 0, .slice none 0 0] 25)) hb1)
  have B1 := Lib.hid (bstep (balloc (balloc (balloc (Below.refl w.heap.size w) (msc a np c a' nf c' 25)) (.cells #[.int .i64 k] 3)) (.cells #[.slice none 0 0, .slice none 0 0] 25)) hb1)
  clear hb1
  obtain ⟨m1, m2, m3, m4, m5⟩ := RM.out
  go_wp2
  refine bodyPost_ret (v := .tuple #[msv none 0 0 none 0 0, .int .i64 code]) (by rw [results_cell_tmp rfl]; go_simp) rfl ⟨rfl, ?_⟩
  exact below_put2 B1.out (by omega)
theorem scale_far0 (a : Option Addr) (np c : Nat) (a' : Option Addr) (nf c' : Nat) (k : Int) (w : World) (V : Hid (∀ W, Below w.heap.size w W → Calls Try.prog 20 #[msv a np c a' nf c'] W fun e w' => e = .returned (.int .i64 0) ∧ Below W.heap.size W w')) (hk : k < 1) :
    Calls Try.prog 42 #[msv a np c a' nf c', .int .i64 k] w fun e w' => e = .returned (.tuple #[msv none 0 0 none 0 0, .int .i64 1]) ∧ Below w.heap.size w w' := by
  have k1 : k < 1 := hk
  clear hk
  go_enter Try.func42, Try.ntmps42
  go_wp2_with fail
  refine (V.out _ (by (repeat' (first | exact Below.refl _ _ | refine Below.setCell ?_ (by simp <;> omega) _ | refine balloc ?_ _ | refine Below.drew ?_ | refine bdrewN ?_ _)))).mono ?_
  rintro e w1 ⟨rfl, hb1⟩
  have RM := Lib.hid (by have z := ownMs_below (ownMs_new ((w.alloc (msc a np c a' nf c' 25)).alloc (.cells #[.int .i64 k] 3)) (.slice none 0 0) (.slice none 0 0) 25) hb1; simp only [World.size_alloc] at z; exact z : OwnMs w1 (w.heap.size + 1 + 1) (.slice none 0 0) (.slice none 0 0))
  have ME := Lib.hid (mes_below (mes_alloc (mes_alloc (mes_new w a np c a' nf c' 25) (.cells #[.int .i64 k] 3)) (.cells #[.slice none 0 0, .slice none 0 0] 25)) hb1)
  have B1 := Lib.hid (bstep (balloc (balloc (balloc (Below.refl w.heap.size w) (msc a np c a' nf c' 25)) (.cells #[.int .i64 k] 3)) (.cells #[.slice none 0 0, .slice none 0 0] 25)) hb1)
  have CV := by have z := cel_below (show Cel (((w.alloc (msc a np c a' nf c' 25)).alloc (.cells #[.int .i64 k] 3)).alloc (.cells #[.slice none 0 0, .slice none 0 0] 25)) (w.heap.size + 1) k from ⟨by go_simp, by simp⟩) hb1; exact z
  obtain ⟨o1, o2⟩ := CV
  clear hb1
  obtain ⟨m1, m2, m3, m4, m5⟩ := RM.out
  go_wp2
  refine bodyPost_ret (v := .tuple #[msv none 0 0 none 0 0, .int .i64 1]) (by rw [results_cell_tmp rfl]; go_simp) rfl ⟨rfl, ?_⟩
  exact below_put2 B1.out (by omega)
theorem scale_far1 (a : Option Addr) (np c : Nat) (a' : Option Addr) (nf c' : Nat) (k : Int) (w : World) (V : Hid (∀ W, Below w.heap.size w W → Calls Try.prog 20 #[msv a np c a' nf c'] W fun e w' => e = .returned (.int .i64 0) ∧ Below W.heap.size W w')) (hk : 128 < k) :
    Calls Try.prog 42 #[msv a np c a' nf c', .int .i64 k] w fun e w' => e = .returned (.tuple #[msv none 0 0 none 0 0, .int .i64 1]) ∧ Below w.heap.size w w' := by
  have k0 : decide (k < 1) = false := decide_eq_false (by omega)
  have k1 : 128 < k := hk
  clear hk
  go_enter Try.func42, Try.ntmps42
  go_wp2_with fail
  refine (V.out _ (by (repeat' (first | exact Below.refl _ _ | refine Below.setCell ?_ (by simp <;> omega) _ | refine balloc ?_ _ | refine Below.drew ?_ | refine bdrewN ?_ _)))).mono ?_
  rintro e w1 ⟨rfl, hb1⟩
  have RM := Lib.hid (by have z := ownMs_below (ownMs_new ((w.alloc (msc a np c a' nf c' 25)).alloc (.cells #[.int .i64 k] 3)) (.slice none 0 0) (.slice none 0 0) 25) hb1; simp only [World.size_alloc] at z; exact z : OwnMs w1 (w.heap.size + 1 + 1) (.slice none 0 0) (.slice none 0 0))
  have ME := Lib.hid (mes_below (mes_alloc (mes_alloc (mes_new w a np c a' nf c' 25) (.cells #[.int .i64 k] 3)) (.cells #[.slice none 0 0, .slice none 0 0] 25)) hb1)
  have B1 := Lib.hid (bstep (balloc (balloc (balloc (Below.refl w.heap.size w) (msc a np c a' nf c' 25)) (.cells #[.int .i64 k] 3)) (.cells #[.slice none 0 0, .slice none 0 0] 25)) hb1)
  have CV := by have z := cel_below (show Cel (((w.alloc (msc a np c a' nf c' 25)).alloc (.cells #[.int .i64 k] 3)).alloc (.cells #[.slice none 0 0, .slice none 0 0] 25)) (w.heap.size + 1) k from ⟨by go_simp, by simp⟩) hb1; exact z
  obtain ⟨o1, o2⟩ := CV
  clear hb1
  obtain ⟨m1, m2, m3, m4, m5⟩ := RM.out
  go_wp2
  refine bodyPost_ret (v := .tuple #[msv none 0 0 none 0 0, .int .i64 1]) (by rw [results_cell_tmp rfl]; go_simp) rfl ⟨rfl, ?_⟩
  exact below_put2 B1.out (by omega)
theorem turn_no (a : Option Addr) (np c : Nat) (a' : Option Addr) (nf c' : Nat) (code : Int) (w : World) (V : Hid (∀ W, Below w.heap.size w W → Calls Try.prog 20 #[msv a np c a' nf c'] W fun e w' => e = .returned (.int .i64 code) ∧ Below W.heap.size W w')) (z : code ≠ 0) :
    Calls Try.prog 45 #[msv a np c a' nf c'] w fun e w' => e = .returned (.tuple #[msv none 0 0 none 0 0, .int .i64 code]) ∧ Below w.heap.size w w' := by
  have z1 := int_ne0 z
  clear z
  go_enter Try.func45, Try.ntmps45
  go_wp2_with fail
  refine (V.out _ (by (repeat' (first | exact Below.refl _ _ | refine Below.setCell ?_ (by simp <;> omega) _ | refine balloc ?_ _ | refine Below.drew ?_ | refine bdrewN ?_ _)))).mono ?_
  rintro e w1 ⟨rfl, hb1⟩
  have RM := Lib.hid (by have z := ownMs_below (ownMs_new (w.alloc (msc a np c a' nf c' 25)) (.slice none 0 0) (.slice none 0 0) 25) hb1; simp only [World.size_alloc] at z; exact z : OwnMs w1 (w.heap.size + 1) (.slice none 0 0) (.slice none 0 0))
  have ME := Lib.hid (mes_below (mes_alloc (mes_new w a np c a' nf c' 25) (.cells #[.slice none 0 0, .slice none 0 0] 25)) hb1)
  have B1 := Lib.hid (bstep (balloc (balloc (Below.refl w.heap.size w) (msc a np c a' nf c' 25)) (.cells #[.slice none 0 0, .slice none 0 0] 25)) hb1)
  clear hb1
  obtain ⟨m1, m2, m3, m4, m5⟩ := RM.out
  go_wp2
  refine bodyPost_ret (v := .tuple #[msv none 0 0 none 0 0, .int .i64 code]) (by rw [results_cell_tmp rfl]; go_simp) rfl ⟨rfl, ?_⟩
  exact below_put2 B1.out (by omega)

end Go.Proofs.Ytcphdlcglaopjaa
