/-
  The law ShapeMoves: its walk, for any answers of its callees that belong together.
-/
import Derived.Test.YtcphdlcglaopjaaCopy0
import Derived.Test.YtcphdlcglaopjaaMoves0
import Derived.Test.YtcphdlcglaopjaaValsW
namespace Go.Proofs.Ytcphdlcglaopjaa
open Go.ChangeShapes Go.WideShapes Go.RowKit
open Sh
/-- a list in blocks below B -/
def LstB (w : World) (B : Nat) (a : Option Addr) (n : Nat) (f : Nat → P3) : Prop := 0 < n → ∃ b off, a = some ⟨b, off, none⟩ ∧ b < B ∧ Row3 w b off n f
theorem lstB_of {w : World} {a : Option Addr} {n : Nat} {f : Nat → P3} (h : Lst w a n f) : LstB w w.heap.size a n f := fun h0 => by
  obtain ⟨b, off, e, r⟩ := h h0
  exact ⟨b, off, e, r.1, r⟩
theorem lstB_below {w w1 : World} {B : Nat} {a : Option Addr} {n : Nat} {f : Nat → P3} (h : LstB w B a n f) (hb : Below w.heap.size w w1) : LstB w1 B a n f := fun h0 => by
  obtain ⟨b, off, e, l, r⟩ := h h0
  exact ⟨b, off, e, l, row3_below r hb⟩
theorem lstB_alloc {w : World} {B : Nat} {a : Option Addr} {n : Nat} {f : Nat → P3} (h : LstB w B a n f) (o : Obj) : LstB (w.alloc o) B a n f := lstB_below h ((Below.refl _ _).alloc (Nat.le_refl _) _)
theorem lstB_set {w : World} {B q o : Nat} {v : Value} {a : Option Addr} {n : Nat} {f : Nat → P3} (h : LstB w B a n f) (k : B ≤ q) : LstB (w.setCell ⟨q, o, none⟩ v) B a n f := fun h0 => by
  obtain ⟨b, off, e, l, r⟩ := h h0
  exact ⟨b, off, e, l, row3_set r (by omega)⟩
theorem lstB_lst {w : World} {B : Nat} {a : Option Addr} {n : Nat} {f : Nat → P3} (h : LstB w B a n f) : Lst w a n f := fun h0 => by
  obtain ⟨b, off, e, l, r⟩ := h h0
  exact ⟨b, off, e, r⟩
/-- a list of the call's own, in a block from lo on and below hi; what it holds is not said -/
def LstR (w : World) (lo hi : Nat) (a : Option Addr) (n : Nat) : Prop := 0 < n → ∃ b f, a = some ⟨b, 0, none⟩ ∧ lo ≤ b ∧ b < hi ∧ Row3W w b n f
theorem lstR_of {w : World} {base : Nat} {a : Option Addr} {n : Nat} {f : Nat → P3} (h : LstW w base a n f) : LstR w base w.heap.size a n := fun h0 => by
  obtain ⟨b, e, l, r⟩ := h h0
  exact ⟨b, f, e, l, r.1, r⟩
theorem lstR_below {w w1 : World} {lo hi : Nat} {a : Option Addr} {n : Nat} (h : LstR w lo hi a n) (hb : Below w.heap.size w w1) : LstR w1 lo hi a n := fun h0 => by
  obtain ⟨b, f, e, l, k, r⟩ := h h0
  exact ⟨b, f, e, l, k, row3w_below r hb⟩
theorem lstR_alloc {w : World} {lo hi : Nat} {a : Option Addr} {n : Nat} (h : LstR w lo hi a n) (o : Obj) : LstR (w.alloc o) lo hi a n := lstR_below h ((Below.refl _ _).alloc (Nat.le_refl _) _)
theorem lstR_set {w : World} {lo hi q o : Nat} {v : Value} {a : Option Addr} {n : Nat} (h : LstR w lo hi a n) (k : q < lo ∨ hi ≤ q) : LstR (w.setCell ⟨q, o, none⟩ v) lo hi a n := fun h0 => by
  obtain ⟨b, f, e, l, m, r⟩ := h h0
  exact ⟨b, f, e, l, m, row3w_set r (by omega)⟩
/-- the first number of a row is laid anew -/
theorem row3w_first {w : World} {b n : Nat} {f : Nat → P3} (r : Row3W w b n f) {i : Nat} (hi : i < n) (x : Int) :
    Row3W (w.setCell ⟨b, i * 3, none⟩ (.int .i64 x)) b n (fun k => if k = i then (x, (f k).2.1, (f k).2.2) else f k) := by
  refine ⟨by simpa using r.1, fun k hk => ?_⟩
  obtain ⟨⟨a1, a2, a3⟩, a4, a5, a6⟩ := r.2 i hi
  obtain ⟨⟨h1, h2, h3⟩, h4, h5, h6⟩ := r.2 k hk
  by_cases e : k = i
  · subst e
    dsimp only
    rw [if_pos rfl]
    have e1 : ¬ k * 3 = k * 3 + 1 := by omega
    have e2 : ¬ k * 3 = k * 3 + 2 := by omega
    exact ⟨⟨by go_simp, by go_simp, by go_simp⟩, by go_simp, by go_simp, by go_simp⟩
  · dsimp only
    rw [if_neg e]
    have e0 : ¬ i * 3 = k * 3 := by omega
    have e1 : ¬ i * 3 = k * 3 + 1 := by omega
    have e2 : ¬ i * 3 = k * 3 + 2 := by omega
    exact ⟨⟨by go_simp, by go_simp, by go_simp⟩, by go_simp, by go_simp, by go_simp⟩
theorem lstR_first {w : World} {lo hi b n : Nat} {f : Nat → P3} (r : Row3W w b n f) (l : lo ≤ b) (m : b < hi) {i : Nat} (h : i < n) (x : Int) : LstR (w.setCell ⟨b, i * 3, none⟩ (.int .i64 x)) lo hi (some ⟨b, 0, none⟩) n :=
  fun _ => ⟨b, _, rfl, l, m, row3w_first r h x⟩
theorem moves_long (a : Option Addr) (np c : Nat) (a' : Option Addr) (nf c' : Nat) (v : P3) (k0 : Int) (w : World) (hL : Hid (∀ W, Calls Try.prog 14 #[msv a np c a' nf c'] W fun e' w' => e' = .returned (.bool true) ∧ Below W.heap.size W w')) (hK : Hid (∀ W, Calls Try.prog 15 #[] W fun e' w' => e' = .returned (.bool true) ∧ Below W.heap.size W w')) :
    Calls Try.prog 7 #[msv a np c a' nf c', ptv v, .int .i64 k0] w fun e w' => e = .returned (.bool true) ∧ Below w.heap.size w w' := by
  go_enter Try.func7, Try.ntmps7
  go_wp2_with fail
  refine (hL.out _).mono ?_
  rintro e' w1 ⟨rfl, hb1⟩
  go_wp2_with fail
  refine (hK.out _).mono ?_
  rintro e' w2 ⟨rfl, hb2⟩
  go_wp2
  go_ret
  exact ⟨rfl, by (repeat' (first | exact Below.refl _ _ | refine bstep ?_ hb1 | refine bstep ?_ hb2 | refine Below.setCell ?_ (by simp <;> omega) _ | refine balloc ?_ _ | refine Below.drew ?_ | refine bdrewN ?_ _))⟩
set_option maxRecDepth 100000 in
set_option maxHeartbeats 4000000 in
theorem moves_walk0 (a : Option Addr) (np c : Nat) (a' : Option Addr) (nf c' : Nat) (v : P3) (k0 : Int) (P F h g : Nat → P3) (N M N2 M2 : Nat) (x y : Int) (w : World) (hL : Hid (∀ W, Calls Try.prog 14 #[msv a np c a' nf c'] W fun e' w' => e' = .returned (.bool false) ∧ Below W.heap.size W w')) (hC : Hid (∀ W, Below w.heap.size w W → Calls Try.prog 39 #[msv a np c a' nf c'] W (PlacedD np nf P F W))) (h1 : Hid (∀ a c a' c' W, Lst W a np P → Lst W a' nf F → Calls Try.prog 40 #[msv a np c a' nf c', ptv v] W (MovedW N M h F x W))) (h2 : Hid (∀ a c a' c' W, Lst W a np P → Lst W a' nf F → Calls Try.prog 41 #[msv a np c a' nf c', ptv v] W (MovedW N M h F x W))) (h3 : Hid (∀ a c a' c' W, Lst W a np P → Lst W a' nf F → Calls Try.prog 42 #[msv a np c a' nf c', .int .i64 k0] W (MovedW N2 M2 g F y W))) (h4 : Hid (∀ a c a' c' W, Lst W a np P → Lst W a' nf F → Calls Try.prog 43 #[msv a np c a' nf c', .int .i64 k0] W (MovedW N2 M2 g F y W))) (hK : Hid (∀ W, Calls Try.prog 15 #[] W fun e' w' => e' = .returned (.bool true) ∧ Below W.heap.size W w')) (rp : Lst w a np P) (rf : Lst w a' nf F) (n1 : np ≤ 1000000) (n2 : nf ≤ 1000000) (n3 : N ≤ 1000000) (n4 : M ≤ 1000000) (n5 : N2 ≤ 1000000) (n6 : M2 ≤ 1000000) :
    Calls Try.prog 7 #[msv a np c a' nf c', ptv v, .int .i64 k0] w fun e w' => e = .returned (.bool true) ∧ Below w.heap.size w w' := by
  have LN := Lib.hid (And.intro n1 (And.intro n2 (And.intro n3 (And.intro n4 (And.intro n5 n6)))))
  have q3 : (N : Int) ≤ 1000000 := by omega
  have q6 : (M2 : Int) ≤ 1000000 := by omega
  have RP := Lib.hid rp
  have RF := Lib.hid rf
  clear rp rf n1 n2 n3 n4 n5 n6
  go_enter Try.func7, Try.ntmps7
  go_wp2_with fail
  refine (hL.out _).mono ?_
  rintro e' w1 ⟨rfl, hb⟩
  have XM_1 := Lib.hid (mes_below (mes_alloc (mes_new w a np c a' nf c' 25) (.cells #[.int .i64 v.1, .int .i64 v.2.1, .int .i64 v.2.2] 33)) hb)
  have XV_1 := Lib.hid (own_below (own_new (w.alloc (msc a np c a' nf c' 25)) v 33) hb)
  have MP_1 := Lib.hid (lstB_below (lstB_alloc (lstB_alloc (lstB_of RP.out) (msc a np c a' nf c' 25)) (.cells #[.int .i64 v.1, .int .i64 v.2.1, .int .i64 v.2.2] 33)) hb)
  have MF_1 := Lib.hid (lstB_below (lstB_alloc (lstB_alloc (lstB_of RF.out) (msc a np c a' nf c' 25)) (.cells #[.int .i64 v.1, .int .i64 v.2.1, .int .i64 v.2.2] 33)) hb)
  have B_1 := Lib.hid (bstep (balloc (balloc (Below.refl w.heap.size w) (msc a np c a' nf c' 25)) (.cells #[.int .i64 v.1, .int .i64 v.2.1, .int .i64 v.2.2] 33)) hb)
  simp only [World.size_alloc] at XV_1
  clear hb
  obtain ⟨m1, m2, m3⟩ := XM_1.out
  go_wp2_with fail
  refine (hC.out _ B_1.out).mono ?_
  rintro e' w2 ⟨oa, oc, of, od, rfl, l1, l2, hd, hb⟩
  have XM_2 := Lib.hid (mes_alloc (mes_below XM_1.out hb) (msc oa np oc of nf od 25))
  have XV_2 := Lib.hid (own_alloc (own_below XV_1.out hb) (msc oa np oc of nf od 25))
  have MP_2 := Lib.hid (lstB_alloc (lstB_below MP_1.out hb) (msc oa np oc of nf od 25))
  have MF_2 := Lib.hid (lstB_alloc (lstB_below MF_1.out hb) (msc oa np oc of nf od 25))
  have B_2 := Lib.hid (balloc (bstep B_1.out hb) (msc oa np oc of nf od 25))
  have XO_2 := Lib.hid (mes_new w2 oa np oc of nf od 25)
  have OP_2 := Lib.hid (lstB_alloc (lstB_of (lstw_lst l1)) (msc oa np oc of nf od 25))
  have OF_2 := Lib.hid (lstB_alloc (lstB_of (lstw_lst l2)) (msc oa np oc of nf od 25))
  have S2 := Lib.hid (show w.heap.size + 1 < w2.heap.size from (own_below XV_1.out hb).2.2.2.2.2.2)
  clear l1 l2 hd hb m1 m2 m3 XM_1 XV_1 MP_1 MF_1 B_1
  obtain ⟨m1, m2, m3⟩ := XO_2.out
  obtain ⟨v1, v2, v3, v4, v5, v6, v7⟩ := XV_2.out
  go_wp2_with fail
  refine (h1.out oa oc of od _ (lstB_lst OP_2.out) (lstB_lst OF_2.out)).mono ?_
  rintro e' w3 ⟨aa, ac, af, ad, rfl, l1, l2, hb⟩
  have XM_3 := Lib.hid (mes_alloc (mes_below XM_2.out hb) (msc aa N ac af M ad 25))
  have XV_3 := Lib.hid (own_alloc (own_below XV_2.out hb) (msc aa N ac af M ad 25))
  have MP_3 := Lib.hid (lstB_alloc (lstB_below MP_2.out hb) (msc aa N ac af M ad 25))
  have MF_3 := Lib.hid (lstB_alloc (lstB_below MF_2.out hb) (msc aa N ac af M ad 25))
  have XO_3 := Lib.hid (mes_alloc (mes_below XO_2.out hb) (msc aa N ac af M ad 25))
  have OP_3 := Lib.hid (lstB_alloc (lstB_below OP_2.out hb) (msc aa N ac af M ad 25))
  have OF_3 := Lib.hid (lstB_alloc (lstB_below OF_2.out hb) (msc aa N ac af M ad 25))
  have B_3 := Lib.hid (balloc (bstep B_2.out hb) (msc aa N ac af M ad 25))
  have X3_3 := Lib.hid (mes_new w3 aa N ac af M ad 25)
  have P3_3 := Lib.hid (lst_alloc (lstw_lst l1) (msc aa N ac af M ad 25))
  have F3_3 := Lib.hid (lst_alloc (lstw_lst l2) (msc aa N ac af M ad 25))
  have Z3 := Lib.hid (show (w2.heap.size + 1 ≤ w3.heap.size) from by have z := hb.size; simpa using z)
  have RA_3 := Lib.hid (lstR_alloc (lstR_of l1) (msc aa N ac af M ad 25))
  simp only [World.size_alloc] at RA_3
  clear l1 l2 hb m1 m2 m3 v1 v2 v3 v4 v5 v6 v7 XM_2 XV_2 MP_2 MF_2 XO_2 OP_2 OF_2 B_2
  obtain ⟨m1, m2, m3⟩ := XM_3.out
  obtain ⟨v1, v2, v3, v4, v5, v6, v7⟩ := XV_3.out
  go_wp2_with fail
  refine (h2.out a c a' c' _ (lstB_lst MP_3.out) (lstB_lst MF_3.out)).mono ?_
  rintro e' w4 ⟨ba, bc, bf, bd, rfl, l1, l2, hb⟩
  have XM_4 := Lib.hid (mes_alloc (mes_below XM_3.out hb) (msc ba N bc bf M bd 25))
  have XV_4 := Lib.hid (own_alloc (own_below XV_3.out hb) (msc ba N bc bf M bd 25))
  have MP_4 := Lib.hid (lstB_alloc (lstB_below MP_3.out hb) (msc ba N bc bf M bd 25))
  have MF_4 := Lib.hid (lstB_alloc (lstB_below MF_3.out hb) (msc ba N bc bf M bd 25))
  have XO_4 := Lib.hid (mes_alloc (mes_below XO_3.out hb) (msc ba N bc bf M bd 25))
  have OP_4 := Lib.hid (lstB_alloc (lstB_below OP_3.out hb) (msc ba N bc bf M bd 25))
  have OF_4 := Lib.hid (lstB_alloc (lstB_below OF_3.out hb) (msc ba N bc bf M bd 25))
  have X3_4 := Lib.hid (mes_alloc (mes_below X3_3.out hb) (msc ba N bc bf M bd 25))
  have P3_4 := Lib.hid (lst_alloc (lst_below P3_3.out hb) (msc ba N bc bf M bd 25))
  have F3_4 := Lib.hid (lst_alloc (lst_below F3_3.out hb) (msc ba N bc bf M bd 25))
  have RA_4 := Lib.hid (lstR_alloc (lstR_below RA_3.out hb) (msc ba N bc bf M bd 25))
  have B_4 := Lib.hid (balloc (bstep B_3.out hb) (msc ba N bc bf M bd 25))
  have X4_4 := Lib.hid (mes_new w4 ba N bc bf M bd 25)
  have P4_4 := Lib.hid (lst_alloc (lstw_lst l1) (msc ba N bc bf M bd 25))
  have F4_4 := Lib.hid (lst_alloc (lstw_lst l2) (msc ba N bc bf M bd 25))
  have Z4 := Lib.hid (show (w3.heap.size + 1 ≤ w4.heap.size) from by have z := hb.size; simpa using z)
  clear l1 l2 hb m1 m2 m3 v1 v2 v3 v4 v5 v6 v7 XM_3 XV_3 MP_3 MF_3 XO_3 OP_3 OF_3 X3_3 P3_3 F3_3 RA_3 B_3
  obtain ⟨m1, m2, m3⟩ := XO_4.out
  go_wp2_with fail
  refine (h3.out oa oc of od _ (lstB_lst OP_4.out) (lstB_lst OF_4.out)).mono ?_
  rintro e' w5 ⟨ca, cc, cf, cd, rfl, l1, l2, hb⟩
  have XM_5 := Lib.hid (mes_alloc (mes_below XM_4.out hb) (msc ca N2 cc cf M2 cd 25))
  have XV_5 := Lib.hid (own_alloc (own_below XV_4.out hb) (msc ca N2 cc cf M2 cd 25))
  have MP_5 := Lib.hid (lstB_alloc (lstB_below MP_4.out hb) (msc ca N2 cc cf M2 cd 25))
  have MF_5 := Lib.hid (lstB_alloc (lstB_below MF_4.out hb) (msc ca N2 cc cf M2 cd 25))
  have XO_5 := Lib.hid (mes_alloc (mes_below XO_4.out hb) (msc ca N2 cc cf M2 cd 25))
  have OP_5 := Lib.hid (lstB_alloc (lstB_below OP_4.out hb) (msc ca N2 cc cf M2 cd 25))
  have OF_5 := Lib.hid (lstB_alloc (lstB_below OF_4.out hb) (msc ca N2 cc cf M2 cd 25))
  have X3_5 := Lib.hid (mes_alloc (mes_below X3_4.out hb) (msc ca N2 cc cf M2 cd 25))
  have P3_5 := Lib.hid (lst_alloc (lst_below P3_4.out hb) (msc ca N2 cc cf M2 cd 25))
  have F3_5 := Lib.hid (lst_alloc (lst_below F3_4.out hb) (msc ca N2 cc cf M2 cd 25))
  have RA_5 := Lib.hid (lstR_alloc (lstR_below RA_4.out hb) (msc ca N2 cc cf M2 cd 25))
  have X4_5 := Lib.hid (mes_alloc (mes_below X4_4.out hb) (msc ca N2 cc cf M2 cd 25))
  have P4_5 := Lib.hid (lst_alloc (lst_below P4_4.out hb) (msc ca N2 cc cf M2 cd 25))
  have F4_5 := Lib.hid (lst_alloc (lst_below F4_4.out hb) (msc ca N2 cc cf M2 cd 25))
  have B_5 := Lib.hid (balloc (bstep B_4.out hb) (msc ca N2 cc cf M2 cd 25))
  have X5_5 := Lib.hid (mes_new w5 ca N2 cc cf M2 cd 25)
  have P5_5 := Lib.hid (lst_alloc (lstw_lst l1) (msc ca N2 cc cf M2 cd 25))
  have F5_5 := Lib.hid (lst_alloc (lstw_lst l2) (msc ca N2 cc cf M2 cd 25))
  have Z5 := Lib.hid (show (w4.heap.size + 1 ≤ w5.heap.size) from by have z := hb.size; simpa using z)
  have RC_5 := Lib.hid (lstR_alloc (lstR_of l2) (msc ca N2 cc cf M2 cd 25))
  simp only [World.size_alloc] at RC_5
  clear l1 l2 hb m1 m2 m3 XM_4 XV_4 MP_4 MF_4 XO_4 OP_4 OF_4 X3_4 P3_4 F3_4 RA_4 X4_4 P4_4 F4_4 B_4
  obtain ⟨m1, m2, m3⟩ := XM_5.out
  go_wp2_with fail
  refine (h4.out a c a' c' _ (lstB_lst MP_5.out) (lstB_lst MF_5.out)).mono ?_
  rintro e' w6 ⟨da, dc, df, dd, rfl, l1, l2, hb⟩
  have XM_6 := Lib.hid (mes_alloc (mes_below XM_5.out hb) (msc da N2 dc df M2 dd 25))
  have XV_6 := Lib.hid (own_alloc (own_below XV_5.out hb) (msc da N2 dc df M2 dd 25))
  have MP_6 := Lib.hid (lstB_alloc (lstB_below MP_5.out hb) (msc da N2 dc df M2 dd 25))
  have MF_6 := Lib.hid (lstB_alloc (lstB_below MF_5.out hb) (msc da N2 dc df M2 dd 25))
  have XO_6 := Lib.hid (mes_alloc (mes_below XO_5.out hb) (msc da N2 dc df M2 dd 25))
  have OP_6 := Lib.hid (lstB_alloc (lstB_below OP_5.out hb) (msc da N2 dc df M2 dd 25))
  have OF_6 := Lib.hid (lstB_alloc (lstB_below OF_5.out hb) (msc da N2 dc df M2 dd 25))
  have X3_6 := Lib.hid (mes_alloc (mes_below X3_5.out hb) (msc da N2 dc df M2 dd 25))
  have P3_6 := Lib.hid (lst_alloc (lst_below P3_5.out hb) (msc da N2 dc df M2 dd 25))
  have F3_6 := Lib.hid (lst_alloc (lst_below F3_5.out hb) (msc da N2 dc df M2 dd 25))
  have RA_6 := Lib.hid (lstR_alloc (lstR_below RA_5.out hb) (msc da N2 dc df M2 dd 25))
  have X4_6 := Lib.hid (mes_alloc (mes_below X4_5.out hb) (msc da N2 dc df M2 dd 25))
  have P4_6 := Lib.hid (lst_alloc (lst_below P4_5.out hb) (msc da N2 dc df M2 dd 25))
  have F4_6 := Lib.hid (lst_alloc (lst_below F4_5.out hb) (msc da N2 dc df M2 dd 25))
  have X5_6 := Lib.hid (mes_alloc (mes_below X5_5.out hb) (msc da N2 dc df M2 dd 25))
  have P5_6 := Lib.hid (lst_alloc (lst_below P5_5.out hb) (msc da N2 dc df M2 dd 25))
  have F5_6 := Lib.hid (lst_alloc (lst_below F5_5.out hb) (msc da N2 dc df M2 dd 25))
  have RC_6 := Lib.hid (lstR_alloc (lstR_below RC_5.out hb) (msc da N2 dc df M2 dd 25))
  have B_6 := Lib.hid (balloc (bstep B_5.out hb) (msc da N2 dc df M2 dd 25))
  have X6_6 := Lib.hid (mes_new w6 da N2 dc df M2 dd 25)
  have P6_6 := Lib.hid (lst_alloc (lstw_lst l1) (msc da N2 dc df M2 dd 25))
  have F6_6 := Lib.hid (lst_alloc (lstw_lst l2) (msc da N2 dc df M2 dd 25))
  have Z6 := Lib.hid (show (w5.heap.size + 1 ≤ w6.heap.size) from by have z := hb.size; simpa using z)
  clear l1 l2 hb m1 m2 m3 XM_5 XV_5 MP_5 MF_5 XO_5 OP_5 OF_5 X3_5 P3_5 F3_5 RA_5 X4_5 P4_5 F4_5 X5_5 P5_5 F5_5 RC_5 B_5
  obtain ⟨m1, m2, m3⟩ := X3_6.out
  obtain ⟨k1, k2, k3⟩ := X4_6.out
  go_wp2_with fail
  refine (same_any aa N ac af M ad ba bc bf bd h F _ P3_6.out P4_6.out F3_6.out F4_6.out LN.out.2.2.1 LN.out.2.2.2.1).mono ?_
  rintro e' w7 ⟨rfl, hb⟩
  have XM_7 := Lib.hid (mes_below XM_6.out hb)
  have MP_7 := Lib.hid (lstB_below MP_6.out hb)
  have MF_7 := Lib.hid (lstB_below MF_6.out hb)
  have XO_7 := Lib.hid (mes_below XO_6.out hb)
  have OP_7 := Lib.hid (lstB_below OP_6.out hb)
  have OF_7 := Lib.hid (lstB_below OF_6.out hb)
  have X3_7 := Lib.hid (mes_below X3_6.out hb)
  have RA_7 := Lib.hid (lstR_below RA_6.out hb)
  have X5_7 := Lib.hid (mes_below X5_6.out hb)
  have P5_7 := Lib.hid (lst_below P5_6.out hb)
  have F5_7 := Lib.hid (lst_below F5_6.out hb)
  have RC_7 := Lib.hid (lstR_below RC_6.out hb)
  have X6_7 := Lib.hid (mes_below X6_6.out hb)
  have P6_7 := Lib.hid (lst_below P6_6.out hb)
  have F6_7 := Lib.hid (lst_below F6_6.out hb)
  have B_7 := Lib.hid (bstep B_6.out hb)
  clear hb m1 m2 m3 k1 k2 k3 XM_6 XV_6 MP_6 MF_6 XO_6 OP_6 OF_6 X3_6 P3_6 F3_6 RA_6 X4_6 P4_6 F4_6 X5_6 P5_6 F5_6 RC_6 X6_6 P6_6 F6_6 B_6
  obtain ⟨m1, m2, m3⟩ := X5_7.out
  obtain ⟨k1, k2, k3⟩ := X6_7.out
  go_wp2_with fail
  refine (same_any ca N2 cc cf M2 cd da dc df dd g F _ P5_7.out P6_7.out F5_7.out F6_7.out LN.out.2.2.2.2.1 LN.out.2.2.2.2.2).mono ?_
  rintro e' w8 ⟨rfl, hb⟩
  have XM_8 := Lib.hid (mes_below XM_7.out hb)
  have MP_8 := Lib.hid (lstB_below MP_7.out hb)
  have MF_8 := Lib.hid (lstB_below MF_7.out hb)
  have XO_8 := Lib.hid (mes_below XO_7.out hb)
  have OP_8 := Lib.hid (lstB_below OP_7.out hb)
  have OF_8 := Lib.hid (lstB_below OF_7.out hb)
  have X3_8 := Lib.hid (mes_below X3_7.out hb)
  have RA_8 := Lib.hid (lstR_below RA_7.out hb)
  have X5_8 := Lib.hid (mes_below X5_7.out hb)
  have RC_8 := Lib.hid (lstR_below RC_7.out hb)
  have B_8 := Lib.hid (bstep B_7.out hb)
  clear hb m1 m2 m3 k1 k2 k3 XM_7 MP_7 MF_7 XO_7 OP_7 OF_7 X3_7 RA_7 X5_7 P5_7 F5_7 RC_7 X6_7 P6_7 F6_7 B_7
  obtain ⟨m1, m2, m3⟩ := X3_8.out
  go_wp2
  clear m1 m2 m3
  go_loopw [17] (fun kv wr => ∃ k : Nat, k ≤ N ∧ kv = .int .i64 k ∧ Mes wr w.heap.size a np c a' nf c' ∧ Mes wr w2.heap.size oa np oc of nf od ∧ Mes wr w3.heap.size aa N ac af M ad ∧ Mes wr w5.heap.size ca N2 cc cf M2 cd ∧ LstB wr w.heap.size a np P ∧ LstB wr w.heap.size a' nf F ∧ LstB wr w2.heap.size oa np P ∧ LstB wr w2.heap.size of nf F ∧ LstR wr (w2.heap.size + 1) w3.heap.size aa N ∧ LstR wr (w4.heap.size + 1) w5.heap.size cf M2 ∧ Below w.heap.size w wr) (fun kv _ => N - (intOf kv).toNat)
  case atStart => exact ⟨0, Nat.zero_le _, rfl, XM_8.out, XO_8.out, X3_8.out, X5_8.out, MP_8.out, MF_8.out, OP_8.out, OF_8.out, RA_8.out, RC_8.out, B_8.out⟩
  case round =>
    clear XM_8 XO_8 X3_8 X5_8 MP_8 MF_8 OP_8 OF_8 RA_8 RC_8 B_8
    obtain ⟨k, hk, rfl, r1, r2, r3, r4, r5, r6, r7, r8, r9, r10, r11⟩ := hrel
    have R1 := Lib.hid r1
    have R2 := Lib.hid r2
    have R3 := Lib.hid r3
    have R4 := Lib.hid r4
    have R5 := Lib.hid r5
    have R6 := Lib.hid r6
    have R7 := Lib.hid r7
    have R8 := Lib.hid r8
    have R9 := Lib.hid r9
    have R10 := Lib.hid r10
    have R11 := Lib.hid r11
    clear r1 r2 r3 r4 r5 r6 r7 r8 r9 r10 r11
    obtain ⟨m1, m2, m3⟩ := R3.out
    by_cases hlt : k < N
    · have kk : (k : Int) < (N : Int) := by omega
      obtain ⟨b, ff, rfl, hlo, hhi, r⟩ := R9.out (by omega)
      obtain ⟨⟨c1, c2, c3⟩, f1, f2, f3⟩ := r.2 k hlt
      have r6 := r.1
      have RR := Lib.hid r
      have LO := Lib.hid hlo
      have HI := Lib.hid hhi
      clear r hlo hhi
      go_wp2
      go_roundw
      case rel =>
        have r := RR.out
        have hlo := LO.out
        have hhi := HI.out
        have s2 := S2.out
        have z3 := Z3.out
        have z4 := Z4.out
        have z5 := Z5.out
        exact ⟨k + 1, by omega, by go_num, mes_set R1.out (by omega), mes_set R2.out (by omega), mes_set R3.out (by omega), mes_set R4.out (by omega), lstB_set R5.out (by omega), lstB_set R6.out (by omega), lstB_set R7.out (by omega), lstB_set R8.out (by omega), (lstR_first r hlo hhi hlt 999), lstR_set R10.out (by omega), below_set1 R11.out (by omega)⟩
      case measure => simp [intOf]; omega
    · obtain rfl : N = k := by omega
      clear m1 m2 m3
      obtain ⟨m1, m2, m3⟩ := R3.out
      obtain ⟨k1, k2, k3⟩ := R4.out
      go_wp2
      clear m1 m2 m3 k1 k2 k3
      go_loopw [18] (fun kv wr => ∃ k : Nat, k ≤ M2 ∧ kv = .int .i64 k ∧ Mes wr w.heap.size a np c a' nf c' ∧ Mes wr w2.heap.size oa np oc of nf od ∧ Mes wr w3.heap.size aa N ac af M ad ∧ Mes wr w5.heap.size ca N2 cc cf M2 cd ∧ LstB wr w.heap.size a np P ∧ LstB wr w.heap.size a' nf F ∧ LstB wr w2.heap.size oa np P ∧ LstB wr w2.heap.size of nf F ∧ LstR wr (w2.heap.size + 1) w3.heap.size aa N ∧ LstR wr (w4.heap.size + 1) w5.heap.size cf M2 ∧ Below w.heap.size w wr) (fun kv _ => M2 - (intOf kv).toNat)
      case atStart => exact ⟨0, Nat.zero_le _, rfl, R1.out, R2.out, R3.out, R4.out, R5.out, R6.out, R7.out, R8.out, R9.out, R10.out, R11.out⟩
      case round =>
        clear R1 R2 R3 R4 R5 R6 R7 R8 R9 R10 R11
        obtain ⟨k, hk, rfl, r1, r2, r3, r4, r5, r6, r7, r8, r9, r10, r11⟩ := hrel
        have R1 := Lib.hid r1
        have R2 := Lib.hid r2
        have R3 := Lib.hid r3
        have R4 := Lib.hid r4
        have R5 := Lib.hid r5
        have R6 := Lib.hid r6
        have R7 := Lib.hid r7
        have R8 := Lib.hid r8
        have R9 := Lib.hid r9
        have R10 := Lib.hid r10
        have R11 := Lib.hid r11
        clear r1 r2 r3 r4 r5 r6 r7 r8 r9 r10 r11
        obtain ⟨m1, m2, m3⟩ := R4.out
        by_cases hlt : k < M2
        · have kk : (k : Int) < (M2 : Int) := by omega
          obtain ⟨b, ff, rfl, hlo, hhi, r⟩ := R10.out (by omega)
          obtain ⟨⟨c1, c2, c3⟩, f1, f2, f3⟩ := r.2 k hlt
          have r6 := r.1
          have RR := Lib.hid r
          have LO := Lib.hid hlo
          have HI := Lib.hid hhi
          clear r hlo hhi
          go_wp2
          go_roundw
          case rel =>
            have r := RR.out
            have hlo := LO.out
            have hhi := HI.out
            have s2 := S2.out
            have z3 := Z3.out
            have z4 := Z4.out
            have z5 := Z5.out
            exact ⟨k + 1, by omega, by go_num, mes_set R1.out (by omega), mes_set R2.out (by omega), mes_set R3.out (by omega), mes_set R4.out (by omega), lstB_set R5.out (by omega), lstB_set R6.out (by omega), lstB_set R7.out (by omega), lstB_set R8.out (by omega), lstR_set R9.out (by omega), (lstR_first r hlo hhi hlt (-1)), below_set1 R11.out (by omega)⟩
          case measure => simp [intOf]; omega
        · obtain rfl : M2 = k := by omega
          clear m1 m2 m3
          obtain ⟨m1, m2, m3⟩ := R1.out
          obtain ⟨k1, k2, k3⟩ := R2.out
          obtain ⟨j1, j2, j3⟩ := R4.out
          go_wp2_with fail
          refine (same_any oa np oc of nf od a c a' c' P F _ (lstB_lst R7.out) (lstB_lst R5.out) (lstB_lst R8.out) (lstB_lst R6.out) LN.out.1 LN.out.2.1).mono ?_
          rintro e' w9 ⟨rfl, hb9⟩
          have B9 := Lib.hid (bstep R11.out hb9)
          clear hb9 m1 m2 m3 k1 k2 k3 j1 j2 j3
          go_wp2_with fail
          refine (hK.out _).mono ?_
          rintro e' w10 ⟨rfl, hb10⟩
          go_wp2
          go_ret
          exact ⟨rfl, bstep B9.out hb10⟩

end Go.Proofs.Ytcphdlcglaopjaa
