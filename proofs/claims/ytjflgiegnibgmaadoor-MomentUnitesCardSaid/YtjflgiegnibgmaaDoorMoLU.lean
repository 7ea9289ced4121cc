/-
  The law MomentUnites: for all charged panels and centers it answers true.
-/
import Derived.Test.YtjflgiegnibgmaaDoorMoLM0
namespace Go.Proofs.YtjflgiegnibgmaaDoor
open Go.ChangeShapes Go.WideShapes Go.RowKit
open Sh
theorem ocode_zero {n : Nat} {Q : Nat → Ch} {p : P3} (h1 : n ≤ 96) (h2 : inP 64 p = true) (h3 : chcodes Q n = 0) : ocode n Q p = 0 := by
  have hc : ccode n Q = 0 := by
    unfold ccode
    rw [if_neg (by omega)]
    exact h3
  unfold ocode
  rw [if_pos hc, h2]
  rfl
theorem uni_ad {n m : Nat} {Q R : Nat → Ch} {p : P3} (z : ocode n Q p = 0) (y : ocode m R p = 0) (h : n + m ≤ 96) : ocode (n + m) (joinQ Q n R) p = 0 ∧ adR (mof p Q n) (mof p R m) = (mof p (joinQ Q n R) (n + m), 0) := by
  obtain ⟨h1, h2, h3⟩ := ocode_ok2 z
  obtain ⟨h4, _, h5⟩ := ocode_ok2 y
  have j := chcodes_join h3 h5
  have a := mokB_iff.2 (mof_mok (inP_iff.1 h2) h3 (by omega))
  have b := mokB_iff.2 (mof_mok (inP_iff.1 h2) h5 (by omega))
  have c := mokB_iff.2 (mof_mok (inP_iff.1 h2) j (by omega))
  refine ⟨ocode_zero h h2 j, ?_⟩
  rw [adR_ok a b, ← mof_join]
  unfold mtold mlarge
  rw [c]
  rfl
theorem fvc_huge (a : Option Addr) (n cap : Nat) (w : World) (h : 96 < n) (hn : n ≤ 9223372036854775807) :
    Calls Tryd.prog 64 #[.slice a n cap] w fun e w' => e = .returned (.int .i64 4) ∧ Below w.heap.size w w' := by
  go_enter Tryd.func64, Tryd.ntmps64
  go_wp2
  go_ret
  exact ⟨rfl, Below.refl _ _⟩
theorem chk_huge (a : Option Addr) (n cap : Nat) (p : P3) (w : World) (h : 96 < n) (hn : n ≤ 9223372036854775807) :
    Calls Tryd.prog 27 #[.slice a n cap, ptv p] w fun e w' => e = .returned (.int .i64 4) ∧ Below w.heap.size w w' := by
  have V := Lib.hid fun W => fvc_huge a n cap W h hn
  clear h hn
  go_enter Tryd.func27, Tryd.ntmps27
  go_wp2_with fail
  refine (V.out _).mono ?_
  rintro e w1 ⟨rfl, hb1⟩
  go_wp2
  go_ret
  exact ⟨rfl, by (repeat' (first | exact Below.refl _ _ | refine bstep ?_ hb1 | refine Below.setCell ?_ (by simp <;> omega) _ | refine balloc ?_ _ | refine Below.drew ?_ | refine bdrewN ?_ _))⟩
theorem of_huge (a : Option Addr) (n cap : Nat) (p : P3) (w : World) (h : 96 < n) (hn : n ≤ 9223372036854775807) :
    Calls Tryd.prog 10 #[.slice a n cap, ptv p] w fun e w' => e = .returned (.tuple #[mov mzero, .int .i64 4]) ∧ Below w.heap.size w w' :=
  of_no a n cap p 4 w (Lib.hid fun W _ => chk_huge a n cap p W h hn) (by decide)
theorem of_all (a : Option Addr) (n cap : Nat) (Q : Nat → Ch) (p : P3) (w : World) (pl : Plc w) (r : LstC w a n Q) (hn : n ≤ 9223372036854775807) :
    Calls Tryd.prog 10 #[.slice a n cap, ptv p] w fun e w' => e = .returned (.tuple #[mov (if ocode n Q p = 0 then mof p Q n else mzero), .int .i64 (ocode n Q p)]) ∧ Below w.heap.size w w' := by
  by_cases h : 96 < n
  · have e : ocode n Q p = 4 := by
      unfold ocode ccode
      rw [if_pos h]
      rfl
    rw [e]
    exact of_huge a n cap p w h hn
  · exact of_any a n cap Q p w pl r (by omega)
/-- what the law has while it appends -/
def UNB (w W : World) (g1 g2 B : Nat) (p : P3) (R R' : Mo) : Prop :=
  Own W w.heap.size p ∧ OwnMo W g1 R ∧ OwnMo W g2 R' ∧ Below w.heap.size w W ∧ w.heap.size < g1 ∧ g1 < g2 ∧ g2 < B ∧ B ≤ W.heap.size
theorem un_step {w W W1 : World} {g1 g2 B : Nat} {p : P3} {R R' : Mo} (h : UNB w W g1 g2 B p R R') (hb : Below B W W1) : UNB w W1 g1 g2 B p R R' := by
  obtain ⟨h1, h2, h3, h4, h5, h6, h7, h8⟩ := h
  exact ⟨own_in2 h1 hb (by omega), ownMo_in h2 hb (by omega), ownMo_in h3 hb (by omega), h4.trans (hb.mono (by omega)), h5, h6, h7, Nat.le_trans h8 hb.size⟩
theorem un_below {w W W1 : World} {g1 g2 B : Nat} {p : P3} {R R' : Mo} (h : UNB w W g1 g2 B p R R') (hb : Below W.heap.size W W1) : UNB w W1 g1 g2 B p R R' := un_step h (hb.mono h.2.2.2.2.2.2.2)
theorem un_alloc {w W : World} {g1 g2 B : Nat} {p : P3} {R R' : Mo} (h : UNB w W g1 g2 B p R R') (o : Obj) : UNB w (W.alloc o) g1 g2 B p R R' := un_below h ((Below.refl _ _).alloc (Nat.le_refl _) _)
theorem un_drew {w W : World} {g1 g2 B : Nat} {p : P3} {R R' : Mo} (h : UNB w W g1 g2 B p R R') : UNB w W.drew g1 g2 B p R R' := un_below h (Below.drew (Below.refl _ _))
theorem un_cells {w W : World} {g1 g2 B : Nat} {p : P3} {R R' : Mo} (h : UNB w W g1 g2 B p R R') : W.cell? ⟨w.heap.size, 0, none⟩ = some (.int .i64 p.1) ∧ W.cell? ⟨w.heap.size, 1, none⟩ = some (.int .i64 p.2.1) ∧ W.cell? ⟨w.heap.size, 2, none⟩ = some (.int .i64 p.2.2) := own_cells h.1
/-- eleven zeros that the call made, unread as yet -/
def zb (W : World) (G : Nat) : Prop := W.heap[G]? = some (mob0 28)
theorem zb_new (W : World) : zb (W.alloc (mob0 28)) W.heap.size := heap_alloc_new W _
theorem zb_below {W W1 : World} {G : Nat} (h : zb W G) (hb : Below W.heap.size W W1) : zb W1 G := (hb.block G (Array.getElem?_eq_some_iff.1 h).1).trans h
theorem zb_alloc {W : World} {G : Nat} (h : zb W G) (o : Obj) : zb (W.alloc o) G := zb_below h ((Below.refl _ _).alloc (Nat.le_refl _) _)
theorem zb_drew {W : World} {G : Nat} (h : zb W G) : zb W.drew G := h
theorem zb_own {W : World} {G : Nat} (h : zb W G) : OwnMo W G mzero := by
  have hl := (Array.getElem?_eq_some_iff.1 h).1
  unfold zb at h
  refine ⟨⟨?_, ?_, ?_, ?_, ?_, ?_, ?_, ?_, ?_, ?_, ?_⟩, ⟨?_, ?_, ?_, ?_, ?_, ?_, ?_, ?_, ?_, ?_, ?_⟩, hl⟩ <;> simp [World.cell?, World.frozen?, h, mzero]
theorem ownMo_put11 {W : World} {G : Nat} {m0 : Mo} (h : OwnMo W G m0) (m : Mo) : OwnMo (((((((((((W.setCell ⟨G, 0, none⟩ (.int .i64 m.c)).setCell ⟨G, 1, none⟩ (.int .i64 m.t)).setCell ⟨G, 2, none⟩ (.int .i64 m.d.1)).setCell ⟨G, 3, none⟩ (.int .i64 m.d.2.1)).setCell ⟨G, 4, none⟩ (.int .i64 m.d.2.2)).setCell ⟨G, 5, none⟩ (.int .i64 m.s0)).setCell ⟨G, 6, none⟩ (.int .i64 m.s1)).setCell ⟨G, 7, none⟩ (.int .i64 m.s2)).setCell ⟨G, 8, none⟩ (.int .i64 m.s3)).setCell ⟨G, 9, none⟩ (.int .i64 m.s4)).setCell ⟨G, 10, none⟩ (.int .i64 m.s5)) G m :=
  ownMo_put10 (ownMo_put9 (ownMo_put8 (ownMo_put7 (ownMo_put6 (ownMo_put5 (ownMo_put4 (ownMo_put3 (ownMo_put2 (ownMo_put1 (ownMo_put0 h m.c) m.t) m.d.1) m.d.2.1) m.d.2.2) m.s0) m.s1) m.s2) m.s3) m.s4) m.s5
theorem zb_use {W : World} {G : Nat} {C : Prop} (h : zb W G) (k : zb W G → (W.cell? ⟨G, 0, none⟩ = some (.int .i64 0) ∧ W.cell? ⟨G, 1, none⟩ = some (.int .i64 0) ∧ W.cell? ⟨G, 2, none⟩ = some (.int .i64 0) ∧ W.cell? ⟨G, 3, none⟩ = some (.int .i64 0) ∧ W.cell? ⟨G, 4, none⟩ = some (.int .i64 0) ∧ W.cell? ⟨G, 5, none⟩ = some (.int .i64 0) ∧ W.cell? ⟨G, 6, none⟩ = some (.int .i64 0) ∧ W.cell? ⟨G, 7, none⟩ = some (.int .i64 0) ∧ W.cell? ⟨G, 8, none⟩ = some (.int .i64 0) ∧ W.cell? ⟨G, 9, none⟩ = some (.int .i64 0) ∧ W.cell? ⟨G, 10, none⟩ = some (.int .i64 0)) → (W.frozen? ⟨G, 0, none⟩ = false ∧ W.frozen? ⟨G, 1, none⟩ = false ∧ W.frozen? ⟨G, 2, none⟩ = false ∧ W.frozen? ⟨G, 3, none⟩ = false ∧ W.frozen? ⟨G, 4, none⟩ = false ∧ W.frozen? ⟨G, 5, none⟩ = false ∧ W.frozen? ⟨G, 6, none⟩ = false ∧ W.frozen? ⟨G, 7, none⟩ = false ∧ W.frozen? ⟨G, 8, none⟩ = false ∧ W.frozen? ⟨G, 9, none⟩ = false ∧ W.frozen? ⟨G, 10, none⟩ = false) → G < W.heap.size → C) : C := by
  have o := zb_own h
  exact k h o.1 o.2.1 o.2.2
theorem use2 {A B C : Prop} (h : A) (k : B) (c : A → B → C) : C := c h k
theorem zb_keep {W W1 : World} {G B n : Nat} {v : Value} {xs : List Value} (h : zb W G) (ho : W.ownsRow B 41 10 v n xs) (hg : W.grownBy W1 v.ownBlock) : zb W1 G := by
  have hl := (Array.getElem?_eq_some_iff.1 h).1
  have ne : some G ≠ v.ownBlock := by
    intro e
    rcases ho.2 with ⟨rfl, _⟩ | ⟨g, cap, cur, rfl, hb, hg', _⟩
    · cases e
    · cases e
      unfold zb at h
      rw [h] at hg'
      exact absurd (Obj.cells.inj (Option.some.inj hg')).2.1 (by decide)
  exact (hg.block G hl ne).trans h
theorem step_un1 {ops : Array Oper} {o : Oper} {x : Act} {W : World} {K : Act → World → Prop} {Q0 : Exit → Act → World → Prop} {E : Prop} {w : World} {g1 g2 B g : Nat} {p : P3} {R R' : Mo}
    (hg : o.guard = none) (s y : Operand) (hop : o.op = Op.call { callee := Callee.builtin Builtin.append, args := #[s, y], argTypes := #[22, 22] }) (hs : x.eval s = .slice (some ⟨g, 0, none⟩) 0 0)
    (a : Option Addr) (n cap : Nat) (hx : x.eval y = .slice a n cap) (ho : W.ownsRow B 41 10 (.slice (some ⟨g, 0, none⟩) 0 0) 0 []) (h : UNB w W g1 g2 B p R R') (Q : Nat → Ch) (r : LstC w a n Q) (hn : n ≤ 96)
    (hK : ∀ v' w', w'.ownsRow B 41 10 v' n (ccs Q n) → UNB w w' g1 g2 B p R R' → (∀ G, zb W G → zb w' G) → K (x.put o.dst v') w') :
    if Region.wanted o (yielded ops x.tmps) = true then Oper.wp Tryd.prog o x W K Q0 else E := by
  have r2 : LstC W a n Q := lstC_below r h.2.2.2.1
  obtain ⟨v', w', h1, h2, h3⟩ := appC_run (w := W) B o.type _ 0 [] ho h.2.2.2.2.2.2.2 a n cap Q r2 (by omega)
  rw [Nat.zero_add, List.nil_append] at h2
  exact stepC hg s y 22 hop _ _ v' w' hs hx h1 (hK v' w' h2 (un_step h ((Below.refl B W).grown h3 h.2.2.2.2.2.2.2 (fun q e => (ho.lt q e).1))) (fun G z => zb_keep z ho h3))
theorem step_un2 {ops : Array Oper} {o : Oper} {x : Act} {W : World} {K : Act → World → Prop} {Q0 : Exit → Act → World → Prop} {E : Prop} {w : World} {g1 g2 B : Nat} {p : P3} {R R' : Mo} {v : Value} {n : Nat} {Q : Nat → Ch}
    (hg : o.guard = none) (s y : Operand) (hop : o.op = Op.call { callee := Callee.builtin Builtin.append, args := #[s, y], argTypes := #[22, 22] }) (hs : x.eval s = v)
    (a : Option Addr) (m cap : Nat) (hx : x.eval y = .slice a m cap) (ho : W.ownsRow B 41 10 v n (ccs Q n)) (h : UNB w W g1 g2 B p R R') (Q' : Nat → Ch) (r : LstC w a m Q') (hn : n + m ≤ 96)
    (hK : ∀ ao c w', LstC w' ao (n + m) (joinQ Q n Q') → UNB w w' g1 g2 B p R R' → (∀ G, zb W G → zb w' G) → K (x.put o.dst (.slice ao (n + m) c)) w') :
    if Region.wanted o (yielded ops x.tmps) = true then Oper.wp Tryd.prog o x W K Q0 else E := by
  have r2 : LstC W a m Q' := lstC_below r h.2.2.2.1
  obtain ⟨v', w', h1, h2, h3⟩ := appC_run (w := W) B o.type v n _ ho h.2.2.2.2.2.2.2 a m cap Q' r2 (by omega)
  rw [ccs_join] at h2
  obtain ⟨ao, c, ev, hL⟩ := lstC_of h2
  subst ev
  exact stepC hg s y 22 hop _ _ _ w' hs hx h1 (hK ao c w' hL (un_step h ((Below.refl B W).grown h3 h.2.2.2.2.2.2.2 (fun q e => (ho.lt q e).1))) (fun G z => zb_keep z ho h3))
/-- what the region holds -/
abbrev unS (w W : World) (g1 g2 B : Nat) (p : P3) (R R' : Mo) : Prop := (W.cell? ⟨w.heap.size, 0, none⟩ = some (.int .i64 p.1) ∧ W.cell? ⟨w.heap.size, 1, none⟩ = some (.int .i64 p.2.1) ∧ W.cell? ⟨w.heap.size, 2, none⟩ = some (.int .i64 p.2.2)) ∧ UNB w W g1 g2 B p R R'
theorem s_of {w W : World} {g1 g2 B : Nat} {p : P3} {R R' : Mo} (h : UNB w W g1 g2 B p R R') : unS w W g1 g2 B p R R' := ⟨un_cells h, h⟩
theorem s_un {w W : World} {g1 g2 B : Nat} {p : P3} {R R' : Mo} (h : unS w W g1 g2 B p R R') : UNB w W g1 g2 B p R R' := h.2
theorem s_bl {w W : World} {g1 g2 B : Nat} {p : P3} {R R' : Mo} (h : unS w W g1 g2 B p R R') : Below w.heap.size w W := h.2.2.2.2.1
theorem s_below {w W W1 : World} {g1 g2 B : Nat} {p : P3} {R R' : Mo} (h : unS w W g1 g2 B p R R') (hb : Below W.heap.size W W1) : unS w W1 g1 g2 B p R R' := s_of (un_below h.2 hb)
theorem s_alloc {w W : World} {g1 g2 B : Nat} {p : P3} {R R' : Mo} (h : unS w W g1 g2 B p R R') (o : Obj) : unS w (W.alloc o) g1 g2 B p R R' := s_of (un_alloc h.2 o)
theorem s_put {w W : World} {g1 g2 B G : Nat} {p : P3} {R R' : Mo} {v0 v1 v2 v3 v4 v5 v6 v7 v8 v9 v10 : Value} (h : unS w W g1 g2 B p R R') (hG : B ≤ G) : unS w (((((((((((W.setCell ⟨G, 0, none⟩ v0).setCell ⟨G, 1, none⟩ v1).setCell ⟨G, 2, none⟩ v2).setCell ⟨G, 3, none⟩ v3).setCell ⟨G, 4, none⟩ v4).setCell ⟨G, 5, none⟩ v5).setCell ⟨G, 6, none⟩ v6).setCell ⟨G, 7, none⟩ v7).setCell ⟨G, 8, none⟩ v8).setCell ⟨G, 9, none⟩ v9).setCell ⟨G, 10, none⟩ v10) g1 g2 B p R R' := s_of (un_step h.2 (below_put11 (Below.refl B W) hG))
set_option maxRecDepth 100000 in
set_option maxHeartbeats 4000000 in
theorem mun_big (a : Option Addr) (n cap : Nat) (a' : Option Addr) (m cap' : Nat) (p : P3) (t : Int) (hw : IntKind.i64.wrap ((n : Int) + (m : Int)) = t) (w : World) (pl : Plc w) (h : decide (96 < t) = true) (S : Hid (∀ W, Plc W → Calls Tryd.prog 9 #[] W fun e w' => e = .returned (.bool true) ∧ Below W.heap.size W w')) : Calls Tryd.prog 4 #[.slice a n cap, .slice a' m cap', ptv p] w fun e w' => e = .returned (.bool true) ∧ Below w.heap.size w w' := by
  have PL := Lib.hid pl
  have gz : 0 < w.heap.size := pl.2
  clear pl
  go_enter Tryd.func4, Tryd.ntmps4
  go_wp2_with fail
  refine (S.out _ (plc_alloc PL.out _)).mono ?_
  rintro e w1 ⟨rfl, hb1⟩
  go_wp2
  go_ret
  exact ⟨rfl, by (repeat' (first | exact Below.refl _ _ | refine bstep ?_ hb1 | refine Below.setCell ?_ (by simp <;> omega) _ | refine balloc ?_ _ | refine Below.drew ?_ | refine bdrewN ?_ _))⟩
set_option maxRecDepth 100000 in
set_option maxHeartbeats 4000000 in
theorem mun_no0 (a : Option Addr) (n cap : Nat) (a' : Option Addr) (m cap' : Nat) (p : P3) (t : Int) (hw : IntKind.i64.wrap ((n : Int) + (m : Int)) = t) (R R' : Mo) (E E' : Int) (w : World) (pl : Plc w) (h : decide (96 < t) = false) (O0 : Hid (∀ W, Below w.heap.size w W → Calls Tryd.prog 10 #[.slice a n cap, ptv p] W fun e w' => e = .returned (.tuple #[mov R, .int .i64 E]) ∧ Below W.heap.size W w')) (O1 : Hid (∀ W, Below w.heap.size w W → Calls Tryd.prog 10 #[.slice a' m cap', ptv p] W fun e w' => e = .returned (.tuple #[mov R', .int .i64 E']) ∧ Below W.heap.size W w')) (z : (E != 0) = true) (S : Hid (∀ W, Plc W → Calls Tryd.prog 9 #[] W fun e w' => e = .returned (.bool true) ∧ Below W.heap.size W w')) : Calls Tryd.prog 4 #[.slice a n cap, .slice a' m cap', ptv p] w fun e w' => e = .returned (.bool true) ∧ Below w.heap.size w w' := by
  have PL := Lib.hid pl
  have gz : 0 < w.heap.size := pl.2
  clear pl
  go_enter Tryd.func4, Tryd.ntmps4
  have PP := Lib.hid (own_new w p 24)
  have B0 := Lib.hid (balloc (Below.refl _ w) (ptc p 24))
  have PP' := PP.out
  obtain ⟨a1, a2, a3, a4, a5, a6, a7⟩ := PP'
  go_wp2_with fail
  refine (O0.out _ B0.out).mono ?_
  rintro e w1 ⟨rfl, hb1⟩
  clear a1 a2 a3 a4 a5 a6 a7
  have LG := Lib.hid (show w.heap.size < w1.heap.size from Nat.lt_of_lt_of_le PP.out.2.2.2.2.2.2 hb1.size)
  have PP := Lib.hid (own_alloc (own_below PP.out hb1) (mob R 28))
  have PX := Lib.hid (ownMo_new w1 R 28)
  have B1 := Lib.hid (balloc (bstep B0.out hb1) (mob R 28))
  clear hb1 B0
  have PP' := PP.out
  obtain ⟨a1, a2, a3, a4, a5, a6, a7⟩ := PP'
  go_wp2_with fail
  refine (O1.out _ B1.out).mono ?_
  rintro e w2 ⟨rfl, hb2⟩
  clear a1 a2 a3 a4 a5 a6 a7
  have LH := Lib.hid (show w1.heap.size < w2.heap.size from Nat.lt_of_lt_of_le PX.out.2.2 hb2.size)
  have PP := Lib.hid (own_alloc (own_below PP.out hb2) (mob R' 28))
  have PX := Lib.hid (ownMo_alloc (ownMo_below PX.out hb2) (mob R' 28))
  have PY := Lib.hid (ownMo_new w2 R' 28)
  have B2 := Lib.hid (balloc (bstep B1.out hb2) (mob R' 28))
  clear hb2 B1
  go_wp2_with fail
  refine (S.out _ (plc_in PL.out B2.out gz)).mono ?_
  rintro e w3 ⟨rfl, hb3⟩
  have B3 := bstep B2.out hb3
  go_wp2
  go_ret
  exact ⟨rfl, B3⟩
set_option maxRecDepth 100000 in
set_option maxHeartbeats 4000000 in
theorem mun_no1 (a : Option Addr) (n cap : Nat) (a' : Option Addr) (m cap' : Nat) (p : P3) (t : Int) (hw : IntKind.i64.wrap ((n : Int) + (m : Int)) = t) (R R' : Mo) (E' : Int) (w : World) (pl : Plc w) (h : decide (96 < t) = false) (O0 : Hid (∀ W, Below w.heap.size w W → Calls Tryd.prog 10 #[.slice a n cap, ptv p] W fun e w' => e = .returned (.tuple #[mov R, .int .i64 0]) ∧ Below W.heap.size W w')) (O1 : Hid (∀ W, Below w.heap.size w W → Calls Tryd.prog 10 #[.slice a' m cap', ptv p] W fun e w' => e = .returned (.tuple #[mov R', .int .i64 E']) ∧ Below W.heap.size W w')) (z : (E' != 0) = true) (S : Hid (∀ W, Plc W → Calls Tryd.prog 9 #[] W fun e w' => e = .returned (.bool true) ∧ Below W.heap.size W w')) : Calls Tryd.prog 4 #[.slice a n cap, .slice a' m cap', ptv p] w fun e w' => e = .returned (.bool true) ∧ Below w.heap.size w w' := by
  have PL := Lib.hid pl
  have gz : 0 < w.heap.size := pl.2
  clear pl
  go_enter Tryd.func4, Tryd.ntmps4
  have PP := Lib.hid (own_new w p 24)
  have B0 := Lib.hid (balloc (Below.refl _ w) (ptc p 24))
  have PP' := PP.out
  obtain ⟨a1, a2, a3, a4, a5, a6, a7⟩ := PP'
  go_wp2_with fail
  refine (O0.out _ B0.out).mono ?_
  rintro e w1 ⟨rfl, hb1⟩
  clear a1 a2 a3 a4 a5 a6 a7
  have LG := Lib.hid (show w.heap.size < w1.heap.size from Nat.lt_of_lt_of_le PP.out.2.2.2.2.2.2 hb1.size)
  have PP := Lib.hid (own_alloc (own_below PP.out hb1) (mob R 28))
  have PX := Lib.hid (ownMo_new w1 R 28)
  have B1 := Lib.hid (balloc (bstep B0.out hb1) (mob R 28))
  clear hb1 B0
  have PP' := PP.out
  obtain ⟨a1, a2, a3, a4, a5, a6, a7⟩ := PP'
  go_wp2_with fail
  refine (O1.out _ B1.out).mono ?_
  rintro e w2 ⟨rfl, hb2⟩
  clear a1 a2 a3 a4 a5 a6 a7
  have LH := Lib.hid (show w1.heap.size < w2.heap.size from Nat.lt_of_lt_of_le PX.out.2.2 hb2.size)
  have PP := Lib.hid (own_alloc (own_below PP.out hb2) (mob R' 28))
  have PX := Lib.hid (ownMo_alloc (ownMo_below PX.out hb2) (mob R' 28))
  have PY := Lib.hid (ownMo_new w2 R' 28)
  have B2 := Lib.hid (balloc (bstep B1.out hb2) (mob R' 28))
  clear hb2 B1
  go_wp2_with fail
  refine (S.out _ (plc_in PL.out B2.out gz)).mono ?_
  rintro e w3 ⟨rfl, hb3⟩
  have B3 := bstep B2.out hb3
  go_wp2
  go_ret
  exact ⟨rfl, B3⟩
set_option maxRecDepth 100000 in
set_option maxHeartbeats 4000000 in
theorem mun_ok (a : Option Addr) (n cap : Nat) (a' : Option Addr) (m cap' : Nat) (p : P3) (t : Int) (hw : IntKind.i64.wrap ((n : Int) + (m : Int)) = t) (Q Q' : Nat → Ch) (R R' R2 : Mo) (w : World) (pl : Plc w) (h : decide (96 < t) = false) (hn : n + m ≤ 96) (O0 : Hid (∀ W, Below w.heap.size w W → Calls Tryd.prog 10 #[.slice a n cap, ptv p] W fun e w' => e = .returned (.tuple #[mov R, .int .i64 0]) ∧ Below W.heap.size W w')) (O1 : Hid (∀ W, Below w.heap.size w W → Calls Tryd.prog 10 #[.slice a' m cap', ptv p] W fun e w' => e = .returned (.tuple #[mov R', .int .i64 0]) ∧ Below W.heap.size W w'))
    (O2 : Hid (∀ W ao c', Plc W → LstC W ao (n + m) (joinQ Q n Q') → Calls Tryd.prog 10 #[.slice ao (n + m) c', ptv p] W fun e w' => e = .returned (.tuple #[mov R2, .int .i64 0]) ∧ Below W.heap.size W w'))
    (AD : Hid (∀ W, Calls Tryd.prog 14 #[mov R, mov R'] W fun e w' => e = .returned (.tuple #[mov R2, .int .i64 0]) ∧ Below W.heap.size W w')) (r : LstC w a n Q) (r' : LstC w a' m Q') (S : Hid (∀ W, Plc W → Calls Tryd.prog 9 #[] W fun e w' => e = .returned (.bool true) ∧ Below W.heap.size W w')) : Calls Tryd.prog 4 #[.slice a n cap, .slice a' m cap', ptv p] w fun e w' => e = .returned (.bool true) ∧ Below w.heap.size w w' := by
  have PL := Lib.hid pl
  have gz : 0 < w.heap.size := pl.2
  clear pl
  have HN := Lib.hid hn
  have R0 := Lib.hid r
  have R1 := Lib.hid r'
  clear hn r r'
  go_enter Tryd.func4, Tryd.ntmps4
  have PP := Lib.hid (own_new w p 24)
  have B0 := Lib.hid (balloc (Below.refl _ w) (ptc p 24))
  have PP' := PP.out
  obtain ⟨a1, a2, a3, a4, a5, a6, a7⟩ := PP'
  go_wp2_with fail
  refine (O0.out _ B0.out).mono ?_
  rintro e w1 ⟨rfl, hb1⟩
  clear a1 a2 a3 a4 a5 a6 a7
  have LG := Lib.hid (show w.heap.size < w1.heap.size from Nat.lt_of_lt_of_le PP.out.2.2.2.2.2.2 hb1.size)
  have PP := Lib.hid (own_alloc (own_below PP.out hb1) (mob R 28))
  have PX := Lib.hid (ownMo_new w1 R 28)
  have B1 := Lib.hid (balloc (bstep B0.out hb1) (mob R 28))
  clear hb1 B0
  have PP' := PP.out
  obtain ⟨a1, a2, a3, a4, a5, a6, a7⟩ := PP'
  go_wp2_with fail
  refine (O1.out _ B1.out).mono ?_
  rintro e w2 ⟨rfl, hb2⟩
  clear a1 a2 a3 a4 a5 a6 a7
  have LH := Lib.hid (show w1.heap.size < w2.heap.size from Nat.lt_of_lt_of_le PX.out.2.2 hb2.size)
  have PP := Lib.hid (own_alloc (own_below PP.out hb2) (mob R' 28))
  have PX := Lib.hid (ownMo_alloc (ownMo_below PX.out hb2) (mob R' 28))
  have PY := Lib.hid (ownMo_new w2 R' 28)
  have B2 := Lib.hid (balloc (bstep B1.out hb2) (mob R' 28))
  clear hb2 B1
  have UN0 : UNB w (w2.alloc (mob R' 28)) w1.heap.size w2.heap.size (w2.alloc (mob R' 28)).heap.size p R R' := ⟨PP.out, PX.out, PY.out, B2.out, LG.out, LH.out, by simp, Nat.le_refl _⟩
  clear PP PX PY B2 LG LH
  go_wp2
  generalize (w2.alloc (mob R' 28)) = W2 at *
  have UN := Lib.hid UN0
  have M0 := Lib.hid (show (W2.alloc (.cells #[] 41)).ownsRow W2.heap.size 41 10 (.slice (some ⟨W2.heap.size, 0, none⟩) 0 0) 0 [] from World.ownsRow_made (base := W2.heap.size) (e := 41) (size := 10) W2 #[] 0 (Nat.le_refl _) (by decide) rfl)
  have M1 := Lib.hid (show ((W2.alloc (mob0 28)).alloc (.cells #[] 41)).ownsRow W2.heap.size 41 10 (.slice (some ⟨W2.heap.size + 1, 0, none⟩) 0 0) 0 [] by
    have z := World.ownsRow_made (base := W2.heap.size) (e := 41) (size := 10) (W2.alloc (mob0 28)) #[] 0 (by simp) (by decide) rfl
    simp only [World.size_alloc] at z
    exact z)
  clear UN0
  go_region_held3 (fun w' => (w'.cell? ⟨w.heap.size, 0, none⟩ = some (.int .i64 p.1) ∧ w'.cell? ⟨w.heap.size, 1, none⟩ = some (.int .i64 p.2.1) ∧ w'.cell? ⟨w.heap.size, 2, none⟩ = some (.int .i64 p.2.2)) ∧ UNB w w' w1.heap.size w2.heap.size W2.heap.size p R R')
    (first | with_reducible exact s_of (un_drew UN.out) | with_reducible exact s_of (un_drew (un_alloc UN.out _)) | with_reducible exact s_of (un_drew (un_alloc (un_alloc UN.out _) _)) | with_reducible exact s_of HU.out | with_reducible exact s_of UN4.out | with_reducible exact s_of (un_alloc UN4.out _) | with_reducible exact s_alloc (by assumption) _ | (with_reducible refine s_put (by assumption) ?_; (first | exact Nat.le_refl _ | exact Nat.le_succ _ | omega | (simp; done) | (simp <;> omega))))
    (first | ((refine step_un1 (w := w) (g1 := w1.heap.size) (g2 := w2.heap.size) (B := W2.heap.size) (p := p) (R := R) (R' := R') (g := W2.heap.size) rfl (.tmp 42) (.tmp 43) rfl (by simp [Act.eval]) a n cap (by simp [Act.eval]) (by first | exact World.ownsRow.drew M0.out | exact World.ownsRow.drew (M0.out.alloc _)) (s_un (by assumption)) Q R0.out (by have := HN.out; omega) ?_); intro va wa hO hU hZ1; have OW := Lib.hid hO; have HU := Lib.hid hU; have HZ1 := Lib.hid hZ1; have hs1 := hU.2.2.2.2.2.2.2; clear hO hU hZ1) | ((refine step_un1 (w := w) (g1 := w1.heap.size) (g2 := w2.heap.size) (B := W2.heap.size) (p := p) (R := R) (R' := R') (g := W2.heap.size + 1) rfl (.tmp 42) (.tmp 43) rfl (by simp [Act.eval]) a n cap (by simp [Act.eval]) (by first | exact World.ownsRow.drew M1.out) (s_un (by assumption)) Q R0.out (by have := HN.out; omega) ?_); intro va wa hO hU hZ1; have OW := Lib.hid hO; have HU := Lib.hid hU; have HZ1 := Lib.hid hZ1; have hs1 := hU.2.2.2.2.2.2.2; clear hO hU hZ1) | ((refine step_un2 (w := w) (g1 := w1.heap.size) (g2 := w2.heap.size) (B := W2.heap.size) (p := p) (R := R) (R' := R') (v := va) (n := n) (Q := Q) rfl (.tmp 44) (.tmp 45) rfl (by simp [Act.eval]) a' m cap' (by simp [Act.eval]) (by first | exact OW.out | exact OW.out.alloc _) (s_un (by assumption)) Q' R1.out HN.out ?_); intro ao c2 wb hL hU hZ2; have LL := Lib.hid hL; have HU := Lib.hid hU; have HZ2 := Lib.hid hZ2; have hs2 := hU.2.2.2.2.2.2.2; clear hL hU hZ2) | (go_at_call 10; (refine (O2.out _ _ _ (plc_in PL.out (s_bl (w := w) (g1 := w1.heap.size) (g2 := w2.heap.size) (B := W2.heap.size) (p := p) (R := R) (R' := R') (by assumption)) gz) (by first | exact LL.out | exact lstC_below LL.out ((Below.refl _ _).alloc (Nat.le_refl _) _))).mono ?_); rintro e w4 ⟨rfl, hb4⟩; have hs4 := hb4.size; have UN4 := Lib.hid (un_below (s_un (w := w) (g1 := w1.heap.size) (g2 := w2.heap.size) (B := W2.heap.size) (p := p) (R := R) (R' := R') (by assumption)) hb4); have HB4 := Lib.hid hb4; clear hb4; (first | ((with_reducible refine zb_use (zb_below (HZ2.out _ (HZ1.out _ (zb_drew (zb_alloc (zb_new W2) _)))) HB4.out) ?_); rintro ZF0 ⟨z0, z1, z2, z3, z4, z5, z6, z7, z8, z9, z10⟩ ⟨f0, f1, f2, f3, f4, f5, f6, f7, f8, f9, f10⟩ zl; (try simp only [World.size_alloc] at ZF0 z0 z1 z2 z3 z4 z5 z6 z7 z8 z9 z10 f0 f1 f2 f3 f4 f5 f6 f7 f8 f9 f10 zl); have ZF := Lib.hid ZF0; clear ZF0) | ((with_reducible refine zb_use (zb_below (HZ2.out _ (HZ1.out _ (zb_drew (zb_new _)))) HB4.out) ?_); rintro ZF0 ⟨z0, z1, z2, z3, z4, z5, z6, z7, z8, z9, z10⟩ ⟨f0, f1, f2, f3, f4, f5, f6, f7, f8, f9, f10⟩ zl; (try simp only [World.size_alloc] at ZF0 z0 z1 z2 z3 z4 z5 z6 z7 z8 z9 z10 f0 f1 f2 f3 f4 f5 f6 f7 f8 f9 f10 zl); have ZF := Lib.hid ZF0; clear ZF0) | ((with_reducible refine zb_use (zb_below (HZ2.out _ (zb_new _)) HB4.out) ?_); rintro ZF0 ⟨z0, z1, z2, z3, z4, z5, z6, z7, z8, z9, z10⟩ ⟨f0, f1, f2, f3, f4, f5, f6, f7, f8, f9, f10⟩ zl; (try simp only [World.size_alloc] at ZF0 z0 z1 z2 z3 z4 z5 z6 z7 z8 z9 z10 f0 f1 f2 f3 f4 f5 f6 f7 f8 f9 f10 zl); have ZF := Lib.hid ZF0; clear ZF0) | ((with_reducible refine zb_use (zb_below (zb_new _) HB4.out) ?_); rintro ZF0 ⟨z0, z1, z2, z3, z4, z5, z6, z7, z8, z9, z10⟩ ⟨f0, f1, f2, f3, f4, f5, f6, f7, f8, f9, f10⟩ zl; (try simp only [World.size_alloc] at ZF0 z0 z1 z2 z3 z4 z5 z6 z7 z8 z9 z10 f0 f1 f2 f3 f4 f5 f6 f7 f8 f9 f10 zl); have ZF := Lib.hid ZF0; clear ZF0) | skip)) | fail)
  all_goals
    clear M0 M1
    (first
      | ((with_reducible refine use2 (un_step (W1 := (((((((((((w4.setCell ⟨wb.heap.size, 0, none⟩ (.int .i64 R2.c)).setCell ⟨wb.heap.size, 1, none⟩ (.int .i64 R2.t)).setCell ⟨wb.heap.size, 2, none⟩ (.int .i64 R2.d.1)).setCell ⟨wb.heap.size, 3, none⟩ (.int .i64 R2.d.2.1)).setCell ⟨wb.heap.size, 4, none⟩ (.int .i64 R2.d.2.2)).setCell ⟨wb.heap.size, 5, none⟩ (.int .i64 R2.s0)).setCell ⟨wb.heap.size, 6, none⟩ (.int .i64 R2.s1)).setCell ⟨wb.heap.size, 7, none⟩ (.int .i64 R2.s2)).setCell ⟨wb.heap.size, 8, none⟩ (.int .i64 R2.s3)).setCell ⟨wb.heap.size, 9, none⟩ (.int .i64 R2.s4)).setCell ⟨wb.heap.size, 10, none⟩ (.int .i64 R2.s5))) UN4.out (below_put11 (Below.refl W2.heap.size w4) (hs2))) (ownMo_put11 (zb_own (show zb w4 (wb.heap.size) from ZF.out)) R2) ?_); intro UF0 OG0; with_reducible generalize (((((((((((w4.setCell ⟨wb.heap.size, 0, none⟩ (.int .i64 R2.c)).setCell ⟨wb.heap.size, 1, none⟩ (.int .i64 R2.t)).setCell ⟨wb.heap.size, 2, none⟩ (.int .i64 R2.d.1)).setCell ⟨wb.heap.size, 3, none⟩ (.int .i64 R2.d.2.1)).setCell ⟨wb.heap.size, 4, none⟩ (.int .i64 R2.d.2.2)).setCell ⟨wb.heap.size, 5, none⟩ (.int .i64 R2.s0)).setCell ⟨wb.heap.size, 6, none⟩ (.int .i64 R2.s1)).setCell ⟨wb.heap.size, 7, none⟩ (.int .i64 R2.s2)).setCell ⟨wb.heap.size, 8, none⟩ (.int .i64 R2.s3)).setCell ⟨wb.heap.size, 9, none⟩ (.int .i64 R2.s4)).setCell ⟨wb.heap.size, 10, none⟩ (.int .i64 R2.s5)) = W5 at *; have UF := Lib.hid UF0; have OG := Lib.hid OG0; clear UF0 OG0 z0 z1 z2 z3 z4 z5 z6 z7 z8 z9 z10 f0 f1 f2 f3 f4 f5 f6 f7 f8 f9 f10 zl ZF)
      | ((with_reducible refine use2 (un_step (W1 := (((((((((((w4.setCell ⟨wa.heap.size, 0, none⟩ (.int .i64 R2.c)).setCell ⟨wa.heap.size, 1, none⟩ (.int .i64 R2.t)).setCell ⟨wa.heap.size, 2, none⟩ (.int .i64 R2.d.1)).setCell ⟨wa.heap.size, 3, none⟩ (.int .i64 R2.d.2.1)).setCell ⟨wa.heap.size, 4, none⟩ (.int .i64 R2.d.2.2)).setCell ⟨wa.heap.size, 5, none⟩ (.int .i64 R2.s0)).setCell ⟨wa.heap.size, 6, none⟩ (.int .i64 R2.s1)).setCell ⟨wa.heap.size, 7, none⟩ (.int .i64 R2.s2)).setCell ⟨wa.heap.size, 8, none⟩ (.int .i64 R2.s3)).setCell ⟨wa.heap.size, 9, none⟩ (.int .i64 R2.s4)).setCell ⟨wa.heap.size, 10, none⟩ (.int .i64 R2.s5))) UN4.out (below_put11 (Below.refl W2.heap.size w4) (hs1))) (ownMo_put11 (zb_own (show zb w4 (wa.heap.size) from ZF.out)) R2) ?_); intro UF0 OG0; with_reducible generalize (((((((((((w4.setCell ⟨wa.heap.size, 0, none⟩ (.int .i64 R2.c)).setCell ⟨wa.heap.size, 1, none⟩ (.int .i64 R2.t)).setCell ⟨wa.heap.size, 2, none⟩ (.int .i64 R2.d.1)).setCell ⟨wa.heap.size, 3, none⟩ (.int .i64 R2.d.2.1)).setCell ⟨wa.heap.size, 4, none⟩ (.int .i64 R2.d.2.2)).setCell ⟨wa.heap.size, 5, none⟩ (.int .i64 R2.s0)).setCell ⟨wa.heap.size, 6, none⟩ (.int .i64 R2.s1)).setCell ⟨wa.heap.size, 7, none⟩ (.int .i64 R2.s2)).setCell ⟨wa.heap.size, 8, none⟩ (.int .i64 R2.s3)).setCell ⟨wa.heap.size, 9, none⟩ (.int .i64 R2.s4)).setCell ⟨wa.heap.size, 10, none⟩ (.int .i64 R2.s5)) = W5 at *; have UF := Lib.hid UF0; have OG := Lib.hid OG0; clear UF0 OG0 z0 z1 z2 z3 z4 z5 z6 z7 z8 z9 z10 f0 f1 f2 f3 f4 f5 f6 f7 f8 f9 f10 zl ZF)
      | ((with_reducible refine use2 (un_step (W1 := (((((((((((w4.setCell ⟨W2.heap.size + 1, 0, none⟩ (.int .i64 R2.c)).setCell ⟨W2.heap.size + 1, 1, none⟩ (.int .i64 R2.t)).setCell ⟨W2.heap.size + 1, 2, none⟩ (.int .i64 R2.d.1)).setCell ⟨W2.heap.size + 1, 3, none⟩ (.int .i64 R2.d.2.1)).setCell ⟨W2.heap.size + 1, 4, none⟩ (.int .i64 R2.d.2.2)).setCell ⟨W2.heap.size + 1, 5, none⟩ (.int .i64 R2.s0)).setCell ⟨W2.heap.size + 1, 6, none⟩ (.int .i64 R2.s1)).setCell ⟨W2.heap.size + 1, 7, none⟩ (.int .i64 R2.s2)).setCell ⟨W2.heap.size + 1, 8, none⟩ (.int .i64 R2.s3)).setCell ⟨W2.heap.size + 1, 9, none⟩ (.int .i64 R2.s4)).setCell ⟨W2.heap.size + 1, 10, none⟩ (.int .i64 R2.s5))) UN4.out (below_put11 (Below.refl W2.heap.size w4) (Nat.le_succ _))) (ownMo_put11 (zb_own (show zb w4 (W2.heap.size + 1) from ZF.out)) R2) ?_); intro UF0 OG0; with_reducible generalize (((((((((((w4.setCell ⟨W2.heap.size + 1, 0, none⟩ (.int .i64 R2.c)).setCell ⟨W2.heap.size + 1, 1, none⟩ (.int .i64 R2.t)).setCell ⟨W2.heap.size + 1, 2, none⟩ (.int .i64 R2.d.1)).setCell ⟨W2.heap.size + 1, 3, none⟩ (.int .i64 R2.d.2.1)).setCell ⟨W2.heap.size + 1, 4, none⟩ (.int .i64 R2.d.2.2)).setCell ⟨W2.heap.size + 1, 5, none⟩ (.int .i64 R2.s0)).setCell ⟨W2.heap.size + 1, 6, none⟩ (.int .i64 R2.s1)).setCell ⟨W2.heap.size + 1, 7, none⟩ (.int .i64 R2.s2)).setCell ⟨W2.heap.size + 1, 8, none⟩ (.int .i64 R2.s3)).setCell ⟨W2.heap.size + 1, 9, none⟩ (.int .i64 R2.s4)).setCell ⟨W2.heap.size + 1, 10, none⟩ (.int .i64 R2.s5)) = W5 at *; have UF := Lib.hid UF0; have OG := Lib.hid OG0; clear UF0 OG0 z0 z1 z2 z3 z4 z5 z6 z7 z8 z9 z10 f0 f1 f2 f3 f4 f5 f6 f7 f8 f9 f10 zl ZF)
      | ((with_reducible refine use2 (un_step (W1 := (((((((((((w4.setCell ⟨W2.heap.size, 0, none⟩ (.int .i64 R2.c)).setCell ⟨W2.heap.size, 1, none⟩ (.int .i64 R2.t)).setCell ⟨W2.heap.size, 2, none⟩ (.int .i64 R2.d.1)).setCell ⟨W2.heap.size, 3, none⟩ (.int .i64 R2.d.2.1)).setCell ⟨W2.heap.size, 4, none⟩ (.int .i64 R2.d.2.2)).setCell ⟨W2.heap.size, 5, none⟩ (.int .i64 R2.s0)).setCell ⟨W2.heap.size, 6, none⟩ (.int .i64 R2.s1)).setCell ⟨W2.heap.size, 7, none⟩ (.int .i64 R2.s2)).setCell ⟨W2.heap.size, 8, none⟩ (.int .i64 R2.s3)).setCell ⟨W2.heap.size, 9, none⟩ (.int .i64 R2.s4)).setCell ⟨W2.heap.size, 10, none⟩ (.int .i64 R2.s5))) UN4.out (below_put11 (Below.refl W2.heap.size w4) (Nat.le_refl _))) (ownMo_put11 (zb_own (show zb w4 (W2.heap.size) from ZF.out)) R2) ?_); intro UF0 OG0; with_reducible generalize (((((((((((w4.setCell ⟨W2.heap.size, 0, none⟩ (.int .i64 R2.c)).setCell ⟨W2.heap.size, 1, none⟩ (.int .i64 R2.t)).setCell ⟨W2.heap.size, 2, none⟩ (.int .i64 R2.d.1)).setCell ⟨W2.heap.size, 3, none⟩ (.int .i64 R2.d.2.1)).setCell ⟨W2.heap.size, 4, none⟩ (.int .i64 R2.d.2.2)).setCell ⟨W2.heap.size, 5, none⟩ (.int .i64 R2.s0)).setCell ⟨W2.heap.size, 6, none⟩ (.int .i64 R2.s1)).setCell ⟨W2.heap.size, 7, none⟩ (.int .i64 R2.s2)).setCell ⟨W2.heap.size, 8, none⟩ (.int .i64 R2.s3)).setCell ⟨W2.heap.size, 9, none⟩ (.int .i64 R2.s4)).setCell ⟨W2.heap.size, 10, none⟩ (.int .i64 R2.s5)) = W5 at *; have UF := Lib.hid UF0; have OG := Lib.hid OG0; clear UF0 OG0 z0 z1 z2 z3 z4 z5 z6 z7 z8 z9 z10 f0 f1 f2 f3 f4 f5 f6 f7 f8 f9 f10 zl ZF)
      | ((with_reducible refine use2 (un_alloc UN4.out (mob R2 28)) (ownMo_new w4 R2 28) ?_); intro UF0 OG0; with_reducible generalize (w4.alloc (mob R2 28)) = W5 at *; have UF := Lib.hid UF0; have OG := Lib.hid OG0; clear UF0 OG0)
      | fail)
    clear HU UN4 HB4 HZ1 HZ2 OW LL UN
    have PX := Lib.hid UF.out.2.1
    have PY := Lib.hid UF.out.2.2.1
    have BF := Lib.hid UF.out.2.2.2.1
    clear UF
    have PX' := PX.out
    obtain ⟨⟨x0, x1, x2, x3, x4, x5, x6, x7, x8, x9, x10⟩, _, lx⟩ := PX'
    have PY' := PY.out
    obtain ⟨⟨y0, y1, y2, y3, y4, y5, y6, y7, y8, y9, y10⟩, _, ly⟩ := PY'
    go_wp2_with fail
    refine (AD.out _).mono ?_
    rintro e w6 ⟨rfl, hb6⟩
    clear x0 x1 x2 x3 x4 x5 x6 x7 x8 x9 x10 lx y0 y1 y2 y3 y4 y5 y6 y7 y8 y9 y10 ly PX PY
    have OG6 := Lib.hid (ownMo_below OG.out hb6)
    have B6 := Lib.hid (bstep BF.out hb6)
    clear hb6 OG BF
    have OG' := OG6.out
    obtain ⟨⟨v0, v1, v2, v3, v4, v5, v6, v7, v8, v9, v10⟩, _, lv⟩ := OG'
    have e6 := same6 9998
    have e7 := same6 9997
    go_wp2_with fail
    refine (S.out _ (plc_in PL.out (balloc B6.out (mob R2 28)) gz)).mono ?_
    rintro e w7 ⟨rfl, hb7⟩
    have B7 := bstep (balloc B6.out (mob R2 28)) hb7
    clear v0 v1 v2 v3 v4 v5 v6 v7 v8 v9 v10 lv
    go_wp2
    go_ret
    exact ⟨rfl, B7⟩
theorem mun_walk (a : Option Addr) (n cap : Nat) (a' : Option Addr) (m cap' : Nat) (p : P3) (Q Q' : Nat → Ch) (w : World) (pl : Plc w) (hm : n ≤ maxLen) (r : LstC w a n Q) (hm' : m ≤ maxLen) (r' : LstC w a' m Q') : Calls Tryd.prog 4 #[.slice a n cap, .slice a' m cap', ptv p] w fun e w' => e = .returned (.bool true) ∧ Below w.heap.size w w' := by
  unfold maxLen at hm hm'
  have S : Hid (∀ W, Plc W → Calls Tryd.prog 9 #[] W fun e w' => e = .returned (.bool true) ∧ Below W.heap.size W w') := Lib.hid fun W p => sane_any W p
  have o0 := fun W (B : Below w.heap.size w W) => of_all a n cap Q p W (plc_in pl B pl.2) (lstC_below r B) (by omega)
  have o1 := fun W (B : Below w.heap.size w W) => of_all a' m cap' Q' p W (plc_in pl B pl.2) (lstC_below r' B) (by omega)
  cases h : decide (96 < IntKind.i64.wrap ((n : Int) + (m : Int))) with
  | true => exact mun_big a n cap a' m cap' p _ rfl w pl h S
  | false =>
    by_cases z0 : ocode n Q p = 0
    · by_cases z1 : ocode m Q' p = 0
      · have l0 := (ocode_ok2 z0).1
        have l1 := (ocode_ok2 z1).1
        have e : IntKind.i64.wrap ((n : Int) + (m : Int)) = (n : Int) + (m : Int) := IntWalk.i64_in _ (by omega)
        have hs : n + m ≤ 96 := by
          rw [e] at h
          have := of_decide_eq_false h
          omega
        obtain ⟨y, ad⟩ := uni_ad z0 z1 hs
        rw [if_pos z0, z0] at o0
        rw [if_pos z1, z1] at o1
        have ha := fun W => mad_any (mof p Q n) (mof p Q' m) W
        rw [ad] at ha
        refine mun_ok a n cap a' m cap' p _ rfl Q Q' _ _ _ w pl h hs (Lib.hid o0) (Lib.hid o1) (Lib.hid fun W ao c' pl' L => ?_) (Lib.hid ha) r r' S
        have z := of_any ao (n + m) c' (joinQ Q n Q') p W pl' L (by omega)
        rw [if_pos y, y] at z
        exact z
      · rw [if_pos z0, z0] at o0
        exact mun_no1 a n cap a' m cap' p _ rfl _ _ _ w pl h (Lib.hid o0) (Lib.hid o1) (int_ne0 z1) S
    · exact mun_no0 a n cap a' m cap' p _ rfl _ _ _ _ w pl h (Lib.hid o0) (Lib.hid o1) (int_ne0 z0) S

end Go.Proofs.YtjflgiegnibgmaaDoor
