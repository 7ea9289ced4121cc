/-
  The contracts of the places that Move, Scale, Turn and Mirror give to points, and of placed.
-/
import Derived.Test.YtfpenkgkcjpknaaClone0
import Derived.Test.YtfpenkgkcjpknaaRBlock
namespace Go.Proofs.Ytfpenkgkcjpknaa
open Go.ChangeShapes Go.WideShapes Go.RowKit
open Sh
def turnP (p : P3) : P3 := (-p.2.1, p.1, p.2.2)
def mirP (p : P3) : P3 := (-p.1, p.2.1, p.2.2)
/-- a number of the call's own -/
def Cel (w : World) (b : Nat) (k : Int) : Prop := w.cell? ⟨b, 0, none⟩ = some (.int .i64 k) ∧ b < w.heap.size
theorem cel_new (w : World) (k : Int) (t : TypeId) : Cel (w.alloc (.cells #[.int .i64 k] t)) w.heap.size k := ⟨by go_simp, by simp⟩
theorem cel_below {w w1 : World} {b : Nat} {k : Int} (h : Cel w b k) (hb : Below w.heap.size w w1) : Cel w1 b k := ⟨(hb.cell (p := ⟨b, 0, none⟩) h.2).trans h.1, Nat.lt_of_lt_of_le h.2 hb.size⟩
/-- the first k points have their new places -/
def upd (h P : Nat → P3) (k i : Nat) : P3 := if i < k then h i else P i
theorem upd_zero (h P : Nat → P3) (i : Nat) : P i = upd h P 0 i := (if_neg (Nat.not_lt_zero i)).symm
theorem upd_at (h P : Nat → P3) (k : Nat) : upd h P k k = P k := if_neg (Nat.lt_irrefl k)
theorem upd_succ (h P : Nat → P3) (k i : Nat) : (if i = k then h k else upd h P k i) = upd h P (k + 1) i := by
  unfold upd
  by_cases e : i = k
  · subst e; rw [if_pos rfl, if_pos (Nat.lt_succ_self i)]
  · rw [if_neg e]
    by_cases l : i < k
    · rw [if_pos l, if_pos (by omega)]
    · rw [if_neg l, if_neg (by omega)]
theorem upd_end (h P : Nat → P3) (n i : Nat) (l : i < n) : upd h P n i = h i := if_pos l
/-- what placed answers: new memory for both lists -/
def Placed (np nf : Nat) (h F : Nat → P3) (w : World) (e : Ending) (w' : World) : Prop :=
  ∃ a c a' c', e = .returned (msv a np c a' nf c') ∧ LstW w' w.heap.size a np h ∧ LstW w' w.heap.size a' nf F ∧ Below w.heap.size w w'
theorem mes_sets {w : World} {q r x : Nat} {u v z : Value} {a : Option Addr} {n c : Nat} {a' : Option Addr} {n' c' : Nat} (h : Mes w q a n c a' n' c') (k : r ≠ q) : Mes (((w.setCell ⟨r, x, none⟩ u).setCell ⟨r, x + 1, none⟩ v).setCell ⟨r, x + 2, none⟩ z) q a n c a' n' c' := mes_set (mes_set (mes_set h k) k) k
theorem ownMs_sets {w : World} {q r x : Nat} {u v z : Value} {y y' : Value} (h : OwnMs w q y y') (k : r ≠ q) : OwnMs (((w.setCell ⟨r, x, none⟩ u).setCell ⟨r, x + 1, none⟩ v).setCell ⟨r, x + 2, none⟩ z) q y y' := ownMs_set (ownMs_set (ownMs_set h k) k) k
theorem below_sets {a w : World} {r x : Nat} {u v z : Value} (h : Below a.heap.size a w) (n : a.heap.size ≤ r) : Below a.heap.size a (((w.setCell ⟨r, x, none⟩ u).setCell ⟨r, x + 1, none⟩ v).setCell ⟨r, x + 2, none⟩ z) := ((h.setCell n _).setCell n _).setCell n _
theorem lstw_put2 {w : World} {base : Nat} {a : Option Addr} {n : Nat} {f : Nat → P3} {r : Nat} {x y : Value} (h : LstW w base a n f) (k : r < base) : LstW ((w.setCell ⟨r, 0, none⟩ x).setCell ⟨r, 1, none⟩ y) base a n f := fun h0 => by
  obtain ⟨b, e, l, q⟩ := h h0
  exact ⟨b, e, l, row3w_set (row3w_set q (by omega)) (by omega)⟩
theorem lstw_mono {w : World} {base base' : Nat} {a : Option Addr} {n : Nat} {f : Nat → P3} (h : LstW w base a n f) (k : base' ≤ base) : LstW w base' a n f := fun h0 => by
  obtain ⟨b, e, l, q⟩ := h h0
  exact ⟨b, e, Nat.le_trans k l, q⟩
theorem row3w_alloc {w : World} {b n : Nat} {f : Nat → P3} (r : Row3W w b n f) (o : Obj) : Row3W (w.alloc o) b n f := row3w_below r ((Below.refl _ _).alloc (Nat.le_refl _) _)
theorem neg_fit {x : Int} (h1 : -1048576 ≤ x) (h2 : x ≤ 1048576) : -1048576 ≤ -x ∧ -x ≤ 1048576 := by omega
theorem kturn (p : P3) (w : World) (bd : BdP 1048576 p) :
    Calls Try.prog 27 #[ptv p] w fun e w' => e = .returned (ptv (turnP p)) ∧ Below w.heap.size w w' := by
  obtain ⟨b1, b2, b3, b4, b5, b6⟩ := bd
  go_enter Try.func27, Try.ntmps27
  go_wp2
  refine bodyPost_ret (v := ptv (turnP p)) (by rw [results_cell rfl]; go_simp; exact ⟨rfl, rfl, rfl⟩) rfl ⟨rfl, ?_⟩
  (repeat' (first | exact Below.refl _ _ | refine Below.setCell ?_ (by simp <;> omega) _ | refine balloc ?_ _ | refine Below.drew ?_ | refine bdrewN ?_ _))
theorem kmirror (p : P3) (w : World) (bd : BdP 1048576 p) :
    Calls Try.prog 31 #[ptv p] w fun e w' => e = .returned (ptv (mirP p)) ∧ Below w.heap.size w w' := by
  obtain ⟨b1, b2, b3, b4, b5, b6⟩ := bd
  go_enter Try.func31, Try.ntmps31
  go_wp2
  refine bodyPost_ret (v := ptv (mirP p)) (by rw [results_cell rfl]; go_simp; exact ⟨rfl, rfl, rfl⟩) rfl ⟨rfl, ?_⟩
  (repeat' (first | exact Below.refl _ _ | refine Below.setCell ?_ (by simp <;> omega) _ | refine balloc ?_ _ | refine Below.drew ?_ | refine bdrewN ?_ _))
set_option maxRecDepth 100000 in
set_option maxHeartbeats 2000000 in
theorem placed_turn (b off np c : Nat) (a' : Option Addr) (nf c' : Nat) (P F h : Nat → P3) (w : World) (rp : Row3 w b off np P) (rf : Lst w a' nf F) (h0 : 0 < np) (hn : np ≤ 1000000) (hm : nf ≤ 1000000)
    (C : Hid (∀ W, Below w.heap.size w W → ∀ i, i < np → Calls Try.prog 27 #[ptv (P i)] W fun e w' => e = .returned (ptv (h i)) ∧ Below W.heap.size W w')) :
    Calls Try.prog 26 #[msv (some ⟨b, off, none⟩) np c a' nf c', .func (.func 27) #[] #[]] w (Placed np nf h F w) := by
  have RP := Lib.hid rp
  have RF := Lib.hid rf
  have H0 := Lib.hid h0
  have HM := Lib.hid hm
  have HN := Lib.hid hn
  have hn' : (np : Int) ≤ 1000000 := by omega
  clear rp rf h0 hn hm
  go_enter Try.func26, Try.ntmps26
  go_wp2_with fail
  refine (clonePt _ np c P _ (fun _ => ⟨_, _, rfl, row3_alloc (row3_alloc RP.out _) _⟩) HN.out).mono ?_
  rintro e w1 ⟨a5, c5, rfl, l5, hb1⟩
  obtain ⟨g, rfl, hg, r5⟩ := l5 H0.out
  have ME := Lib.hid (mes_below (mes_alloc (mes_new w (some ⟨b, off, none⟩) np c a' nf c' 25) (.cells #[.slice none 0 0, .slice none 0 0] 25)) hb1)
  have RM := Lib.hid (by have z := ownMs_below (ownMs_new (w.alloc (msc (some ⟨b, off, none⟩) np c a' nf c' 25)) (.slice none 0 0) (.slice none 0 0) 25) hb1; simp only [World.size_alloc] at z; exact z : OwnMs w1 (w.heap.size + 1) (.slice none 0 0) (.slice none 0 0))
  have B1 := Lib.hid (bstep (balloc (balloc (Below.refl w.heap.size w) (msc (some ⟨b, off, none⟩) np c a' nf c' 25)) (.cells #[.slice none 0 0, .slice none 0 0] 25)) hb1)
  have R5 := Lib.hid (row3w_eq r5 (fun k _ => upd_zero h P k))
  simp only [World.size_alloc] at hg
  have g1 : g ≠ w.heap.size := by omega
  have g2 : g ≠ w.heap.size + 1 := by omega
  have g3 : w.heap.size ≤ g := by omega
  have GN := Lib.hid (And.intro g1 (And.intro g2 g3))
  clear l5 r5 hb1 hg g1 g2 g3
  go_wp2
  go_loopw [13] (fun kv wr => ∃ k : Nat, k ≤ np ∧ kv = .int .i64 k ∧ Row3W wr g np (upd h P k) ∧ Mes wr w.heap.size (some ⟨b, off, none⟩) np c a' nf c' ∧ OwnMs wr (w.heap.size + 1) (.slice none 0 0) (.slice none 0 0) ∧ Below w.heap.size w wr) (fun kv _ => np - (intOf kv).toNat)
  case atStart => exact ⟨0, Nat.zero_le _, rfl, R5.out, ME.out, RM.out, B1.out⟩
  case round =>
    clear ME RM B1 R5
    obtain ⟨k, hk, rfl, h1, h2, h3, h4⟩ := hrel
    have R := Lib.hid h1
    have ME := Lib.hid h2
    have RM := Lib.hid h3
    have B0 := Lib.hid h4
    clear h1 h2 h3 h4
    by_cases hlt : k < np
    · have k1 : (k : Int) < (np : Int) := by omega
      obtain ⟨⟨c1, c2, c3⟩, _⟩ := R.out.2 k hlt
      have r6 := R.out.1
      rw [upd_at] at c1 c2 c3
      have CK := Lib.hid (fun W (B : Below w.heap.size w W) => C.out W B k hlt)
      have US := Lib.hid (upd_succ h P k)
      obtain ⟨p, hp⟩ : ∃ p, P k = p := ⟨_, rfl⟩
      rw [hp] at c1 c2 c3 CK
      clear hp
      obtain ⟨q, hq⟩ : ∃ q, h k = q := ⟨_, rfl⟩
      rw [hq] at CK US
      clear hq
      go_wp2_with fail
      refine (CK.out _ (by have hB := B0.out; (repeat' (first | exact Below.refl _ _ | refine bstep ?_ hB | refine Below.setCell ?_ (by simp <;> omega) _ | refine balloc ?_ _ | refine Below.drew ?_ | refine bdrewN ?_ _)))).mono ?_
      rintro e w2 ⟨rfl, hb2⟩
      have R2 := Lib.hid (row3w_below (row3w_alloc R.out (.cells #[.int .i64 p.1, .int .i64 p.2.1, .int .i64 p.2.2] 35)) hb2)
      have ME2 := Lib.hid (mes_below (mes_alloc ME.out (.cells #[.int .i64 p.1, .int .i64 p.2.1, .int .i64 p.2.2] 35)) hb2)
      have RM2 := Lib.hid (ownMs_below (ownMs_alloc RM.out (.cells #[.int .i64 p.1, .int .i64 p.2.1, .int .i64 p.2.2] 35)) hb2)
      have B2 := Lib.hid (bstep (balloc B0.out (.cells #[.int .i64 p.1, .int .i64 p.2.1, .int .i64 p.2.2] 35)) hb2)
      clear c1 c2 c3 r6 hb2
      obtain ⟨⟨c1, c2, c3⟩, f1, f2, f3⟩ := R2.out.2 k hlt
      have r6 := R2.out.1
      go_wp2
      go_roundw
      case rel => exact ⟨k + 1, by omega, by go_num, row3w_eq (row3w_put R2.out hlt q) (fun i _ => US.out i), mes_sets ME2.out GN.out.1, ownMs_sets RM2.out GN.out.2.1, below_sets B2.out GN.out.2.2⟩
      case measure => simp [intOf]; omega
    · obtain rfl : np = k := by omega
      obtain ⟨m1, m2, m3⟩ := ME.out
      have LF := Lib.hid (lst_below RF.out B0.out)
      go_wp2_with fail
      refine (cloneFc a' nf c' F _ LF.out HM.out).mono ?_
      rintro e w3 ⟨a6, c6, rfl, l6, hb3⟩
      have L6 := Lib.hid l6
      have R3 := Lib.hid (row3w_below (row3w_eq R.out (fun i hi => upd_end h P np i hi)) hb3)
      have RM3 := Lib.hid (ownMs_below RM.out hb3)
      have B3 := Lib.hid (bstep B0.out hb3)
      have Z := Lib.hid (show w.heap.size + 1 < wr.heap.size from RM.out.2.2.2.2)
      clear l6 hb3 m1 m2 m3
      obtain ⟨m1, m2, m3, m4, m5⟩ := RM3.out
      go_wp2
      refine bodyPost_ret (v := msv (some ⟨g, 0, none⟩) np c5 a6 nf c6) (by rw [results_cell rfl]; go_simp) rfl ⟨_, _, _, _, rfl, fun _ => ⟨g, rfl, GN.out.2.2, row3w_set (row3w_set R3.out (fun e => GN.out.2.1 e.symm)) (fun e => GN.out.2.1 e.symm)⟩, lstw_mono (lstw_put2 L6.out Z.out) (by have := Z.out; omega), below_put2 B3.out (by omega)⟩
set_option maxRecDepth 100000 in
set_option maxHeartbeats 2000000 in
theorem placed_mirror (b off np c : Nat) (a' : Option Addr) (nf c' : Nat) (P F h : Nat → P3) (w : World) (rp : Row3 w b off np P) (rf : Lst w a' nf F) (h0 : 0 < np) (hn : np ≤ 1000000) (hm : nf ≤ 1000000)
    (C : Hid (∀ W, Below w.heap.size w W → ∀ i, i < np → Calls Try.prog 31 #[ptv (P i)] W fun e w' => e = .returned (ptv (h i)) ∧ Below W.heap.size W w')) :
    Calls Try.prog 26 #[msv (some ⟨b, off, none⟩) np c a' nf c', .func (.func 31) #[] #[]] w (Placed np nf h F w) := by
  have RP := Lib.hid rp
  have RF := Lib.hid rf
  have H0 := Lib.hid h0
  have HM := Lib.hid hm
  have HN := Lib.hid hn
  have hn' : (np : Int) ≤ 1000000 := by omega
  clear rp rf h0 hn hm
  go_enter Try.func26, Try.ntmps26
  go_wp2_with fail
  refine (clonePt _ np c P _ (fun _ => ⟨_, _, rfl, row3_alloc (row3_alloc RP.out _) _⟩) HN.out).mono ?_
  rintro e w1 ⟨a5, c5, rfl, l5, hb1⟩
  obtain ⟨g, rfl, hg, r5⟩ := l5 H0.out
  have ME := Lib.hid (mes_below (mes_alloc (mes_new w (some ⟨b, off, none⟩) np c a' nf c' 25) (.cells #[.slice none 0 0, .slice none 0 0] 25)) hb1)
  have RM := Lib.hid (by have z := ownMs_below (ownMs_new (w.alloc (msc (some ⟨b, off, none⟩) np c a' nf c' 25)) (.slice none 0 0) (.slice none 0 0) 25) hb1; simp only [World.size_alloc] at z; exact z : OwnMs w1 (w.heap.size + 1) (.slice none 0 0) (.slice none 0 0))
  have B1 := Lib.hid (bstep (balloc (balloc (Below.refl w.heap.size w) (msc (some ⟨b, off, none⟩) np c a' nf c' 25)) (.cells #[.slice none 0 0, .slice none 0 0] 25)) hb1)
  have R5 := Lib.hid (row3w_eq r5 (fun k _ => upd_zero h P k))
  simp only [World.size_alloc] at hg
  have g1 : g ≠ w.heap.size := by omega
  have g2 : g ≠ w.heap.size + 1 := by omega
  have g3 : w.heap.size ≤ g := by omega
  have GN := Lib.hid (And.intro g1 (And.intro g2 g3))
  clear l5 r5 hb1 hg g1 g2 g3
  go_wp2
  go_loopw [13] (fun kv wr => ∃ k : Nat, k ≤ np ∧ kv = .int .i64 k ∧ Row3W wr g np (upd h P k) ∧ Mes wr w.heap.size (some ⟨b, off, none⟩) np c a' nf c' ∧ OwnMs wr (w.heap.size + 1) (.slice none 0 0) (.slice none 0 0) ∧ Below w.heap.size w wr) (fun kv _ => np - (intOf kv).toNat)
  case atStart => exact ⟨0, Nat.zero_le _, rfl, R5.out, ME.out, RM.out, B1.out⟩
  case round =>
    clear ME RM B1 R5
    obtain ⟨k, hk, rfl, h1, h2, h3, h4⟩ := hrel
    have R := Lib.hid h1
    have ME := Lib.hid h2
    have RM := Lib.hid h3
    have B0 := Lib.hid h4
    clear h1 h2 h3 h4
    by_cases hlt : k < np
    · have k1 : (k : Int) < (np : Int) := by omega
      obtain ⟨⟨c1, c2, c3⟩, _⟩ := R.out.2 k hlt
      have r6 := R.out.1
      rw [upd_at] at c1 c2 c3
      have CK := Lib.hid (fun W (B : Below w.heap.size w W) => C.out W B k hlt)
      have US := Lib.hid (upd_succ h P k)
      obtain ⟨p, hp⟩ : ∃ p, P k = p := ⟨_, rfl⟩
      rw [hp] at c1 c2 c3 CK
      clear hp
      obtain ⟨q, hq⟩ : ∃ q, h k = q := ⟨_, rfl⟩
      rw [hq] at CK US
      clear hq
      go_wp2_with fail
      refine (CK.out _ (by have hB := B0.out; (repeat' (first | exact Below.refl _ _ | refine bstep ?_ hB | refine Below.setCell ?_ (by simp <;> omega) _ | refine balloc ?_ _ | refine Below.drew ?_ | refine bdrewN ?_ _)))).mono ?_
      rintro e w2 ⟨rfl, hb2⟩
      have R2 := Lib.hid (row3w_below (row3w_alloc R.out (.cells #[.int .i64 p.1, .int .i64 p.2.1, .int .i64 p.2.2] 35)) hb2)
      have ME2 := Lib.hid (mes_below (mes_alloc ME.out (.cells #[.int .i64 p.1, .int .i64 p.2.1, .int .i64 p.2.2] 35)) hb2)
      have RM2 := Lib.hid (ownMs_below (ownMs_alloc RM.out (.cells #[.int .i64 p.1, .int .i64 p.2.1, .int .i64 p.2.2] 35)) hb2)
      have B2 := Lib.hid (bstep (balloc B0.out (.cells #[.int .i64 p.1, .int .i64 p.2.1, .int .i64 p.2.2] 35)) hb2)
      clear c1 c2 c3 r6 hb2
      obtain ⟨⟨c1, c2, c3⟩, f1, f2, f3⟩ := R2.out.2 k hlt
      have r6 := R2.out.1
      go_wp2
      go_roundw
      case rel => exact ⟨k + 1, by omega, by go_num, row3w_eq (row3w_put R2.out hlt q) (fun i _ => US.out i), mes_sets ME2.out GN.out.1, ownMs_sets RM2.out GN.out.2.1, below_sets B2.out GN.out.2.2⟩
      case measure => simp [intOf]; omega
    · obtain rfl : np = k := by omega
      obtain ⟨m1, m2, m3⟩ := ME.out
      have LF := Lib.hid (lst_below RF.out B0.out)
      go_wp2_with fail
      refine (cloneFc a' nf c' F _ LF.out HM.out).mono ?_
      rintro e w3 ⟨a6, c6, rfl, l6, hb3⟩
      have L6 := Lib.hid l6
      have R3 := Lib.hid (row3w_below (row3w_eq R.out (fun i hi => upd_end h P np i hi)) hb3)
      have RM3 := Lib.hid (ownMs_below RM.out hb3)
      have B3 := Lib.hid (bstep B0.out hb3)
      have Z := Lib.hid (show w.heap.size + 1 < wr.heap.size from RM.out.2.2.2.2)
      clear l6 hb3 m1 m2 m3
      obtain ⟨m1, m2, m3, m4, m5⟩ := RM3.out
      go_wp2
      refine bodyPost_ret (v := msv (some ⟨g, 0, none⟩) np c5 a6 nf c6) (by rw [results_cell rfl]; go_simp) rfl ⟨_, _, _, _, rfl, fun _ => ⟨g, rfl, GN.out.2.2, row3w_set (row3w_set R3.out (fun e => GN.out.2.1 e.symm)) (fun e => GN.out.2.1 e.symm)⟩, lstw_mono (lstw_put2 L6.out Z.out) (by have := Z.out; omega), below_put2 B3.out (by omega)⟩

end Go.Proofs.Ytfpenkgkcjpknaa
