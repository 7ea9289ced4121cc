/-
  The contracts of Box, in the program and in the document's answer.
-/
import Derived.Test.YtcphdlcglaopjaaAllUsed
namespace Go.Proofs.Ytcphdlcglaopjaa
open Go.ChangeShapes Go.WideShapes Go.RowKit
open Sh
attribute [local go_sem 1000000] run_min_mn run_max_mx
theorem own_put {w : World} {b : Nat} {a : P3} (h : Own w b a) (c : P3) : Own (((w.setCell ⟨b, 0, none⟩ (.int .i64 c.1)).setCell ⟨b, 1, none⟩ (.int .i64 c.2.1)).setCell ⟨b, 2, none⟩ (.int .i64 c.2.2)) b c := by
  obtain ⟨h1, h2, h3, h4, h5, h6, h7⟩ := h
  exact ⟨by go_simp, by go_simp, by go_simp, by go_simp, by go_simp, by go_simp, by simpa using h7⟩
theorem own_put3 {w : World} {q r : Nat} {x y z : Value} {a : P3} (h : Own w q a) (n : q ≠ r) : Own (((w.setCell ⟨r, 0, none⟩ x).setCell ⟨r, 1, none⟩ y).setCell ⟨r, 2, none⟩ z) q a := own_set (own_set (own_set h n) n) n
theorem mes_set1 {w : World} {q r o : Nat} {v : Value} {a : Option Addr} {n c : Nat} {a' : Option Addr} {n' c' : Nat} (h : Mes w q a n c a' n' c') (k : r ≠ q) : Mes (w.setCell ⟨r, o, none⟩ v) q a n c a' n' c' := by
  obtain ⟨h1, h2, h3⟩ := h
  have k' : ¬ r = q := k
  have k2 : ¬ q = r := fun e => k e.symm
  exact ⟨by go_simp, by go_simp, by simpa using h3⟩
theorem mes_put3 {w : World} {q r : Nat} {x y z : Value} {a : Option Addr} {n c : Nat} {a' : Option Addr} {n' c' : Nat} (h : Mes w q a n c a' n' c') (k : r ≠ q) : Mes (((w.setCell ⟨r, 0, none⟩ x).setCell ⟨r, 1, none⟩ y).setCell ⟨r, 2, none⟩ z) q a n c a' n' c' := mes_set1 (mes_set1 (mes_set1 h k) k) k
theorem mes_drewb {w : World} {q : Nat} {a : Option Addr} {n c : Nat} {a' : Option Addr} {n' c' : Nat} (h : Mes w q a n c a' n' c') : Mes w.drew q a n c a' n' c' := h
theorem below_put3 {a w : World} {r : Nat} {x y z : Value} (h : Below a.heap.size a w) (n : a.heap.size ≤ r) : Below a.heap.size a (((w.setCell ⟨r, 0, none⟩ x).setCell ⟨r, 1, none⟩ y).setCell ⟨r, 2, none⟩ z) := ((h.setCell n _).setCell n _).setCell n _
/-- the smallest and the greatest coordinates of the first point and the first k -/
def lo3 (P : Nat → P3) : Nat → P3
  | 0 => P 0
  | k + 1 => (Sp.mn (lo3 P k).1 (P k).1, Sp.mn (lo3 P k).2.1 (P k).2.1, Sp.mn (lo3 P k).2.2 (P k).2.2)
def hi3 (P : Nat → P3) : Nat → P3
  | 0 => P 0
  | k + 1 => (Sp.mx (hi3 P k).1 (P k).1, Sp.mx (hi3 P k).2.1 (P k).2.1, Sp.mx (hi3 P k).2.2 (P k).2.2)
def mn3 (a p : P3) : P3 := (Sp.mn a.1 p.1, Sp.mn a.2.1 p.2.1, Sp.mn a.2.2 p.2.2)
def mx3 (a p : P3) : P3 := (Sp.mx a.1 p.1, Sp.mx a.2.1 p.2.1, Sp.mx a.2.2 p.2.2)
theorem results_cct {fn : Func} {p q u : Tmp} {ty ty' : TypeId} (h : fn.results = #[.cell p ty, .cell q ty', .tmp u]) (tmps : Array Value) (P : Program) (w : World) :
    (results fn tmps).run P w =
      ((asAddr (tmps.getD p undef)).run P w).andThen fun a w₁ => ((loadVar ty a).run P w₁).andThen fun x w₂ =>
      ((asAddr (tmps.getD q undef)).run P w₂).andThen fun a' w₃ => ((loadVar ty' a').run P w₃).andThen fun x' w₄ => .ok (.tuple #[x, x', tmps.getD u undef]) w₄ := by
  simp only [results, h]
  simp [Sem.run_bind, Result.andThen]
set_option maxHeartbeats 1000000 in
theorem sbox_no (a : Option Addr) (np c : Nat) (a' : Option Addr) (nf c' : Nat) (code : Int) (w : World) (V : Hid (∀ W, Below w.heap.size w W → Calls Try.prog 20 #[msv a np c a' nf c'] W fun e w' => e = .returned (.int .i64 code) ∧ Below W.heap.size W w')) (z : code ≠ 0) :
    Calls Try.prog 18 #[msv a np c a' nf c'] w fun e w' => e = .returned (.tuple #[ptv (0, 0, 0), ptv (0, 0, 0), .int .i64 code]) ∧ Below w.heap.size w w' := by
  have z1 := bne_iff_ne.2 z
  clear z
  go_enter Try.func18, Try.ntmps18
  go_wp2_with fail
  refine (V.out _ (by (repeat' (first | exact Below.refl _ _ | refine Below.setCell ?_ (by simp <;> omega) _ | refine balloc ?_ _ | refine Below.drew ?_ | refine bdrewN ?_ _)))).mono ?_
  rintro e w1 ⟨rfl, hb1⟩
  have B1 := Lib.hid (show Below w.heap.size w w1 by (repeat' (first | exact Below.refl _ _ | refine bstep ?_ hb1 | refine Below.setCell ?_ (by simp <;> omega) _ | refine balloc ?_ _ | refine Below.drew ?_ | refine bdrewN ?_ _)))
  obtain ⟨g1, g2, g3, g4, g5, g6, g7⟩ := own_below (own_alloc (own_new (w.alloc (msc a np c a' nf c' 25)) (0, 0, 0) 33) (.cells #[.int .i64 0, .int .i64 0, .int .i64 0] 33)) hb1
  obtain ⟨k1, k2, k3, k4, k5, k6, k7⟩ := own_below (own_new ((w.alloc (msc a np c a' nf c' 25)).alloc (.cells #[.int .i64 0, .int .i64 0, .int .i64 0] 33)) (0, 0, 0) 33) hb1
  simp only [World.size_alloc] at g1 g2 g3 g4 g5 g6 g7 k1 k2 k3 k4 k5 k6 k7
  go_wp2
  refine bodyPost_ret (v := .tuple #[ptv (0, 0, 0), ptv (0, 0, 0), .int .i64 code]) (by rw [results_cct rfl]; go_simp) rfl ⟨rfl, ?_⟩
  exact below_put3 (below_put3 B1.out (by omega)) (by omega)
set_option maxHeartbeats 1000000 in
theorem rbox_no (a : Option Addr) (np c : Nat) (a' : Option Addr) (nf c' : Nat) (code : Int) (w : World) (V : Hid (∀ W, Below w.heap.size w W → Calls Try.prog 21 #[msv a np c a' nf c'] W fun e w' => e = .returned (.int .i64 code) ∧ Below W.heap.size W w')) (z : code ≠ 0) :
    Calls Try.prog 19 #[msv a np c a' nf c'] w fun e w' => e = .returned (.tuple #[ptv (0, 0, 0), ptv (0, 0, 0), .int .i64 code]) ∧ Below w.heap.size w w' := by
  have z1 := bne_iff_ne.2 z
  clear z
  go_enter Try.func19, Try.ntmps19
  go_wp2_with fail
  refine (V.out _ (by (repeat' (first | exact Below.refl _ _ | refine Below.setCell ?_ (by simp <;> omega) _ | refine balloc ?_ _ | refine Below.drew ?_ | refine bdrewN ?_ _)))).mono ?_
  rintro e w1 ⟨rfl, hb1⟩
  have B1 := Lib.hid (show Below w.heap.size w w1 by (repeat' (first | exact Below.refl _ _ | refine bstep ?_ hb1 | refine Below.setCell ?_ (by simp <;> omega) _ | refine balloc ?_ _ | refine Below.drew ?_ | refine bdrewN ?_ _)))
  obtain ⟨g1, g2, g3, g4, g5, g6, g7⟩ := own_below (own_alloc (own_new (w.alloc (msc a np c a' nf c' 25)) (0, 0, 0) 33) (.cells #[.int .i64 0, .int .i64 0, .int .i64 0] 33)) hb1
  obtain ⟨k1, k2, k3, k4, k5, k6, k7⟩ := own_below (own_new ((w.alloc (msc a np c a' nf c' 25)).alloc (.cells #[.int .i64 0, .int .i64 0, .int .i64 0] 33)) (0, 0, 0) 33) hb1
  simp only [World.size_alloc] at g1 g2 g3 g4 g5 g6 g7 k1 k2 k3 k4 k5 k6 k7
  go_wp2
  refine bodyPost_ret (v := .tuple #[ptv (0, 0, 0), ptv (0, 0, 0), .int .i64 code]) (by rw [results_cct rfl]; go_simp) rfl ⟨rfl, ?_⟩
  exact below_put3 (below_put3 B1.out (by omega)) (by omega)
set_option maxRecDepth 100000 in
set_option maxHeartbeats 4000000 in
theorem sbox_row (b off np c : Nat) (a' : Option Addr) (nf c' : Nat) (P : Nat → P3) (w : World) (V : Hid (∀ W, Below w.heap.size w W → Calls Try.prog 20 #[msv (some ⟨b, off, none⟩) np c a' nf c'] W fun e w' => e = .returned (.int .i64 0) ∧ Below W.heap.size W w')) (rp : Row3 w b off np P) (h0 : 0 < np) (hn : np ≤ 1000000) :
    Calls Try.prog 18 #[msv (some ⟨b, off, none⟩) np c a' nf c'] w fun e w' => e = .returned (.tuple #[ptv (lo3 P np), ptv (hi3 P np), .int .i64 0]) ∧ Below w.heap.size w w' := by
  have hb : b < w.heap.size := rp.1
  have RP := Lib.hid rp
  have hn' : (np : Int) ≤ 1000000 := by omega
  have p0 : (0 : Int) < (np : Int) := by omega
  have HP := Lib.hid h0
  clear rp h0
  go_enter Try.func18, Try.ntmps18
  go_wp2_with fail
  refine (V.out _ (by (repeat' (first | exact Below.refl _ _ | refine Below.setCell ?_ (by simp <;> omega) _ | refine balloc ?_ _ | refine Below.drew ?_ | refine bdrewN ?_ _)))).mono ?_
  rintro e w1 ⟨rfl, hb1⟩
  have G := Lib.hid (own_below (own_alloc (own_new (w.alloc (msc (some ⟨b, off, none⟩) np c a' nf c' 25)) (0, 0, 0) 33) (.cells #[.int .i64 0, .int .i64 0, .int .i64 0] 33)) hb1)
  have K := Lib.hid (own_below (own_new ((w.alloc (msc (some ⟨b, off, none⟩) np c a' nf c' 25)).alloc (.cells #[.int .i64 0, .int .i64 0, .int .i64 0] 33)) (0, 0, 0) 33) hb1)
  have ME := Lib.hid (mes_below (mes_alloc (mes_alloc (mes_new w (some ⟨b, off, none⟩) np c a' nf c' 25) (.cells #[.int .i64 0, .int .i64 0, .int .i64 0] 33)) (.cells #[.int .i64 0, .int .i64 0, .int .i64 0] 33)) hb1)
  have B1 := Lib.hid (show Below w.heap.size w w1 by (repeat' (first | exact Below.refl _ _ | refine bstep ?_ hb1 | refine Below.setCell ?_ (by simp <;> omega) _ | refine balloc ?_ _ | refine Below.drew ?_ | refine bdrewN ?_ _)))
  simp only [World.size_alloc] at G K
  clear hb1
  obtain ⟨g1, g2, g3, g4, g5, g6, g7⟩ := G.out
  obtain ⟨k1, k2, k3, k4, k5, k6, k7⟩ := K.out
  obtain ⟨m1, m2, m3⟩ := ME.out
  obtain ⟨c1, c2, c3⟩ := (row3_in RP.out B1.out hb).2 0 HP.out
  have r5 := (row3_in RP.out B1.out hb).1
  simp only [Nat.zero_mul, Nat.add_zero] at c1 c2 c3
  obtain ⟨q, hq⟩ : ∃ q, P 0 = q := ⟨_, rfl⟩
  rw [hq] at c1 c2 c3
  have HQ := Lib.hid hq
  clear hq
  go_wp2
  go_region
  go_wp2
  go_loopw [25] (fun kv wr => ∃ k : Nat, k ≤ np ∧ kv = .int .i64 k ∧ Own wr (w.heap.size + 1) (lo3 P k) ∧ Own wr (w.heap.size + 1 + 1) (hi3 P k) ∧ Below w.heap.size w wr) (fun kv _ => np - (intOf kv).toNat)
  case atStart => exact ⟨0, Nat.zero_le _, rfl, by rw [show lo3 P 0 = P 0 from rfl, HQ.out]; exact own_drew (own_put3 (own_put G.out q) (by omega)), by rw [show hi3 P 0 = P 0 from rfl, HQ.out]; exact own_drew (own_put (own_put3 K.out (by omega)) q), Below.drew (below_put3 (below_put3 B1.out (by omega)) (by omega))⟩
  case round =>
    clear g1 g2 g3 g4 g5 g6 g7 k1 k2 k3 k4 k5 k6 k7 m1 m2 m3 c1 c2 c3 r5
    obtain ⟨k, hk, rfl, hg, hh, BB⟩ := hrel
    have G0 := Lib.hid hg
    have K0 := Lib.hid hh
    have B0 := Lib.hid BB
    clear hg hh BB
    by_cases hlt : k < np
    · have k1' : (k : Int) < (np : Int) := by omega
      have r2 := row3_in RP.out B0.out hb
      obtain ⟨c1, c2, c3⟩ := r2.2 k hlt
      have r5 := r2.1
      clear r2
      have E1 := Lib.hid (show lo3 P (k + 1) = mn3 (lo3 P k) (P k) from rfl)
      have E2 := Lib.hid (show hi3 P (k + 1) = mx3 (hi3 P k) (P k) from rfl)
      generalize lo3 P k = l at *
      generalize hi3 P k = h at *
      generalize P k = p at *
      obtain ⟨g1, g2, g3, g4, g5, g6, g7⟩ := G0.out
      obtain ⟨k1, k2, k3, k4, k5, k6, k7⟩ := K0.out
      go_wp2
      go_roundw
      case rel =>
        refine ⟨k + 1, by omega, by go_num, ?_, ?_, ?_⟩
        · rw [E1.out]; exact own_alloc (own_put3 (own_put G0.out (mn3 l p)) (by omega)) _
        · rw [E2.out]; exact own_alloc (own_put (own_put3 K0.out (by omega)) (mx3 h p)) _
        · exact balloc (below_put3 (below_put3 B0.out (by omega)) (by omega)) _
      case measure => simp [intOf]; omega
    · obtain rfl : k = np := by omega
      obtain ⟨g1, g2, g3, g4, g5, g6, g7⟩ := G0.out
      obtain ⟨k1, k2, k3, k4, k5, k6, k7⟩ := K0.out
      go_wp2
      go_region
      go_wp2
      refine bodyPost_ret (v := .tuple #[ptv (lo3 P k), ptv (hi3 P k), .int .i64 0]) (by rw [results_cct rfl]; go_simp) rfl ⟨rfl, ?_⟩
      exact Below.drew (below_put3 (below_put3 B0.out (by omega)) (by omega))
set_option maxRecDepth 100000 in
set_option maxHeartbeats 4000000 in
theorem rbox_row (b off np c : Nat) (a' : Option Addr) (nf c' : Nat) (P : Nat → P3) (w : World) (V : Hid (∀ W, Below w.heap.size w W → Calls Try.prog 21 #[msv (some ⟨b, off, none⟩) np c a' nf c'] W fun e w' => e = .returned (.int .i64 0) ∧ Below W.heap.size W w')) (rp : Row3 w b off np P) (h0 : 0 < np) (hn : np ≤ 1000000) :
    Calls Try.prog 19 #[msv (some ⟨b, off, none⟩) np c a' nf c'] w fun e w' => e = .returned (.tuple #[ptv (lo3 P np), ptv (hi3 P np), .int .i64 0]) ∧ Below w.heap.size w w' := by
  have hb : b < w.heap.size := rp.1
  have RP := Lib.hid rp
  have hn' : (np : Int) ≤ 1000000 := by omega
  have p0 : (0 : Int) < (np : Int) := by omega
  have HP := Lib.hid h0
  clear rp h0
  go_enter Try.func19, Try.ntmps19
  go_wp2_with fail
  refine (V.out _ (by (repeat' (first | exact Below.refl _ _ | refine Below.setCell ?_ (by simp <;> omega) _ | refine balloc ?_ _ | refine Below.drew ?_ | refine bdrewN ?_ _)))).mono ?_
  rintro e w1 ⟨rfl, hb1⟩
  have G := Lib.hid (own_below (own_alloc (own_new (w.alloc (msc (some ⟨b, off, none⟩) np c a' nf c' 25)) (0, 0, 0) 33) (.cells #[.int .i64 0, .int .i64 0, .int .i64 0] 33)) hb1)
  have K := Lib.hid (own_below (own_new ((w.alloc (msc (some ⟨b, off, none⟩) np c a' nf c' 25)).alloc (.cells #[.int .i64 0, .int .i64 0, .int .i64 0] 33)) (0, 0, 0) 33) hb1)
  have ME := Lib.hid (mes_below (mes_alloc (mes_alloc (mes_new w (some ⟨b, off, none⟩) np c a' nf c' 25) (.cells #[.int .i64 0, .int .i64 0, .int .i64 0] 33)) (.cells #[.int .i64 0, .int .i64 0, .int .i64 0] 33)) hb1)
  have B1 := Lib.hid (show Below w.heap.size w w1 by (repeat' (first | exact Below.refl _ _ | refine bstep ?_ hb1 | refine Below.setCell ?_ (by simp <;> omega) _ | refine balloc ?_ _ | refine Below.drew ?_ | refine bdrewN ?_ _)))
  simp only [World.size_alloc] at G K
  clear hb1
  obtain ⟨m1, m2, m3⟩ := ME.out
  obtain ⟨c1, c2, c3⟩ := (row3_in RP.out B1.out hb).2 0 HP.out
  have r5 := (row3_in RP.out B1.out hb).1
  simp only [Nat.zero_mul, Nat.add_zero] at c1 c2 c3
  obtain ⟨q, hq⟩ : ∃ q, P 0 = q := ⟨_, rfl⟩
  rw [hq] at c1 c2 c3
  have HQ := Lib.hid hq
  clear hq
  go_wp2
  go_region
  clear c1 c2 c3 r5
  · go_wp2
    go_loopw [8] (fun kv wr => ∃ k : Nat, k ≤ np ∧ kv = .int .i64 k ∧ Own wr (w1.heap.size) (lo3 P k) ∧ Own wr (w1.heap.size + 1) (hi3 P k) ∧ Own wr (w.heap.size + 1) (0, 0, 0) ∧ Own wr (w.heap.size + 1 + 1) (0, 0, 0) ∧ Mes wr w.heap.size (some ⟨b, off, none⟩) np c a' nf c' ∧ Below w.heap.size w wr) (fun kv _ => np - (intOf kv).toNat)
    case atStart =>
      refine ⟨0, Nat.zero_le _, rfl, ?_, ?_, own_drew (own_alloc (own_alloc G.out _) _), own_drew (own_alloc (own_alloc K.out _) _), mes_drewb (mes_alloc (mes_alloc ME.out _) _), Below.drew (balloc (balloc B1.out _) _)⟩
      · rw [show lo3 P 0 = P 0 from rfl, HQ.out]; exact own_drew (own_alloc (own_new w1 q 33) _)
      · rw [show hi3 P 0 = P 0 from rfl, HQ.out]; exact (show Own ((w1.alloc (.cells #[.int .i64 q.1, .int .i64 q.2.1, .int .i64 q.2.2] 33)).alloc (.cells #[.int .i64 q.1, .int .i64 q.2.1, .int .i64 q.2.2] 33)).drew (w1.heap.size + 1) q by have z := own_drew (own_new (w1.alloc (.cells #[.int .i64 q.1, .int .i64 q.2.1, .int .i64 q.2.2] 33)) q 33); simp only [World.size_alloc] at z; exact z)
    case round =>
      obtain ⟨k, hk, rfl, hg, hh, hr, ht, hme, BB⟩ := hrel
      have G0 := Lib.hid hg
      have K0 := Lib.hid hh
      have R0 := Lib.hid hr
      have T0 := Lib.hid ht
      have MR := Lib.hid hme
      have B0 := Lib.hid BB
      clear hg hh hr ht hme BB m1 m2 m3
      obtain ⟨m1, m2, m3⟩ := MR.out
      by_cases hlt : k < np
      · have k1' : (k : Int) < (np : Int) := by omega
        have r2 := row3_in RP.out B0.out hb
        obtain ⟨c1, c2, c3⟩ := r2.2 k hlt
        have r5 := r2.1
        clear r2
        have E1 := Lib.hid (show lo3 P (k + 1) = mn3 (lo3 P k) (P k) from rfl)
        have E2 := Lib.hid (show hi3 P (k + 1) = mx3 (hi3 P k) (P k) from rfl)
        generalize lo3 P k = l at *
        generalize hi3 P k = h at *
        generalize P k = p at *
        obtain ⟨g1, g2, g3, g4, g5, g6, g7⟩ := G0.out
        obtain ⟨k1, k2, k3, k4, k5, k6, k7⟩ := K0.out
        go_wp2
        go_roundw
        case rel =>
          have LT := K.out.2.2.2.2.2.2
          refine ⟨k + 1, by omega, by go_num, ?_, ?_, ?_, ?_, ?_, ?_⟩
          · rw [E1.out]; exact own_alloc (own_put3 (own_put G0.out (mn3 l p)) (by omega)) _
          · rw [E2.out]; exact own_alloc (own_put (own_put3 K0.out (by omega)) (mx3 h p)) _
          · exact own_alloc (own_put3 (own_put3 R0.out (by omega)) (by omega)) _
          · exact own_alloc (own_put3 (own_put3 T0.out (by omega)) (by omega)) _
          · exact mes_alloc (mes_put3 (mes_put3 MR.out (by omega)) (by omega)) _
          · exact balloc (below_put3 (below_put3 B0.out (by omega)) (by omega)) _
        case measure => simp [intOf]; omega
      · obtain rfl : k = np := by omega
        have LT := K.out.2.2.2.2.2.2
        have n1 : ¬ w.heap.size + 1 = w1.heap.size := by omega
        have n2 : ¬ w.heap.size + 1 = w1.heap.size + 1 := by omega
        have n3 : ¬ w.heap.size + 1 + 1 = w1.heap.size := by omega
        have n4 : ¬ w.heap.size + 1 + 1 = w1.heap.size + 1 := by omega
        obtain ⟨g1, g2, g3, g4, g5, g6, g7⟩ := G0.out
        obtain ⟨k1, k2, k3, k4, k5, k6, k7⟩ := K0.out
        obtain ⟨r1, r2, r3, r4, r5, r6, r7⟩ := R0.out
        obtain ⟨t1, t2, t3, t4, t5, t6, t7⟩ := T0.out
        go_wp2
        go_region
        go_wp2
        refine bodyPost_ret (v := .tuple #[ptv (lo3 P k), ptv (hi3 P k), .int .i64 0]) (by rw [results_cct rfl]; go_simp) rfl ⟨rfl, ?_⟩
        exact Below.drew (below_put3 (below_put3 B0.out (by omega)) (by omega))
  · go_wp2
    go_loopw [8] (fun kv wr => ∃ k : Nat, k ≤ np ∧ kv = .int .i64 k ∧ Own wr (w1.heap.size + 1) (lo3 P k) ∧ Own wr (w1.heap.size) (hi3 P k) ∧ Own wr (w.heap.size + 1) (0, 0, 0) ∧ Own wr (w.heap.size + 1 + 1) (0, 0, 0) ∧ Mes wr w.heap.size (some ⟨b, off, none⟩) np c a' nf c' ∧ Below w.heap.size w wr) (fun kv _ => np - (intOf kv).toNat)
    case atStart =>
      refine ⟨0, Nat.zero_le _, rfl, ?_, ?_, own_drew (own_alloc (own_alloc G.out _) _), own_drew (own_alloc (own_alloc K.out _) _), mes_drewb (mes_alloc (mes_alloc ME.out _) _), Below.drew (balloc (balloc B1.out _) _)⟩
      · rw [show lo3 P 0 = P 0 from rfl, HQ.out]; exact (show Own ((w1.alloc (.cells #[.int .i64 q.1, .int .i64 q.2.1, .int .i64 q.2.2] 33)).alloc (.cells #[.int .i64 q.1, .int .i64 q.2.1, .int .i64 q.2.2] 33)).drew (w1.heap.size + 1) q by have z := own_drew (own_new (w1.alloc (.cells #[.int .i64 q.1, .int .i64 q.2.1, .int .i64 q.2.2] 33)) q 33); simp only [World.size_alloc] at z; exact z)
      · rw [show hi3 P 0 = P 0 from rfl, HQ.out]; exact own_drew (own_alloc (own_new w1 q 33) _)
    case round =>
      obtain ⟨k, hk, rfl, hg, hh, hr, ht, hme, BB⟩ := hrel
      have G0 := Lib.hid hg
      have K0 := Lib.hid hh
      have R0 := Lib.hid hr
      have T0 := Lib.hid ht
      have MR := Lib.hid hme
      have B0 := Lib.hid BB
      clear hg hh hr ht hme BB m1 m2 m3
      obtain ⟨m1, m2, m3⟩ := MR.out
      by_cases hlt : k < np
      · have k1' : (k : Int) < (np : Int) := by omega
        have r2 := row3_in RP.out B0.out hb
        obtain ⟨c1, c2, c3⟩ := r2.2 k hlt
        have r5 := r2.1
        clear r2
        have E1 := Lib.hid (show lo3 P (k + 1) = mn3 (lo3 P k) (P k) from rfl)
        have E2 := Lib.hid (show hi3 P (k + 1) = mx3 (hi3 P k) (P k) from rfl)
        generalize lo3 P k = l at *
        generalize hi3 P k = h at *
        generalize P k = p at *
        obtain ⟨g1, g2, g3, g4, g5, g6, g7⟩ := G0.out
        obtain ⟨k1, k2, k3, k4, k5, k6, k7⟩ := K0.out
        go_wp2
        go_roundw
        case rel =>
          have LT := K.out.2.2.2.2.2.2
          refine ⟨k + 1, by omega, by go_num, ?_, ?_, ?_, ?_, ?_, ?_⟩
          · rw [E1.out]; exact own_alloc (own_put3 (own_put G0.out (mn3 l p)) (by omega)) _
          · rw [E2.out]; exact own_alloc (own_put (own_put3 K0.out (by omega)) (mx3 h p)) _
          · exact own_alloc (own_put3 (own_put3 R0.out (by omega)) (by omega)) _
          · exact own_alloc (own_put3 (own_put3 T0.out (by omega)) (by omega)) _
          · exact mes_alloc (mes_put3 (mes_put3 MR.out (by omega)) (by omega)) _
          · exact balloc (below_put3 (below_put3 B0.out (by omega)) (by omega)) _
        case measure => simp [intOf]; omega
      · obtain rfl : k = np := by omega
        have LT := K.out.2.2.2.2.2.2
        have n1 : ¬ w.heap.size + 1 = w1.heap.size + 1 := by omega
        have n2 : ¬ w.heap.size + 1 = w1.heap.size := by omega
        have n3 : ¬ w.heap.size + 1 + 1 = w1.heap.size + 1 := by omega
        have n4 : ¬ w.heap.size + 1 + 1 = w1.heap.size := by omega
        obtain ⟨g1, g2, g3, g4, g5, g6, g7⟩ := G0.out
        obtain ⟨k1, k2, k3, k4, k5, k6, k7⟩ := K0.out
        obtain ⟨r1, r2, r3, r4, r5, r6, r7⟩ := R0.out
        obtain ⟨t1, t2, t3, t4, t5, t6, t7⟩ := T0.out
        go_wp2
        go_region
        go_wp2
        refine bodyPost_ret (v := .tuple #[ptv (lo3 P k), ptv (hi3 P k), .int .i64 0]) (by rw [results_cct rfl]; go_simp) rfl ⟨rfl, ?_⟩
        exact Below.drew (below_put3 (below_put3 B0.out (by omega)) (by omega))

end Go.Proofs.Ytcphdlcglaopjaa
