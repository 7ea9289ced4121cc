/-
  The contract of Center24.
-/
import Derived.Test.YtllonfaogbdbnaaBlock0
import Derived.Deep.RegionHeld3
import Derived.Deep.RegionWith
import Derived.Deep.DeepCutAuto
import Derived.Deep.Cut
namespace Go.Proofs.Ytllonfaogbdbnaa
open Go.ChangeShapes Go.WideShapes Go.RowKit
open Sh
/-- 24 times the integral of the position -/
def cen (P F : Nat → P3) : Nat → P3
  | 0 => (0, 0, 0)
  | n + 1 => add (cen P F n) (tim (det (Tr P F n).1 (Tr P F n).2.1 (Tr P F n).2.2) (add (add (Tr P F n).1 (Tr P F n).2.1) (Tr P F n).2.2))
theorem cen_bd {P F : Nat → P3} {n : Nat} (h : TrB P F n) : BdP ((n : Int) * 301989888) (cen P F n) := by
  induction n with
  | zero => simp [cen, BdP]
  | succ n ih =>
    have a := ih (fun k hk => h k (by omega))
    obtain ⟨c1, c2, c3⟩ := h n (by omega)
    have d := det_bd c1 c2 c3
    have t := tim_bd d.1 d.2 (add_bd (add_bd c1 c2) c3)
    have z := add_bd a t
    refine BdP.mono z ?_
    omega
def CSt (w wx : World) (S g nf pb tb : Nat) (T : Nat → P3 × P3 × P3) (p q s cor sum : P3) : Prop :=
  Own wx tb cor ∧ Pan wx pb p q s ∧ Own wx S sum ∧ Own wx (w.heap.size + 1) (0, 0, 0) ∧ Row9 wx g nf T ∧ Below w.heap.size w wx
theorem cs_below {w wx v : World} {S g nf pb tb : Nat} {T : Nat → P3 × P3 × P3} {p q s cor sum : P3} (h : CSt w wx S g nf pb tb T p q s cor sum) (hb : Below wx.heap.size wx v) : CSt w v S g nf pb tb T p q s cor sum :=
  ⟨own_below h.1 hb, pan_below h.2.1 hb, own_below h.2.2.1 hb, own_below h.2.2.2.1 hb, row9_below h.2.2.2.2.1 hb, bstep h.2.2.2.2.2 hb⟩
theorem cs_drew {w wx : World} {S g nf pb tb : Nat} {T : Nat → P3 × P3 × P3} {p q s cor sum : P3} (h : CSt w wx S g nf pb tb T p q s cor sum) : CSt w wx.drew S g nf pb tb T p q s cor sum :=
  ⟨h.1, h.2.1, h.2.2.1, h.2.2.2.1, h.2.2.2.2.1, h.2.2.2.2.2.drew⟩
/-- what a round has of its own ahead of the corners' sum -/
def CSr (w wx : World) (S g nf pb : Nat) (T : Nat → P3 × P3 × P3) (p q s sum : P3) : Prop :=
  Pan wx pb p q s ∧ Own wx S sum ∧ Own wx (w.heap.size + 1) (0, 0, 0) ∧ Row9 wx g nf T ∧ Below w.heap.size w wx
theorem csr_below {w wx v : World} {S g nf pb : Nat} {T : Nat → P3 × P3 × P3} {p q s sum : P3} (h : CSr w wx S g nf pb T p q s sum) (hb : Below wx.heap.size wx v) : CSr w v S g nf pb T p q s sum :=
  ⟨pan_below h.1 hb, own_below h.2.1 hb, own_below h.2.2.1 hb, row9_below h.2.2.2.1 hb, bstep h.2.2.2.2 hb⟩
theorem csr_alloc {w wx : World} {S g nf pb : Nat} {T : Nat → P3 × P3 × P3} {p q s sum : P3} (h : CSr w wx S g nf pb T p q s sum) (o : Obj) : CSr w (wx.alloc o) S g nf pb T p q s sum := csr_below h ((Below.refl _ _).alloc (Nat.le_refl _) _)
theorem csr_drew {w wx : World} {S g nf pb : Nat} {T : Nat → P3 × P3 × P3} {p q s sum : P3} (h : CSr w wx S g nf pb T p q s sum) : CSr w wx.drew S g nf pb T p q s sum := ⟨h.1, h.2.1, h.2.2.1, h.2.2.2.1, h.2.2.2.2.drew⟩
theorem kA {w W v : World} {S g nf pb : Nat} {T : Nat → P3 × P3 × P3} {p q s sum : P3} {Q : Prop} (h : CSr w W S g nf pb T p q s sum) (hb : Below W.heap.size W v) (K : CSr w v S g nf pb T p q s sum → Q) : Q := K (csr_below h hb)
theorem kB {w W v : World} {S g nf pb : Nat} {T : Nat → P3 × P3 × P3} {p q s sum : P3} {t : TypeId} {Q : Prop} (h : CSr w W S g nf pb T p q s sum) (hb : Below (W.alloc (.cells #[.int .i64 0, .int .i64 0, .int .i64 0] t)).heap.size (W.alloc (.cells #[.int .i64 0, .int .i64 0, .int .i64 0] t)) v) (K : CSr w v S g nf pb T p q s sum ∧ Own v W.heap.size (0, 0, 0) → Q) : Q :=
  K ⟨csr_below (csr_alloc h _) hb, own_below (own_new W (0, 0, 0) t) hb⟩
theorem kBd {w W v : World} {S g nf pb : Nat} {T : Nat → P3 × P3 × P3} {p q s sum : P3} {t : TypeId} {Q : Prop} (h : CSr w W S g nf pb T p q s sum) (hb : Below (W.alloc (.cells #[.int .i64 0, .int .i64 0, .int .i64 0] t)).drew.heap.size (W.alloc (.cells #[.int .i64 0, .int .i64 0, .int .i64 0] t)).drew v) (K : CSr w v S g nf pb T p q s sum ∧ Own v W.heap.size (0, 0, 0) → Q) : Q :=
  K ⟨csr_below (csr_drew (csr_alloc h _)) hb, own_below (own_drew (own_new W (0, 0, 0) t)) hb⟩
theorem kC {w W v : World} {S g nf pb tb : Nat} {T : Nat → P3 × P3 × P3} {p q s sum z : P3} {Q : Prop} (h : CSr w W S g nf pb T p q s sum) (k : Own W tb z) (hb : Below W.heap.size W v) (K : CSr w v S g nf pb T p q s sum ∧ Own v tb z → Q) : Q := K ⟨csr_below h hb, own_below k hb⟩
theorem own_write {w : World} {b : Nat} {a : P3} (h : Own w b a) (c : P3) : Own (((w.setCell ⟨b, 0, none⟩ (.int .i64 c.1)).setCell ⟨b, 1, none⟩ (.int .i64 c.2.1)).setCell ⟨b, 2, none⟩ (.int .i64 c.2.2)) b c := by
  obtain ⟨h1, h2, h3, h4, h5, h6, h7⟩ := h
  exact ⟨by go_simp, by go_simp, by go_simp, by go_simp, by go_simp, by go_simp, by simpa using h7⟩
theorem pan_lt {w : World} {q : Nat} {a b c : P3} (h : Pan w q a b c) : q < w.heap.size := h.2.2.2.2.2.2.2.2.2
theorem row9_set {w : World} {g n q o : Nat} {T : Nat → P3 × P3 × P3} {v : Value} (r : Row9 w g n T) (h : q ≠ g) : Row9 (w.setCell ⟨q, o, none⟩ v) g n T := by
  refine ⟨by simpa using r.1, fun k hk => ?_⟩
  obtain ⟨h1, h2, h3, h4, h5, h6, h7, h8, h9⟩ := r.2 k hk
  have n1 : ¬ q = g := h
  have n2 : ¬ g = q := fun e => h e.symm
  exact ⟨by go_simp, by go_simp, by go_simp, by go_simp, by go_simp, by go_simp, by go_simp, by go_simp, by go_simp⟩
theorem row9_set3 {w : World} {g n q : Nat} {T : Nat → P3 × P3 × P3} {x y z : Value} (r : Row9 w g n T) (h : q ≠ g) : Row9 (((w.setCell ⟨q, 0, none⟩ x).setCell ⟨q, 1, none⟩ y).setCell ⟨q, 2, none⟩ z) g n T := row9_set (row9_set (row9_set r h) h) h
theorem own_set3 {w : World} {q r : Nat} {x y z : Value} {a : P3} (h : Own w q a) (n : q ≠ r) : Own (((w.setCell ⟨r, 0, none⟩ x).setCell ⟨r, 1, none⟩ y).setCell ⟨r, 2, none⟩ z) q a := own_set (own_set (own_set h n) n) n
theorem pan_set3 {w : World} {q r : Nat} {x y z : Value} {a b c : P3} (h : Pan w q a b c) (n : q ≠ r) : Pan (((w.setCell ⟨r, 0, none⟩ x).setCell ⟨r, 1, none⟩ y).setCell ⟨r, 2, none⟩ z) q a b c := pan_set (pan_set (pan_set h n) n) n
theorem below_set3 {a w : World} {r : Nat} {x y z : Value} (h : Below a.heap.size a w) (n : a.heap.size ≤ r) : Below a.heap.size a (((w.setCell ⟨r, 0, none⟩ x).setCell ⟨r, 1, none⟩ y).setCell ⟨r, 2, none⟩ z) := ((h.setCell n _).setCell n _).setCell n _
theorem cst_of {w W : World} {S g nf pb tb : Nat} {T : Nat → P3 × P3 × P3} {p q s sum z : P3} (c : P3) (h : CSr w W S g nf pb T p q s sum) (k : Own W tb z) (n1 : pb ≠ tb) (n2 : S ≠ tb) (n3 : w.heap.size + 1 ≠ tb) (n4 : tb ≠ g) (n5 : w.heap.size ≤ tb) :
    CSt w (((W.setCell ⟨tb, 0, none⟩ (.int .i64 c.1)).setCell ⟨tb, 1, none⟩ (.int .i64 c.2.1)).setCell ⟨tb, 2, none⟩ (.int .i64 c.2.2)) S g nf pb tb T p q s c sum :=
  ⟨own_write k c, pan_set3 h.1 n1, own_set3 h.2.1 n2, own_set3 h.2.2.1 n3, row9_set3 h.2.2.2.1 n4, below_set3 h.2.2.2.2 n5⟩
theorem cst_new {w W : World} {S g nf pb : Nat} {T : Nat → P3 × P3 × P3} {p q s sum : P3} (c : P3) (t : TypeId) (h : CSr w W S g nf pb T p q s sum) :
    CSt w (W.alloc (.cells #[.int .i64 c.1, .int .i64 c.2.1, .int .i64 c.2.2] t)) S g nf pb W.heap.size T p q s c sum :=
  ⟨own_new W c t, pan_alloc h.1 _, own_alloc h.2.1 _, own_alloc h.2.2.1 _, row9_below h.2.2.2.1 ((Below.refl _ _).alloc (Nat.le_refl _) _), balloc h.2.2.2.2 _⟩
theorem keep12 {w : World} {q t : Nat} {a b c d : P3} (h : Pan w q a b c) (k : Own w t d) : w.cell? ⟨q, 0, none⟩ = some (.int .i64 a.1) ∧ w.cell? ⟨q, 1, none⟩ = some (.int .i64 a.2.1) ∧ w.cell? ⟨q, 2, none⟩ = some (.int .i64 a.2.2) ∧
  w.cell? ⟨q, 3, none⟩ = some (.int .i64 b.1) ∧ w.cell? ⟨q, 4, none⟩ = some (.int .i64 b.2.1) ∧ w.cell? ⟨q, 5, none⟩ = some (.int .i64 b.2.2) ∧
  w.cell? ⟨q, 6, none⟩ = some (.int .i64 c.1) ∧ w.cell? ⟨q, 7, none⟩ = some (.int .i64 c.2.1) ∧ w.cell? ⟨q, 8, none⟩ = some (.int .i64 c.2.2) ∧
  w.cell? ⟨t, 0, none⟩ = some (.int .i64 d.1) ∧ w.cell? ⟨t, 1, none⟩ = some (.int .i64 d.2.1) ∧ w.cell? ⟨t, 2, none⟩ = some (.int .i64 d.2.2) := by
  obtain ⟨h1, h2, h3, h4, h5, h6, h7, h8, h9, _⟩ := h
  exact ⟨h1, h2, h3, h4, h5, h6, h7, h8, h9, k.1, k.2.1, k.2.2.1⟩
set_option maxRecDepth 100000 in
set_option maxHeartbeats 16000000 in
theorem cen_row (b off np c b' off' nf c' : Nat) (P F : Nat → P3) (w : World) (V : Hid (∀ W, Below w.heap.size w W → Calls Try.prog 31 #[msv (some ⟨b, off, none⟩) np c (some ⟨b', off', none⟩) nf c'] W fun e w' => e = .returned (.int .i64 0) ∧ Below W.heap.size W w')) (PC : Hid (∀ W, Below w.heap.size w W → Calls Try.prog 33 #[msv (some ⟨b, off, none⟩) np c (some ⟨b', off', none⟩) nf c'] W (Paneled (Tr P F) nf W))) (h0 : 0 < nf) (hm : nf ≤ 1000000) (tb : TrB P F nf) :
    Calls Try.prog 30 #[msv (some ⟨b, off, none⟩) np c (some ⟨b', off', none⟩) nf c'] w fun e w' => e = .returned (.tuple #[ptv (cen P F nf), .int .i64 0]) ∧ Below w.heap.size w w' := by
  have TB := Lib.hid tb
  have hm' : (nf : Int) ≤ 1000000 := by omega
  clear tb
  go_enter Try.func30, Try.ntmps30
  go_wp2_with fail
  refine (V.out _ (by (repeat' (first | exact Below.refl _ _ | refine Below.setCell ?_ (by simp <;> omega) _ | refine balloc ?_ _ | refine Below.drew ?_ | refine bdrewN ?_ _)))).mono ?_
  rintro e w1 ⟨rfl, hb1⟩
  have Q1 := Lib.hid (own_below (own_new (w.alloc _) (0, 0, 0) _) hb1)
  simp only [World.size_alloc] at Q1
  have B1 := Lib.hid (bstep (balloc (balloc (Below.refl _ w) _) _) hb1)
  obtain ⟨m1, m2, m3⟩ := mes_below (mes_alloc (mes_new w (some ⟨b, off, none⟩) np c (some ⟨b', off', none⟩) nf c' _) _) hb1
  clear hb1
  go_wp2_with fail
  refine (PC.out _ (by have hB := B1.out; (repeat' (first | exact Below.refl _ _ | refine bstep ?_ hB | refine Below.setCell ?_ (by simp <;> omega) _ | refine balloc ?_ _ | refine Below.drew ?_ | refine bdrewN ?_ _)))).mono ?_
  rintro e w2 ⟨g, cap, rfl, hg, r9, hb2⟩
  have Q2 := Lib.hid (own_below (own_alloc Q1.out _) hb2)
  have S2 := Lib.hid (own_below (own_new w1 (0, 0, 0) _) hb2)
  have B2 := Lib.hid (bstep (balloc B1.out _) hb2)
  have R9 := Lib.hid r9
  have gl := r9.1
  have s1 := B1.out.size
  simp only [World.size_alloc] at hg
  have q1 := Q1.out.2.2.2.2.2.2
  clear r9 hb2 m1 m2 m3
  obtain ⟨S, hS⟩ : ∃ S, w1.heap.size = S := ⟨_, rfl⟩
  rw [hS] at S2 hg s1 q1 ⊢
  clear hS
  go_wp2
  go_loopw [18] (fun kv wr => ∃ k : Nat, k ≤ nf ∧ kv = .int .i64 k ∧ Own wr S (cen P F k) ∧ Own wr (w.heap.size + 1) (0, 0, 0) ∧ Row9 wr g nf (Tr P F) ∧ Below w.heap.size w wr) (fun kv _ => nf - (intOf kv).toNat)
  case atStart => exact ⟨0, Nat.zero_le _, rfl, S2.out, Q2.out, R9.out, B2.out⟩
  case round =>
    obtain ⟨k, hk, rfl, so, qo, rr, BB⟩ := hrel
    have SO := Lib.hid so
    have QO := Lib.hid qo
    have RR := Lib.hid rr
    have B0 := Lib.hid BB
    clear so qo rr BB
    by_cases hlt : k < nf
    · obtain ⟨c1, c2, c3, c4, c5, c6, c7, c8, c9⟩ := RR.out.2 k hlt
      have r5 := RR.out.1
      have hk1 : (k : Int) < (nf : Int) := by omega
      have T := Lib.hid (TB.out k hlt)
      have CB := Lib.hid (cen_bd (P := P) (F := F) (n := k) (fun i hi => TB.out i (by omega)))
      have CB2 := Lib.hid (cen_bd (P := P) (F := F) (n := k + 1) (fun i hi => TB.out i (by omega)))
      have E := Lib.hid (show cen P F (k + 1) = add (cen P F k) (tim (det (Tr P F k).1 (Tr P F k).2.1 (Tr P F k).2.2) (add (add (Tr P F k).1 (Tr P F k).2.1) (Tr P F k).2.2)) from rfl)
      rw [E.out] at CB2
      generalize (Tr P F k).1 = p at *
      generalize (Tr P F k).2.1 = q at *
      generalize (Tr P F k).2.2 = s at *
      generalize cen P F k = sum at *
      have X0 := Lib.hid (show CSr w (wr.alloc (.cells #[.int .i64 p.1, .int .i64 p.2.1, .int .i64 p.2.2, .int .i64 q.1, .int .i64 q.2.1, .int .i64 q.2.2, .int .i64 s.1, .int .i64 s.2.1, .int .i64 s.2.2] 77)) S g nf wr.heap.size (Tr P F) p q s sum from ⟨pan_new wr p q s _, own_alloc SO.out _, own_alloc QO.out _, row9_below RR.out ((Below.refl _ _).alloc (Nat.le_refl _) _), balloc B0.out _⟩)
      have A1 := Lib.hid (show BdP 4611686018427387904 (add p q) from (add_bd T.out.1 T.out.2.1).mono (by decide))
      have A2 := Lib.hid (show BdP 4611686018427387904 (add (add p q) s) from (add_bd (add_bd T.out.1 T.out.2.1) T.out.2.2).mono (by decide))
      go_upto_region 8 with fail
      clear c1 c2 c3 c4 c5 c6 c7 c8 c9
      go_cut [8] (fun t8 wx => ∃ tb : Nat, t8 = .pointer (some ⟨tb, 0, none⟩) ∧ wr.heap.size < tb ∧ CSt w wx S g nf wr.heap.size tb (Tr P F) p q s (add (add p q) s) sum)
      case first =>
        have X1 := csr_drew X0.out
        have LS := SO.out.2.2.2.2.2.2
        have LQ := QO.out.2.2.2.2.2.2
        have z1 : wr.heap.size < wr.heap.size + 1 := by omega
        go_region_held3 (fun w' => w'.cell? ⟨wr.heap.size, 0, none⟩ = some (.int .i64 p.1) ∧ w'.cell? ⟨wr.heap.size, 1, none⟩ = some (.int .i64 p.2.1) ∧ w'.cell? ⟨wr.heap.size, 2, none⟩ = some (.int .i64 p.2.2) ∧ w'.cell? ⟨wr.heap.size, 3, none⟩ = some (.int .i64 q.1) ∧ w'.cell? ⟨wr.heap.size, 4, none⟩ = some (.int .i64 q.2.1) ∧ w'.cell? ⟨wr.heap.size, 5, none⟩ = some (.int .i64 q.2.2) ∧ w'.cell? ⟨wr.heap.size, 6, none⟩ = some (.int .i64 s.1) ∧ w'.cell? ⟨wr.heap.size, 7, none⟩ = some (.int .i64 s.2.1) ∧ w'.cell? ⟨wr.heap.size, 8, none⟩ = some (.int .i64 s.2.2))
          (first | (refine pan_cells ?_; exact X1.1) | (refine pan_cells ?_; exact (csr_alloc X1 _).1) | (refine pan_cells ?_; exact X2.1) | (refine pan_cells ?_; exact (csr_alloc X2 _).1) | (refine pan_cells ?_; exact X3.1) | (refine pan_cells ?_; exact (csr_alloc X3 _).1) | (refine pan_cells ?_; refine pan_set ?_ (by omega); refine pan_set ?_ (by omega); refine pan_set ?_ (by omega); (first | exact X3.1 | exact (csr_alloc X3 _).1 | fail)) | fail)
          (first | (go_at_call 68; (with_reducible refine (plus_any p q _ A1.out).mono ?_); rintro e v1 ⟨rfl, hv1⟩; (first | (refine kA X1 hv1 ?_; intro X2; have z2 := pan_lt X2.1) | (refine kBd X0.out hv1 ?_; rintro ⟨X2, TT⟩; (try simp only [World.size_alloc] at TT); have z2 := pan_lt X2.1; have TU := TT; obtain ⟨i1, i2, i3, i4, i5, i6, i7⟩ := TU) | (refine kB X1 hv1 ?_; rintro ⟨X2, TT⟩; (try simp only [World.size_alloc] at TT); have z2 := pan_lt X2.1; have TU := TT; obtain ⟨i1, i2, i3, i4, i5, i6, i7⟩ := TU) | fail)) | (go_at_call 68; (with_reducible refine (plus_any (add p q) s _ A2.out).mono ?_); rintro e v2 ⟨rfl, hv2⟩; (first | (refine kC X2 TT hv2 ?_; rintro ⟨X3, TV⟩; have z3 := pan_lt X3.1; have TW := TV; obtain ⟨j1, j2, j3, j4, j5, j6, j7⟩ := TW) | (refine kB X2 hv2 ?_; rintro ⟨X3, TV⟩; have z3 := pan_lt X3.1; have TW := TV; obtain ⟨j1, j2, j3, j4, j5, j6, j7⟩ := TW) | (refine kA X2 hv2 ?_; intro X3; have z3 := pan_lt X3.1) | fail)) | fail)
        all_goals
          go_wp2
          go_meet
          first
            | with_reducible exact ⟨_, rfl, by omega, cst_of _ X3 TV (by omega) (by omega) (by omega) (by omega) (by omega)⟩
            | with_reducible exact ⟨_, rfl, by omega, cst_new _ _ X3⟩
            | fail
      case rest =>
        obtain ⟨tb, rfl, ht, X⟩ := hcut
        have LS := SO.out.2.2.2.2.2.2
        have LQ := QO.out.2.2.2.2.2.2
        have Y0 := cs_drew X
        have F1 := Lib.hid (show BdP 4611686018427387904 (tim (det p q s) (add (add p q) s)) from (tim_bd (det_bd T.out.1 T.out.2.1 T.out.2.2).1 (det_bd T.out.1 T.out.2.1 T.out.2.2).2 (add_bd (add_bd T.out.1 T.out.2.1) T.out.2.2)).mono (by decide))
        have F2 := Lib.hid (show BdP 4611686018427387904 (add sum (tim (det p q s) (add (add p q) s))) from CB2.out.mono (by omega))
        have G1 := Lib.hid (show BdP 1024 p ∧ BdP 1024 q ∧ BdP 1024 s from ⟨T.out.1.mono (by decide), T.out.2.1.mono (by decide), T.out.2.2.mono (by decide)⟩)
        have XX := Lib.hid X
        have YY := Lib.hid Y0
        obtain ⟨d1, d2, d3, d4, d5, d6, d7⟩ := X.2.2.1
        obtain ⟨t1, t2, t3, t4, t5, t6, t7⟩ := X.1
        obtain ⟨y1, y2, y3, y4, y5, y6, y7, y8, y9, y10⟩ := X.2.1
        clear X Y0 d4 d5 d6 t4 t5 t6
        go_wp2_with fail
        go_region_with (first | (go_at_call 70; (with_reducible refine (product_any p q s _ G1.out.1 G1.out.2.1 G1.out.2.2).mono ?_); rintro e v1 ⟨rfl, hv1⟩; have Y1 := cs_below YY.out hv1; have H1 := Lib.hid hv1; obtain ⟨f1, f2, f3, f4, f5, f6, f7⟩ := Y1.2.2.1; obtain ⟨u1, u2, u3, u4, u5, u6, u7⟩ := Y1.1; have Z1 := Lib.hid Y1; clear Y1 hv1 f4 f5 f6 u4 u5 u6 d1 d2 d3 d7 t1 t2 t3 t7 y1 y2 y3 y4 y5 y6 y7 y8 y9 y10) | (go_at_call 69; (with_reducible refine (times_any (det p q s) (add (add p q) s) _ F1.out).mono ?_); rintro e v2 ⟨rfl, hv2⟩; have Y2 := cs_below Z1.out hv2; obtain ⟨g1, g2, g3, g4, g5, g6, g7⟩ := Y2.2.2.1; have Z2 := Lib.hid Y2; clear Y2 hv2 g4 g5 g6 f1 f2 f3 f7 u1 u2 u3 u7) | (go_at_call 68; (with_reducible refine (plus_any sum (tim (det p q s) (add (add p q) s)) _ F2.out).mono ?_); rintro e v3 ⟨rfl, hv3⟩; have Y3 := cs_below Z2.out hv3; obtain ⟨h1, h2, h3, h4, h5, h6, h7⟩ := Y3.2.2.1; have Z3 := Lib.hid Y3; clear Y3 hv3 g1 g2 g3 g7) | fail)
        all_goals
          go_wp2
          go_roundw
          case rel => exact ⟨k + 1, by omega, by go_num, by rw [E.out]; exact own_write Z3.out.2.2.1 _, own_set3 Z3.out.2.2.2.1 (by omega), row9_set3 Z3.out.2.2.2.2.1 (by omega), below_set3 Z3.out.2.2.2.2.2 (by omega)⟩
          case measure => simp [intOf]; omega
    · obtain rfl : k = nf := by omega
      obtain ⟨x1, x2, x3, x4, x5, x6, x7⟩ := SO.out
      obtain ⟨y1, y2, y3, y4, y5, y6, y7⟩ := QO.out
      go_wp2
      refine bodyPost_ret (v := .tuple #[ptv (cen P F k), .int .i64 0]) (by rw [results_cell_tmp rfl]; go_simp) rfl ⟨rfl, ?_⟩
      have hB := B0.out
      (repeat' (first | exact Below.refl _ _ | refine bstep ?_ hB | refine Below.setCell ?_ (by simp <;> omega) _ | refine balloc ?_ _ | refine Below.drew ?_ | refine bdrewN ?_ _))

end Go.Proofs.Ytllonfaogbdbnaa
