/-
  The contract of field.far: the greatest squared distance of two groups.
-/
import Derived.Test.YtjigcgpcglfjfaaFg2
namespace Go.Proofs.Ytjigcgpcglfjfaa
open Go.ChangeShapes Go.WideShapes Go.RowKit
open Sh
attribute [local go_sem 1000000] run_min_mn run_max_mx
attribute [local go_sem high] run_max3' run_min3'
/-- the points of a group, at a block's head -/
def RwG (w : World) (b n : Nat) (f : Nat → P3) : Prop := b < w.heap.size ∧ ∀ k, k < n → w.cell? ⟨b, k * 3, none⟩ = some (.int .i64 (f k).1) ∧ w.cell? ⟨b, k * 3 + 1, none⟩ = some (.int .i64 (f k).2.1) ∧ w.cell? ⟨b, k * 3 + 1 + 1, none⟩ = some (.int .i64 (f k).2.2)
theorem rwg_in {w w1 : World} {N b n : Nat} {f : Nat → P3} (r : RwG w b n f) (hb : Below N w w1) (h : b < N) : RwG w1 b n f :=
  ⟨Nat.lt_of_lt_of_le r.1 hb.size, fun k hk => ⟨(hb.cell (p := ⟨b, k * 3, none⟩) h).trans (r.2 k hk).1, (hb.cell (p := ⟨b, k * 3 + 1, none⟩) h).trans (r.2 k hk).2.1, (hb.cell (p := ⟨b, k * 3 + 1 + 1, none⟩) h).trans (r.2 k hk).2.2⟩⟩
theorem rwg_below {w w1 : World} {b n : Nat} {f : Nat → P3} (r : RwG w b n f) (hb : Below w.heap.size w w1) : RwG w1 b n f := rwg_in r hb r.1
theorem pw_sq {v : P3} (h : BdP 1000000 v) : BdP 1152921504606846976 (pw v v) := by
  obtain ⟨h1, h2, h3, h4, h5, h6⟩ := h
  have q1 := mul_bd h1 h2 h1 h2
  have q2 := mul_bd h3 h4 h3 h4
  have q3 := mul_bd h5 h6 h5 h6
  simp only [pw, BdP]
  omega
set_option maxRecDepth 100000 in
set_option maxHeartbeats 4000000 in
theorem ffar_any (b n c d m e : Nat) (al ah bl bh : P3) (P Q : Nat → P3) (w : World) (rp : RwG w b n P) (rq : RwG w d m Q) (hn : n ≤ 1000) (hm : m ≤ 1000) (hb : ∀ i, i < n → ∀ j, j < m → BdP 1000000 (sub (P i) (Q j))) :
    Calls Try.prog 157 #[grv b n c al ah, grv d m e bl bh] w fun e w' => e = .returned (.int .i64 (fG P Q m n)) ∧ Below w.heap.size w w' := by
  have RP := Lib.hid rp
  have RQ := Lib.hid rq
  have hbl := rp.1
  have hdl := rq.1
  have HB := Lib.hid hb
  have X0 := Lib.hid (grp_alloc (grp_new w b n c al ah 101) (grb d m e bl bh 101))
  have Y0 := Lib.hid (grp_new (w.alloc (grb b n c al ah 101)) d m e bl bh 101)
  simp only [World.size_alloc] at Y0
  have B0 := Lib.hid (show Below w.heap.size w ((w.alloc (grb b n c al ah 101)).alloc (grb d m e bl bh 101)) by (repeat' (first | exact Below.refl _ _ | refine Below.setCell ?_ (by simp <;> omega) _ | refine balloc ?_ _ | refine Below.drew ?_ | refine bdrewN ?_ _)))
  clear rp rq hb
  go_enter Try.func157, Try.ntmps157
  go_wp2
  go_loopw [5, 14] (fun mv kv wr => ∃ k : Nat, k ≤ n ∧ kv = .int .i64 k ∧ mv = .int .i64 (fG P Q m k) ∧ Grp wr (w.heap.size + 1) d m e bl bh ∧ Below w.heap.size w wr) (fun _ kv _ => n - (intOf kv).toNat)
  case atStart => exact ⟨0, Nat.zero_le _, rfl, rfl, Y0.out, B0.out⟩
  case round =>
    obtain ⟨k, hk, rfl, rfl, g1, BB⟩ := hrel
    have G1 := Lib.hid g1
    have B1 := Lib.hid BB
    clear g1 BB X0 Y0 B0
    by_cases hlt : k < n
    · have hk1 : (k : Int) < (n : Int) := by omega
      have r1 := rwg_in RP.out B1.out hbl
      obtain ⟨c0, c1, c2⟩ := r1.2 k hlt
      have hsz := r1.1
      have NX := Lib.hid (show fG P Q m (k + 1) = fI (P k) Q m (fG P Q m k) from rfl)
      have HBk := Lib.hid (HB.out k hlt)
      clear r1
      obtain ⟨⟨x0, x1, x2, x3, x4, x5, x6⟩, xs⟩ := id G1.out
      generalize fG P Q m k = y at *
      generalize P k = p at *
      generalize wr = wo at *
      have ne0 : ¬ (wo.heap.size = w.heap.size + 1) := by omega
      have ne1 : ¬ (w.heap.size + 1 = wo.heap.size) := by omega
      have O0 := Lib.hid (own_new wo p 23)
      go_wp2
      go_loopw [5, 21] (fun mv jv ws => ∃ j : Nat, j ≤ m ∧ jv = .int .i64 j ∧ mv = .int .i64 (fI p Q j y) ∧ Grp ws (w.heap.size + 1) d m e bl bh ∧ Own ws wo.heap.size p ∧ Below w.heap.size w ws) (fun _ jv _ => m - (intOf jv).toNat)
      case atStart => exact ⟨0, Nat.zero_le _, rfl, rfl, grp_alloc G1.out _, O0.out, balloc B1.out _⟩
      case round =>
        obtain ⟨j, hj, rfl, rfl, g2, o2, BB2⟩ := hrel
        have G2 := Lib.hid g2
        have O2 := Lib.hid o2
        have B2 := Lib.hid BB2
        clear g2 o2 BB2 O0 x0 x1 x2 x3 x4 x5 x6
        by_cases hjl : j < m
        · have hj1 : (j : Int) < (m : Int) := by omega
          have r2 := rwg_in RQ.out B2.out hdl
          obtain ⟨d0, d1, d2⟩ := r2.2 j hjl
          have hdz := r2.1
          have bdj := HBk.out j hjl
          have NY := Lib.hid (show fI p Q (j + 1) y = Sp.mx (fI p Q j y) (dot (sub p (Q j)) (sub p (Q j))) from rfl)
          have MC := Lib.hid (fun W => fminus_any p (Q j) W (bdj.mono (by decide)))
          have SCc := Lib.hid (fun W => fscalar_any (sub p (Q j)) (sub p (Q j)) W (pw_sq bdj))
          clear r2 bdj
          obtain ⟨o0, o1, o2, o3, o4, o5, o6⟩ := id O2.out
          have nz0 : ¬ (wr.heap.size = wo.heap.size) := by omega
          have nz1 : ¬ (wo.heap.size = wr.heap.size) := by omega
          generalize fI p Q j y = y1 at *
          generalize sub p (Q j) = v at *
          generalize Q j = q at *
          generalize dot v v = y2 at *
          go_wp2_with fail
          with_reducible refine (MC.out _).mono ?_
          rintro e w1 ⟨rfl, hb1⟩
          clear o0 o1 o2 o3 o4 o5 d0 d1 d2
          go_wp2_with fail
          with_reducible refine (SCc.out _).mono ?_
          rintro e w2 ⟨rfl, hb2⟩
          go_wp2_with fail
          have hB : Below wr.heap.size wr w2 := by (repeat' (first | exact Below.refl _ _ | refine bstep ?_ hb2 | refine bstep ?_ hb1 | refine Below.setCell ?_ (by simp <;> omega) _ | refine balloc ?_ _ | refine Below.drew ?_ | refine bdrewN ?_ _))
          go_roundw
          case rel => exact ⟨j + 1, by omega, by go_num, by rw [NY.out], grp_below G2.out hB, own_below O2.out hB, bstep B2.out hB⟩
          case measure => simp [intOf]; omega
        · obtain rfl : j = m := by omega
          go_wp2_with fail
          go_roundw
          case rel => exact ⟨k + 1, by omega, by go_num, by rw [NX.out], G2.out, B2.out⟩
          case measure => simp [intOf]; omega
    · obtain rfl : k = n := by omega
      go_wp2
      go_ret
      exact ⟨rfl, B1.out⟩

end Go.Proofs.Ytjigcgpcglfjfaa
