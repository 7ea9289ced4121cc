/-
  The contract of field.near.
-/
import Derived.Test.YtjigcgpcglfjfaaFgR
namespace Go.Proofs.Ytjigcgpcglfjfaa
open Go.ChangeShapes Go.WideShapes Go.RowKit
open Sh
theorem gp_bd {L al ah bl bh : Int} (h1 : -L ≤ al ∧ al ≤ L) (h2 : -L ≤ ah ∧ ah ≤ L) (h3 : -L ≤ bl ∧ bl ≤ L) (h4 : -L ≤ bh ∧ bh ≤ L) : 0 ≤ gp al ah bl bh ∧ gp al ah bl bh ≤ 2 * L := by
  unfold gp
  simp only [Sp.mx_eq]
  omega
set_option maxHeartbeats 2000000 in
theorem fnear_any (b n c d m e : Nat) (al ah bl bh : P3) (w : World) (h1 : BdP 1000000 al) (h2 : BdP 1000000 ah) (h3 : BdP 1000000 bl) (h4 : BdP 1000000 bh) :
    Calls Try.prog 155 #[grv b n c al ah, grv d m e bl bh] w fun e w' => e = .returned (.int .i64 (nG al ah bl bh)) ∧ Below w.heap.size w w' := by
  obtain ⟨a1, a2, a3, a4, a5, a6⟩ := h1
  obtain ⟨b1, b2, b3, b4, b5, b6⟩ := h2
  obtain ⟨c1, c2, c3, c4, c5, c6⟩ := h3
  obtain ⟨d1, d2, d3, d4, d5, d6⟩ := h4
  have g1 := gp_bd ⟨a1, a2⟩ ⟨b1, b2⟩ ⟨c1, c2⟩ ⟨d1, d2⟩
  have g2 := gp_bd ⟨a3, a4⟩ ⟨b3, b4⟩ ⟨c3, c4⟩ ⟨d3, d4⟩
  have g3 := gp_bd ⟨a5, a6⟩ ⟨b5, b6⟩ ⟨c5, c6⟩ ⟨d5, d6⟩
  have P : Hid (BdP 1152921504606846976 (pw (gp3 al ah bl bh) (gp3 al ah bl bh))) := Lib.hid (by
    have q1 := mul_bd (A := 2000000) (B := 2000000) (by omega) g1.2 (by omega) g1.2
    have q2 := mul_bd (A := 2000000) (B := 2000000) (by omega) g2.2 (by omega) g2.2
    have q3 := mul_bd (A := 2000000) (B := 2000000) (by omega) g3.2 (by omega) g3.2
    simp only [pw, gp3, BdP]
    omega)
  have G1 := Lib.hid (show (-4611686018427387904 ≤ bl.1 - ah.1 ∧ bl.1 - ah.1 ≤ 4611686018427387904) ∧ (-4611686018427387904 ≤ al.1 - bh.1 ∧ al.1 - bh.1 ≤ 4611686018427387904) by omega)
  have G2 := Lib.hid (show (-4611686018427387904 ≤ bl.2.1 - ah.2.1 ∧ bl.2.1 - ah.2.1 ≤ 4611686018427387904) ∧ (-4611686018427387904 ≤ al.2.1 - bh.2.1 ∧ al.2.1 - bh.2.1 ≤ 4611686018427387904) by omega)
  have G3 := Lib.hid (show (-4611686018427387904 ≤ bl.2.2 - ah.2.2 ∧ bl.2.2 - ah.2.2 ≤ 4611686018427387904) ∧ (-4611686018427387904 ≤ al.2.2 - bh.2.2 ∧ al.2.2 - bh.2.2 ≤ 4611686018427387904) by omega)
  clear a1 a2 a3 a4 a5 a6 b1 b2 b3 b4 b5 b6 c1 c2 c3 c4 c5 c6 d1 d2 d3 d4 d5 d6 g1 g2 g3
  have X0 := Lib.hid (grp_alloc (grp_new w b n c al ah 101) (grb d m e bl bh 101))
  have Y0 := Lib.hid (grp_new (w.alloc (grb b n c al ah 101)) d m e bl bh 101)
  simp only [World.size_alloc] at Y0
  have B0 := Lib.hid (show Below w.heap.size w ((w.alloc (grb b n c al ah 101)).alloc (grb d m e bl bh 101)) by (repeat' (first | exact Below.refl _ _ | refine Below.setCell ?_ (by simp <;> omega) _ | refine balloc ?_ _ | refine Below.drew ?_ | refine bdrewN ?_ _)))
  go_enter Try.func155, Try.ntmps155
  go_wp2_with fail
  generalize hW : (w.alloc (grb b n c al ah 101)).alloc (grb d m e bl bh 101) = W0 at *
  have hS : W0.heap.size = w.heap.size + 1 + 1 := by rw [← hW]; simp
  clear hW
  refine fnr_reg (fun W => (Grp W w.heap.size b n c al ah ∧ Grp W (w.heap.size + 1) d m e bl bh) ∧ Below w.heap.size w W) (w.heap.size + 1 + 1) w.heap.size (w.heap.size + 1) al ah bl bh G1 G2 G3 (Lib.hid fun W h => by obtain ⟨⟨h1, h2⟩, _⟩ := h; obtain ⟨⟨k0, k1, k2, k3, k4, k5, k6⟩, _⟩ := h1; obtain ⟨k', _⟩ := h2; exact ⟨k1, k2, k3, k4, k5, k6, k'.2⟩) (Lib.hid fun W W' hb h => ⟨⟨grp_in h.1.1 hb (by omega), grp_in h.1.2 hb (by omega)⟩, Below.trans h.2 (hb.mono (by omega))⟩) (by omega) ⟨⟨grp_drew X0.out, grp_drew Y0.out⟩, by have := B0.out; (repeat' (first | exact Below.refl _ _ | refine bstep ?_ this | refine Below.setCell ?_ (by simp <;> omega) _ | refine balloc ?_ _ | refine Below.drew ?_ | refine bdrewN ?_ _))⟩ ?_
  intros
  rename_i k0 W1 kN kG kb kO
  obtain ⟨o0, o1, o2, o3, o4, o5, o6⟩ := id kO
  have kB := kG.2
  clear kG X0 Y0 B0
  go_wp2_with fail
  with_reducible refine (fscalar_any (gp3 al ah bl bh) (gp3 al ah bl bh) _ P.out).mono ?_
  rintro e w2 ⟨rfl, hb⟩
  clear o0 o1 o2 o3 o4 o5 o6
  go_wp2
  go_ret
  exact ⟨rfl, by (repeat' (first | exact Below.refl _ _ | refine bstep ?_ hb | refine bstep ?_ kB | refine Below.setCell ?_ (by simp <;> omega) _ | refine balloc ?_ _ | refine Below.drew ?_ | refine bdrewN ?_ _))⟩

end Go.Proofs.Ytjigcgpcglfjfaa
