/-
  The contract of known: the volume's center of the box 2 2 2.
-/
import Derived.Test.YtllonfaogbdbnaaCenter
import Derived.Test.YtllonfaogbdbnaaBlock
namespace Go.Proofs.Ytllonfaogbdbnaa
open Go.ChangeShapes Go.WideShapes Go.RowKit
open Sh
theorem vcode_ok {np nf : Nat} {P F : Nat → P3} (h : vcode ⟨np, nf, P, F⟩ = 0) : np ≤ 64 ∧ 0 < nf ∧ nf ≤ 96 ∧ ptsB P np = true ∧ (∀ k, k < nf → fcode np P (F k) = 0) := by
  unfold vcode at h
  dsimp only at h
  split at h
  · exact absurd h (by decide)
  rename_i h1
  split at h
  · exact absurd h (by decide)
  rename_i h2
  split at h
  · rename_i h3; exact absurd h h3
  rename_i h3
  refine ⟨by omega, by omega, by omega, by simpa using h2, ?_⟩
  rcases first_bad3 (fun k => fcode np P (F k)) nf with z | ⟨k0, hk0, ne, z⟩
  · exact z
  · rw [fcodes_bad hk0 ne z] at h3; exact absurd ne h3
theorem box2_ok : vcode ⟨8, 12, boxP 2 2 2, boxF⟩ = 0 := by decide +kernel
theorem box2_cen : cen (boxP 2 2 2) boxF 12 = (192, 192, 192) := by decide +kernel
theorem cen_yes (a : Option Addr) (np c : Nat) (a' : Option Addr) (nf c' : Nat) (P F : Nat → P3) (w : World) (rp : Lst w a np P) (rf : Lst w a' nf F) (z : vcode ⟨np, nf, P, F⟩ = 0) :
    Calls Try.prog 30 #[msv a np c a' nf c'] w fun e w' => e = .returned (.tuple #[ptv (cen P F nf), .int .i64 0]) ∧ Below w.heap.size w w' := by
  obtain ⟨h1, h2, h3, h4, h5⟩ := vcode_ok z
  have V := fun W (B : Below w.heap.size w W) => val_any a np c a' nf c' P F W (lst_below rp B) (lst_below rf B) (by omega) (by omega)
  rw [z] at V
  have fo : ∀ k, k < nf → Fok np (F k) := fun k hk => fcode_ok (h5 k hk)
  have hnp : 0 < np := by have := fo 0 h2; unfold Fok at this; omega
  obtain ⟨b', off', rfl, rF⟩ := rf h2
  obtain ⟨b, off, rfl, rP⟩ := rp hnp
  exact cen_row b off np c b' off' nf c' P F w (Lib.hid V) (Lib.hid fun W B => panels_row b off np c b' off' nf c' P F W (row3_below rP B) (row3_below rF B) (by omega) (by omega) h2 fo) h2 (by omega) (trB_of (fun i hi => inP_iff.1 (pts_in h4 i hi)) fo)
theorem known_any2 (w : World) :
    Calls Try.prog 7 #[] w fun e w' => e = .returned (.bool true) ∧ Below w.heap.size w w' := by
  have BK := Lib.hid (fun W => block_row 2 2 2 W (by decide) (by decide) (by decide))
  go_enter Try.func7, Try.ntmps7
  go_wp2_with fail
  refine (BK.out _).mono ?_
  rintro e w1 ⟨h, _⟩
  obtain ⟨a, c, a', c', rfl, l1, l2, hb1⟩ := h box2_ok
  have CY := Lib.hid (fun W (B : Below w1.heap.size w1 W) => cen_yes a 8 c a' 12 c' (boxP 2 2 2) boxF W (lst_below l1 B) (lst_below l2 B) box2_ok)
  rw [box2_cen] at CY
  have m1 := mes_new w1 a 8 c a' 12 c' 25
  have B1 := Lib.hid hb1
  have M1 := Lib.hid m1
  obtain ⟨x1, x2, x3⟩ := m1
  clear h l1 l2 hb1
  go_wp2_with fail
  refine (CY.out _ (by (repeat' (first | exact Below.refl _ _ | refine Below.setCell ?_ (by simp <;> omega) _ | refine balloc ?_ _ | refine Below.drew ?_ | refine bdrewN ?_ _)))).mono ?_
  rintro e w2 ⟨rfl, hb2⟩
  have m2 := mes_below M1.out hb2
  obtain ⟨y1, y2, y3⟩ := m2
  clear x1 x2 x3
  go_wp2
  go_ret
  exact ⟨rfl, by have hB := B1.out; (repeat' (first | exact Below.refl _ _ | refine bstep ?_ hb2 | refine bstep ?_ hB | refine Below.setCell ?_ (by simp <;> omega) _ | refine balloc ?_ _ | refine Below.drew ?_ | refine bdrewN ?_ _))⟩

end Go.Proofs.Ytllonfaogbdbnaa
