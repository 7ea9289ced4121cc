/-
  The document's gap of two lists of numbers, squared.
-/
import Derived.Test.YtjigcgpcglfjfaaFg15
namespace Go.Proofs.Ytjigcgpcglfjfaa
open Go.ChangeShapes Go.WideShapes Go.RowKit
open Sh
attribute [local go_sem 1000000] run_min_mn run_max_mx
attribute [local go_sem high] run_max3' run_min3'
theorem mnN_bd {f : Nat → Int} {B : Int} (h0 : -B ≤ f 0 ∧ f 0 ≤ B) : ∀ {n : Nat}, (∀ k, k < n → -B ≤ f k ∧ f k ≤ B) → (-B ≤ mnN f n ∧ mnN f n ≤ B) ∧ (-B ≤ mxN f n ∧ mxN f n ≤ B)
  | 0, _ => ⟨h0, h0⟩
  | n + 1, h => by
    obtain ⟨h1, h2⟩ := mnN_bd h0 (n := n) fun k hk => h k (by omega)
    have h3 := h n (by omega)
    exact ⟨mn_bd9 h1 h3, mx_bd9 h2 h3⟩
theorem gp_sw (al ah bl bh : Int) : Sp.mx (Sp.mx 0 (al - bh)) (bl - ah) = gp al ah bl bh := by
  unfold gp
  simp only [Sp.mx_eq]
  omega
set_option maxHeartbeats 1000000 in
theorem rgap_any (b n c d m e : Nat) (f g : Nat → Int) (w : World) (r : RwI w b n f) (r' : RwI w d m g) (n0 : 0 < n) (n1 : n ≤ 1000) (m0 : 0 < m) (m1 : m ≤ 1000) (hf : ∀ k, k < n → -1000000 ≤ f k ∧ f k ≤ 1000000) (hg : ∀ k, k < m → -1000000 ≤ g k ∧ g k ≤ 1000000) :
    Calls Try.prog 159 #[.slice (some ⟨b, 0, none⟩) n c, .slice (some ⟨d, 0, none⟩) m e] w fun e w' => e = .returned (.int .i64 (gp (mnN f n) (mxN f n) (mnN g m) (mxN g m) * gp (mnN f n) (mxN f n) (mnN g m) (mxN g m))) ∧ Below w.heap.size w w' := by
  have C1 := Lib.hid (fun (W : World) (B : Below w.heap.size w W) => rbounds_any b n c f W (rwi_below r B) n0 n1)
  have C2 := Lib.hid (fun (W : World) (B : Below w.heap.size w W) => rbounds_any d m e g W (rwi_below r' B) m0 m1)
  obtain ⟨⟨a1, a2⟩, a3, a4⟩ := mnN_bd (hf 0 n0) (n := n) hf
  obtain ⟨⟨b1, b2⟩, b3, b4⟩ := mnN_bd (hg 0 m0) (n := m) hg
  have gb := gp_bd (L := 1000000) ⟨a1, a2⟩ ⟨a3, a4⟩ ⟨b1, b2⟩ ⟨b3, b4⟩
  have SW := gp_sw (mnN f n) (mxN f n) (mnN g m) (mxN g m)
  have q := mul_bd (A := 2000000) (B := 2000000) (by omega) gb.2 (by omega) gb.2
  obtain ⟨q1, q2⟩ := q
  obtain ⟨g1, g2⟩ := gb
  clear r r' hf hg
  generalize gp (mnN f n) (mxN f n) (mnN g m) (mxN g m) = z at *
  generalize mnN f n = al at *
  generalize mxN f n = ah at *
  generalize mnN g m = bl at *
  generalize mxN g m = bh at *
  go_enter Try.func159, Try.ntmps159
  go_wp2_with fail
  refine (C1.out _ (Below.refl _ _)).mono ?_
  rintro e w1 ⟨rfl, hb1⟩
  go_wp2_with fail
  refine (C2.out _ hb1).mono ?_
  rintro e w2 ⟨rfl, hb2⟩
  go_wp2
  go_ret
  exact ⟨rfl, by (repeat' (first | exact Below.refl _ _ | refine bstep ?_ hb2 | refine bstep ?_ hb1 | refine Below.setCell ?_ (by simp <;> omega) _ | refine balloc ?_ _ | refine Below.drew ?_ | refine bdrewN ?_ _))⟩

end Go.Proofs.Ytjigcgpcglfjfaa
