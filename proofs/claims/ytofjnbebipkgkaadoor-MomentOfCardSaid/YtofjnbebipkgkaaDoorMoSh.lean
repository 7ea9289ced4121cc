/-
  The contract of Shift for moments.
-/
import Derived.Test.YtofjnbebipkgkaaDoorMoAd
import Derived.StillTailTactics
namespace Go.Proofs.YtofjnbebipkgkaaDoor
open Go.ChangeShapes Go.WideShapes Go.RowKit
open Sh
def shR (m : Mo) (t : P3) : Mo × Int := if mokB m && inP 128 t then (mtold (mshift m t), mlarge (mshift m t)) else (mzero, 1)
/-- the moments whose first k elements are shifted -/
def mshk (m : Mo) (t : P3) : Nat → Mo
  | 0 => m
  | 1 => { m with s0 := sh2 m.c m.s0 m.d.1 m.d.1 t.1 t.1 }
  | 2 => { m with s0 := sh2 m.c m.s0 m.d.1 m.d.1 t.1 t.1, s1 := sh2 m.c m.s1 m.d.1 m.d.2.1 t.1 t.2.1 }
  | 3 => { m with s0 := sh2 m.c m.s0 m.d.1 m.d.1 t.1 t.1, s1 := sh2 m.c m.s1 m.d.1 m.d.2.1 t.1 t.2.1, s2 := sh2 m.c m.s2 m.d.1 m.d.2.2 t.1 t.2.2 }
  | 4 => { m with s0 := sh2 m.c m.s0 m.d.1 m.d.1 t.1 t.1, s1 := sh2 m.c m.s1 m.d.1 m.d.2.1 t.1 t.2.1, s2 := sh2 m.c m.s2 m.d.1 m.d.2.2 t.1 t.2.2, s3 := sh2 m.c m.s3 m.d.2.1 m.d.2.1 t.2.1 t.2.1 }
  | 5 => { m with s0 := sh2 m.c m.s0 m.d.1 m.d.1 t.1 t.1, s1 := sh2 m.c m.s1 m.d.1 m.d.2.1 t.1 t.2.1, s2 := sh2 m.c m.s2 m.d.1 m.d.2.2 t.1 t.2.2, s3 := sh2 m.c m.s3 m.d.2.1 m.d.2.1 t.2.1 t.2.1, s4 := sh2 m.c m.s4 m.d.2.1 m.d.2.2 t.2.1 t.2.2 }
  | _ => { m with s0 := sh2 m.c m.s0 m.d.1 m.d.1 t.1 t.1, s1 := sh2 m.c m.s1 m.d.1 m.d.2.1 t.1 t.2.1, s2 := sh2 m.c m.s2 m.d.1 m.d.2.2 t.1 t.2.2, s3 := sh2 m.c m.s3 m.d.2.1 m.d.2.1 t.2.1 t.2.1, s4 := sh2 m.c m.s4 m.d.2.1 m.d.2.2 t.2.1 t.2.2, s5 := sh2 m.c m.s5 m.d.2.2 m.d.2.2 t.2.2 t.2.2 }
theorem dip_eq (m : Mo) (t : P3) : add m.d (tim (-3 * m.c) t) = (mshift m t).d := by
  have e : ∀ d c u : Int, d + -3 * c * u = d - 3 * c * u := fun d c u => by grind
  unfold add tim mshift
  simp only [e]
theorem sh_bd {c s di dj ti tj : Int} (hc : -1048576 ≤ c ∧ c ≤ 1048576) (hs : -17179869184 ≤ s ∧ s ≤ 17179869184) (h1 : -1073741824 ≤ di ∧ di ≤ 1073741824) (h2 : -1073741824 ≤ dj ∧ dj ≤ 1073741824) (h3 : -128 ≤ ti ∧ ti ≤ 128) (h4 : -128 ≤ tj ∧ tj ≤ 128) :
    (-17179869184 ≤ s ∧ s ≤ 17179869184) ∧ (-1048576 ≤ c ∧ c ≤ 1048576) ∧ (-1610612736 ≤ 12 * c * ti ∧ 12 * c * ti ≤ 1610612736) ∧ (-206158430208 ≤ 12 * c * ti * tj ∧ 12 * c * ti * tj ≤ 206158430208) ∧ (-137438953472 ≤ di * tj ∧ di * tj ≤ 137438953472) ∧ (-137438953472 ≤ ti * dj ∧ ti * dj ≤ 137438953472) := by
  have a := mul_bd (x := 12 * c) (y := ti) (A := 12582912) (B := 128) (by omega) (by omega) h3.1 h3.2
  have b := mul_bd (x := 12 * c * ti) (y := tj) (A := 1610612736) (B := 128) (by omega) (by omega) h4.1 h4.2
  have d := mul_bd (x := di) (y := tj) (A := 1073741824) (B := 128) h1.1 h1.2 h4.1 h4.2
  have e := mul_bd (x := ti) (y := dj) (A := 128) (B := 1073741824) h3.1 h3.2 h2.1 h2.2
  exact ⟨hs, hc, by omega, by omega, by omega, by omega⟩
/-- what the loop keeps: the moments, the result, the vector and the dipole -/
def SHF (w wr : World) (B b7 b8 : Nat) (m' : Mo) (t d : P3) : Prop :=
  OwnMo wr w.heap.size m' ∧ OwnMo wr B mzero ∧ Own wr b7 t ∧ Own wr b8 d ∧ Below w.heap.size w wr
set_option maxHeartbeats 1000000 in
theorem mshf_bad (m : Mo) (t : P3) (w : World) (h : mokB m = false) :
    Calls Tryd.prog 9 #[mov m, ptv t] w fun e w' => e = .returned (.tuple #[mov0, .int .i64 1]) ∧ Below w.heap.size w w' := by
  have V := Lib.hid (fun W => mval_bad m W h)
  clear h
  go_enter Tryd.func9, Tryd.ntmps9
  go_wp2_with fail
  refine (V.out _).mono ?_
  rintro e w1 ⟨rfl, hb1⟩
  have PM := Lib.hid (ownMo_below (ownMo_alloc (ownMo_alloc (ownMo_new w m 28) (ptc t 24)) (mob0 28)) hb1)
  have PT := Lib.hid (by have z := own_below (own_alloc (own_new (w.alloc (mob m 28)) t 24) (mob0 28)) hb1; simp only [World.size_alloc] at z; exact z : Own w1 (w.heap.size + 1) t)
  have PR := Lib.hid (by have z := ownMo_below (ownMo_new0 ((w.alloc (mob m 28)).alloc (ptc t 24)) 28) hb1; simp only [World.size_alloc] at z; exact z : OwnMo w1 (w.heap.size + 1 + 1) mzero)
  have B1 := Lib.hid (bstep (balloc (balloc (balloc (Below.refl _ w) _) _) _) hb1)
  have L1 := Lib.hid (show w.heap.size + 1 + 1 < w1.heap.size from PR.out.2.2)
  clear hb1
  have OR' := PR.out
  simp only [OwnMo, mzero] at OR'
  obtain ⟨⟨y0, y1, y2, y3, y4, y5, y6, y7, y8, y9, y10⟩, ⟨g0, g1, g2, g3, g4, g5, g6, g7, g8, g9, g10⟩, lr⟩ := OR'
  go_wp2
  refine bodyPost_ret (v := .tuple #[mov0, .int .i64 1]) (by rw [results_cell_tmp rfl]; go_simp) rfl ⟨rfl, ?_⟩
  exact below_put11 B1.out (by omega)
set_option maxHeartbeats 1000000 in
theorem mshf_far (m : Mo) (t : P3) (w : World) (h : mokB m = true) (hk : inP 128 t = false) :
    Calls Tryd.prog 9 #[mov m, ptv t] w fun e w' => e = .returned (.tuple #[mov0, .int .i64 1]) ∧ Below w.heap.size w w' := by
  have V := Lib.hid (fun W => mval_ok m W h)
  have I : Hid (∀ W, Calls Tryd.prog 24 #[ptv t, .int .i64 128] W fun e w' => e = .returned (.bool false) ∧ Below W.heap.size W w') := Lib.hid (fun W => by have z := vwi_any t 128 W (by decide) (by decide); rw [hk] at z; exact z)
  clear h hk
  go_enter Tryd.func9, Tryd.ntmps9
  go_wp2_with fail
  refine (V.out _).mono ?_
  rintro e w1 ⟨rfl, hb1⟩
  have PM := Lib.hid (ownMo_below (ownMo_alloc (ownMo_alloc (ownMo_new w m 28) (ptc t 24)) (mob0 28)) hb1)
  have PT := Lib.hid (by have z := own_below (own_alloc (own_new (w.alloc (mob m 28)) t 24) (mob0 28)) hb1; simp only [World.size_alloc] at z; exact z : Own w1 (w.heap.size + 1) t)
  have PR := Lib.hid (by have z := ownMo_below (ownMo_new0 ((w.alloc (mob m 28)).alloc (ptc t 24)) 28) hb1; simp only [World.size_alloc] at z; exact z : OwnMo w1 (w.heap.size + 1 + 1) mzero)
  have B1 := Lib.hid (bstep (balloc (balloc (balloc (Below.refl _ w) _) _) _) hb1)
  have L1 := Lib.hid (show w.heap.size + 1 + 1 < w1.heap.size from PR.out.2.2)
  clear hb1
  have PT' := PT.out
  obtain ⟨t1, t2, t3, t4, t5, t6, t7⟩ := PT'
  go_wp2_with fail
  refine (vof_any t _).mono ?_
  rintro e w2 ⟨rfl, hb2⟩
  clear t1 t2 t3 t4 t5 t6 t7
  have PM := Lib.hid (ownMo_below PM.out hb2)
  have PR := Lib.hid (ownMo_below PR.out hb2)
  have B2 := Lib.hid (bstep B1.out hb2)
  have L2 := Lib.hid (Nat.lt_of_lt_of_le L1.out hb2.size)
  clear hb2
  go_wp2_with fail
  refine (I.out _).mono ?_
  rintro e w3 ⟨rfl, hb3⟩
  have L3 := Lib.hid (show w2.heap.size < w3.heap.size by have := hb3.size; simp only [World.size_alloc] at this; omega)
  have PV := Lib.hid (own_below (own_new w2 t 42) hb3)
  have PM := Lib.hid (ownMo_below (ownMo_alloc PM.out _) hb3)
  have PR := Lib.hid (ownMo_below (ownMo_alloc PR.out _) hb3)
  have B3 := Lib.hid (bstep (balloc B2.out _) hb3)
  clear hb3
  have OR' := PR.out
  simp only [OwnMo, mzero] at OR'
  obtain ⟨⟨y0, y1, y2, y3, y4, y5, y6, y7, y8, y9, y10⟩, ⟨g0, g1, g2, g3, g4, g5, g6, g7, g8, g9, g10⟩, lr⟩ := OR'
  go_wp2
  refine bodyPost_ret (v := .tuple #[mov0, .int .i64 1]) (by rw [results_cell_tmp rfl]; go_simp) rfl ⟨rfl, ?_⟩
  exact below_put11 B3.out (by omega)

end Go.Proofs.YtofjnbebipkgkaaDoor
