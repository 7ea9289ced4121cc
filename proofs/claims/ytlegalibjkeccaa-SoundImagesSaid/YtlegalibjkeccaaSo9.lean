/-
  The contract of Heard, and of the chapter's examples.
-/
import Derived.Test.YtlegalibjkeccaaSo8
import Derived.Test.YtlegalibjkeccaaSo5
namespace Go.Proofs.Ytlegalibjkeccaa
open Go.ChangeShapes Go.WideShapes Go.RowKit
open Sh
/-- the error of a pulse and a microphone at a tick -/
def hcode (p : Pu) (x : P3) (s t d : Int) : Int := if pucode p = 0 then acode8 x s t d else pucode p
theorem hcode_m (p : Pu) (x : P3) (s t d : Int) : mcode8 (vpcode 1 (fun _ => p)) x s d (tcode (fun _ => t) 1) = hcode p x s t d := by
  have e : vpcode 1 (fun _ => p) = pucode p := by
    show (if (1 : Nat) ≤ 16 then (if (0 : Int) = 0 then pucode p else 0) else 4) = _
    rw [if_pos (by decide), if_pos rfl]
  have f : tcode (fun _ => t) 1 = if rngB t 0 2000 then 0 else 1 := by
    show (if (0 : Int) = 0 then (if rngB t 0 2000 then (0 : Int) else 1) else 1) = _
    rw [if_pos rfl]
  rw [e, f]
  unfold mcode8 hcode acode8
  cases inP 256 x <;> cases rngB s 1 16 <;> cases rngB t 0 2000 <;> cases rngB d 0 3 <;> rfl
theorem hcode_ok {p : Pu} {x : P3} {s t d : Int} (h : hcode p x s t d = 0) : pucode p = 0 ∧ BdP 256 x ∧ (1 ≤ s ∧ s ≤ 16) ∧ (0 ≤ t ∧ t ≤ 2000) ∧ (0 ≤ d ∧ d ≤ 3) := by
  unfold hcode at h
  by_cases z : pucode p = 0
  · rw [if_pos z] at h
    exact ⟨z, acode8_ok h⟩
  · rw [if_neg z] at h
    exact absurd h z
def heaR (p : Pu) (x : P3) (s t d : Int) : Sp.R := if hcode p x s t d = 0 then hdR x s d p t else ((0, 0), hcode p x s t d)
set_option maxRecDepth 100000 in
set_option maxHeartbeats 2000000 in
theorem hea_no (p : Pu) (x : P3) (s t d c : Int) (w : World) (C : Hid (∀ (W : World) (b : Nat), b = W.heap.size → Calls Try.prog 21 #[micv x s d, .slice (some ⟨b, 0, none⟩) 1 1, .slice (some ⟨b + 1, 0, none⟩) 1 1] ((W.alloc (pub p 27)).alloc (.cells #[.int .i64 t] 3)) fun e w' => e = .returned (.int .i64 c) ∧ Below ((W.alloc (pub p 27)).alloc (.cells #[.int .i64 t] 3)).heap.size ((W.alloc (pub p 27)).alloc (.cells #[.int .i64 t] 3)) w')) (z : (c != 0) = true) : Calls Try.prog 29 #[puv p, ptv x, .int .i64 s, .int .i64 t, .int .i64 d] w fun e w' => e = .returned (spr ((0, 0), c)) ∧ Below w.heap.size w w' := by
  have P := Lib.hid (ownPu_alloc (ownPu_alloc (ownPu_alloc (ownPu_new w p 27) (ptc x 23)) (.cells #[.int .i64 0, .int .i64 0] 52)) (micb x s d 44))
  have R := Lib.hid (pair_alloc (pair_new ((w.alloc (pub p 27)).alloc (ptc x 23)) 0 0 52) (micb x s d 44))
  have M := Lib.hid (ownMic_new (((w.alloc (pub p 27)).alloc (ptc x 23)).alloc (.cells #[.int .i64 0, .int .i64 0] 52)) x s d 44)
  simp only [World.size_alloc] at R M
  go_enter Try.func29, Try.ntmps29
  go_wp2_with fail
  refine (C.out _ _ (by simp)).mono ?_
  rintro e w1 ⟨rfl, hb1⟩
  obtain ⟨g0, g1, g2, g3, gl⟩ := pair_below (pair_alloc (pair_alloc R.out (pub p 27)) (.cells #[.int .i64 t] 3)) hb1
  go_wp2
  refine bodyPost_ret (v := spr ((0, 0), c)) (by rw [results_cell_tmp rfl]; go_simp) rfl ⟨rfl, ?_⟩
  (repeat' (first | exact Below.refl _ _ | refine bstep ?_ hb1 | refine Below.setCell ?_ (by simp <;> omega) _ | refine balloc ?_ _ | refine Below.drew ?_ | refine bdrewN ?_ _))
set_option maxRecDepth 100000 in
set_option maxHeartbeats 2000000 in
theorem hea_ok (p : Pu) (x : P3) (s t d : Int) (r : Sp.R) (w : World) (C : Hid (∀ (W : World) (b : Nat), b = W.heap.size → Calls Try.prog 21 #[micv x s d, .slice (some ⟨b, 0, none⟩) 1 1, .slice (some ⟨b + 1, 0, none⟩) 1 1] ((W.alloc (pub p 27)).alloc (.cells #[.int .i64 t] 3)) fun e w' => e = .returned (.int .i64 0) ∧ Below ((W.alloc (pub p 27)).alloc (.cells #[.int .i64 t] 3)).heap.size ((W.alloc (pub p 27)).alloc (.cells #[.int .i64 t] 3)) w')) (H : Hid (∀ W, Calls Try.prog 49 #[micv x s d, puv p, .int .i64 t] W fun e w' => e = .returned (spr r) ∧ Below W.heap.size W w')) : Calls Try.prog 29 #[puv p, ptv x, .int .i64 s, .int .i64 t, .int .i64 d] w fun e w' => e = .returned (spr r) ∧ Below w.heap.size w w' := by
  have P := Lib.hid (ownPu_alloc (ownPu_alloc (ownPu_alloc (ownPu_new w p 27) (ptc x 23)) (.cells #[.int .i64 0, .int .i64 0] 52)) (micb x s d 44))
  have R := Lib.hid (pair_alloc (pair_new ((w.alloc (pub p 27)).alloc (ptc x 23)) 0 0 52) (micb x s d 44))
  have M := Lib.hid (ownMic_new (((w.alloc (pub p 27)).alloc (ptc x 23)).alloc (.cells #[.int .i64 0, .int .i64 0] 52)) x s d 44)
  simp only [World.size_alloc] at R M
  go_enter Try.func29, Try.ntmps29
  go_wp2_with fail
  refine (C.out _ _ (by simp)).mono ?_
  rintro e w1 ⟨rfl, hb1⟩
  obtain ⟨g0, g1, g2, g3, gl⟩ := pair_below (pair_alloc (pair_alloc R.out (pub p 27)) (.cells #[.int .i64 t] 3)) hb1
  obtain ⟨⟨m0, m1, m2, m3, m4⟩, ml⟩ := ownMic_below (ownMic_alloc (ownMic_alloc M.out (pub p 27)) (.cells #[.int .i64 t] 3)) hb1
  obtain ⟨⟨d0, d1, d2, d3, d4, d5, d6, d7, d8, d9, d10⟩, dl⟩ := ownPu_below (ownPu_alloc (ownPu_alloc P.out (pub p 27)) (.cells #[.int .i64 t] 3)) hb1
  have E0 := Lib.hid (show Pair w1 (w.heap.size + 1 + 1) 0 0 from ⟨g0, g1, g2, g3, gl⟩)
  go_wp2_with fail
  refine (H.out _).mono ?_
  rintro e w2 ⟨rfl, hb2⟩
  clear g0 g1 g2 g3 gl m0 m1 m2 m3 m4 ml d0 d1 d2 d3 d4 d5 d6 d7 d8 d9 d10 dl
  obtain ⟨g0, g1, g2, g3, gl⟩ := pair_below E0.out hb2
  go_wp2
  refine bodyPost_ret (v := spr r) (by rw [results_cell_tmp rfl]; go_simp) rfl ⟨rfl, ?_⟩
  (repeat' (first | exact Below.refl _ _ | refine bstep ?_ hb2 | refine bstep ?_ hb1 | refine Below.setCell ?_ (by simp <;> omega) _ | refine balloc ?_ _ | refine Below.drew ?_ | refine bdrewN ?_ _))
theorem hea_any (p : Pu) (x : P3) (s t d : Int) (w : World) : Calls Try.prog 29 #[puv p, ptv x, .int .i64 s, .int .i64 t, .int .i64 d] w fun e w' => e = .returned (spr (heaR p x s t d)) ∧ Below w.heap.size w w' := by
  have C := fun (W : World) (b : Nat) (e : b = W.heap.size) => mck_any x s d (some ⟨b, 0, none⟩) 1 1 (some ⟨b + 1, 0, none⟩) 1 1 (fun _ => p) (fun _ => t) ((W.alloc (pub p 27)).alloc (.cells #[.int .i64 t] 3)) (fun _ => ⟨_, _, rfl, rowU_below (e ▸ rowU_one W p 27) ((Below.refl _ _).alloc (Nat.le_refl _) _)⟩) (by decide) (fun _ => ⟨_, _, rfl, by simp [e], fun k hk => by
    obtain rfl : k = 0 := by omega
    subst e
    rw [Nat.add_zero]
    have z : (W.alloc (pub p 27)).heap.size = W.heap.size + 1 := by simp
    rw [← z]
    go_simp⟩) (by decide)
  rw [hcode_m] at C
  unfold heaR
  by_cases z : hcode p x s t d = 0
  · rw [if_pos z]
    rw [z] at C
    obtain ⟨h1, h2, h3, h4, h5⟩ := hcode_ok z
    exact hea_ok p x s t d _ w (Lib.hid C) (Lib.hid fun W => hrd_any x s d p t W h1 h2 h3.1 h3.2 h5.1 h5.2 h4.1 h4.2)
  · rw [if_neg z]
    exact hea_no p x s t d _ w (Lib.hid C) (bne_iff_ne.2 z)
/-- the chapter's pulse -/
def exP : Pu := (((10, 0, 0), (12, 0, 0), (10, 2, 0)), 7, 3)
theorem ex_trv : trvR (0, 0, 0) (3, 4, 0) 2 = 3 ∧ trcode (0, 0, 0) (3, 4, 0) 2 = 0 := by decide
theorem ex_fst : fstR exP (0, 0, 0) 2 = 12 ∧ fcode exP (0, 0, 0) 2 = 0 := by decide
theorem ex_h7 : heaR exP (0, 0, 0) 2 7 1 = ((0, 0), 0) := by decide
theorem isq_eq8 {n r : Nat} (h1 : r * r ≤ n) (h2 : n < (r + 1) * (r + 1)) : Rt.isq n = r := by
  obtain ⟨k1, k2⟩ := Rt.isq_spec n
  rcases Nat.lt_trichotomy (Rt.isq n) r with h | h | h
  · have := Nat.mul_le_mul (show Rt.isq n + 1 ≤ r from h) (show Rt.isq n + 1 ≤ r from h)
    omega
  · exact h
  · have := Nat.mul_le_mul (show r + 1 ≤ Rt.isq n from h) (show r + 1 ≤ Rt.isq n from h)
    omega
theorem inv_val (n r : Nat) (h1 : r * r ≤ 4398046511104 / n) (h2 : 4398046511104 / n < (r + 1) * (r + 1)) (h3 : QW 4398046511104 n 1 = false) (h4 : 1 ≤ (n : Int) ∧ (n : Int) ≤ 1099511627776) (h5 : Sp.vldB r (r + 1 : Nat) = true) : invR n 2 = ((((r : Nat) : Int), ((r + 1 : Nat) : Int)), 0) := by
  have e : Rt.isq (QT 4398046511104 n 1) = r := isq_eq8 h1 h2
  unfold invR
  rw [if_pos ⟨h4.1, h4.2, by decide, by decide⟩]
  show belowR 4398046511104 ((n : Int).toNat) 1 = _
  rw [show ((n : Int).toNat) = n from rfl]
  unfold belowR qUp
  rw [h3, e]
  simp only [Bool.false_eq_true, if_false]
  exact Sp.told_yes h5
theorem iv_400 : invR 400 2 = ((104857, 104858), 0) := inv_val 400 104857 (by decide) (by decide) (by decide) (by decide) (by decide)
theorem iv_576 : invR 576 2 = ((87381, 87382), 0) := inv_val 576 87381 (by decide) (by decide) (by decide) (by decide) (by decide)
theorem iv_484 : invR 484 2 = ((95325, 95326), 0) := inv_val 484 95325 (by decide) (by decide) (by decide) (by decide) (by decide)
theorem iv_488 : invR 488 2 = ((94933, 94934), 0) := inv_val 488 94933 (by decide) (by decide) (by decide) (by decide) (by decide)
theorem iv_404 : invR 404 2 = ((104337, 104338), 0) := inv_val 404 104337 (by decide) (by decide) (by decide) (by decide) (by decide)
theorem ex_g0 : shG (0, 0, 0) 2 1 (13 - exP.2.1) (ptk exP.1 1 0) = ((0, 104858), 0) := by
  have e1 : Sp.mx (nearN (ptk exP.1 1 0) (tim (scl 1) (0, 0, 0))) (inn 2 1 (13 - exP.2.1)) = 400 := by decide
  have e2 : scl 1 = 2 := by decide
  show giR _ _ _ _ _ = _
  unfold giR
  rw [if_neg (by decide), if_neg (by decide), if_pos (by decide), e1, e2, iv_400]
theorem ex_g1 : shG (0, 0, 0) 2 1 (13 - exP.2.1) (ptk exP.1 1 1) = ((87381, 95326), 0) := by
  have e1 : Sp.mx (nearN (ptk exP.1 1 1) (tim (scl 1) (0, 0, 0))) (inn 2 1 (13 - exP.2.1)) = 484 := by decide
  have e2 : scl 1 = 2 := by decide
  have e3 : farN (ptk exP.1 1 1) (tim (scl 1) (0, 0, 0)) = 576 := by decide
  show giR _ _ _ _ _ = _
  unfold giR
  rw [if_neg (by decide), if_neg (by decide), if_neg (by decide), e1, e3, e2, iv_484, iv_576]
theorem ex_g2 : shG (0, 0, 0) 2 1 (13 - exP.2.1) (ptk exP.1 1 2) = ((94933, 104338), 0) := by
  have e1 : Sp.mx (nearN (ptk exP.1 1 2) (tim (scl 1) (0, 0, 0))) (inn 2 1 (13 - exP.2.1)) = 404 := by decide
  have e2 : scl 1 = 2 := by decide
  have e3 : farN (ptk exP.1 1 2) (tim (scl 1) (0, 0, 0)) = 488 := by decide
  show giR _ _ _ _ _ = _
  unfold giR
  rw [if_neg (by decide), if_neg (by decide), if_neg (by decide), e1, e3, e2, iv_404, iv_488]
theorem ex_g3 : shG (0, 0, 0) 2 1 (13 - exP.2.1) (ptk exP.1 1 3) = ((0, 104858), 0) := by
  have e1 : Sp.mx (nearN (ptk exP.1 1 3) (tim (scl 1) (0, 0, 0))) (inn 2 1 (13 - exP.2.1)) = 400 := by decide
  have e2 : scl 1 = 2 := by decide
  show giR _ _ _ _ _ = _
  unfold giR
  rw [if_neg (by decide), if_neg (by decide), if_pos (by decide), e1, e2, iv_400]
theorem ex_gis : gis (shG (0, 0, 0) 2 1 (13 - exP.2.1)) (ptk exP.1 1) (ptn 1) = [(0, 104858), (87381, 95326), (94933, 104338), (0, 104858)] := by
  show ((([] ++ [(shG (0, 0, 0) 2 1 (13 - exP.2.1) (ptk exP.1 1 0)).1]) ++ [(shG (0, 0, 0) 2 1 (13 - exP.2.1) (ptk exP.1 1 1)).1]) ++ [(shG (0, 0, 0) 2 1 (13 - exP.2.1) (ptk exP.1 1 2)).1]) ++ [(shG (0, 0, 0) 2 1 (13 - exP.2.1) (ptk exP.1 1 3)).1] = _
  rw [ex_g0, ex_g1, ex_g2, ex_g3]
  rfl
theorem ex_gie : gie (shG (0, 0, 0) 2 1 (13 - exP.2.1)) (ptk exP.1 1) (ptn 1) = 0 := by
  have h : ∀ k, k ≤ 4 → gie (shG (0, 0, 0) 2 1 (13 - exP.2.1)) (ptk exP.1 1) k = 0 := by
    intro k
    induction k with
    | zero => exact fun _ => rfl
    | succ k ih =>
      intro hk
      refine gie_next (ih (by omega)) ?_
      have : k = 0 ∨ k = 1 ∨ k = 2 ∨ k = 3 := by omega
      rcases this with rfl | rfl | rfl | rfl
      · rw [ex_g0]
      · rw [ex_g1]
      · rw [ex_g2]
      · rw [ex_g3]
  exact h 4 (Nat.le_refl _)
def exL : List (Int × Int) := [(0, 104858), (87381, 95326), (94933, 104338), (0, 104858)]
def exM : Sp.R := mnR8 (fun k => (exL.getD k (0, 0)).1) (fun k => (exL.getD k (0, 0)).2) 4
theorem ex_h13e : heaR exP (0, 0, 0) 2 13 1 = scaleR exM.1.1 exM.1.2 3 := by
  unfold heaR hdR
  rw [if_pos (by decide), if_neg (by decide), if_neg (fun c => c ex_gie), ex_gis]
  show (if exM.2 ≠ 0 then _ else scaleR exM.1.1 exM.1.2 3) = _
  rw [if_neg (by decide)]
theorem ex_h13 : (heaR exP (0, 0, 0) 2 13 1).2 = 0 ∧ 0 < (heaR exP (0, 0, 0) 2 13 1).1.2 := by
  rw [ex_h13e]
  decide
set_option maxRecDepth 100000 in
set_option maxHeartbeats 2000000 in
theorem sane_any (w : World) : Calls Try.prog 11 #[] w fun e w' => e = .returned (.bool true) ∧ Below w.heap.size w w' := by
  have T : Hid (∀ W, Calls Try.prog 12 #[.agg #[.int .i64 0, .int .i64 0, .int .i64 0], .agg #[.int .i64 3, .int .i64 4, .int .i64 0], .int .i64 2] W fun e w' => e = .returned (.tuple #[.int .i64 3, .int .i64 0]) ∧ Below W.heap.size W w') := Lib.hid (fun W => by have z := trv_any (0, 0, 0) (3, 4, 0) 2 W; rw [ex_trv.1, ex_trv.2] at z; exact z)
  have FF : Hid (∀ W, Calls Try.prog 7 #[.agg #[.int .i64 10, .int .i64 0, .int .i64 0, .int .i64 12, .int .i64 0, .int .i64 0, .int .i64 10, .int .i64 2, .int .i64 0, .int .i64 7, .int .i64 3], .agg #[.int .i64 0, .int .i64 0, .int .i64 0], .int .i64 2] W fun e w' => e = .returned (.tuple #[.int .i64 12, .int .i64 0]) ∧ Below W.heap.size W w') := Lib.hid (fun W => by have z := fst_any exP (0, 0, 0) 2 W; rw [ex_fst.1, ex_fst.2] at z; exact z)
  have H7 : Hid (∀ W, Calls Try.prog 29 #[.agg #[.int .i64 10, .int .i64 0, .int .i64 0, .int .i64 12, .int .i64 0, .int .i64 0, .int .i64 10, .int .i64 2, .int .i64 0, .int .i64 7, .int .i64 3], .agg #[.int .i64 0, .int .i64 0, .int .i64 0], .int .i64 2, .int .i64 7, .int .i64 1] W fun e w' => e = .returned (spr ((0, 0), 0)) ∧ Below W.heap.size W w') := Lib.hid (fun W => by have z := hea_any exP (0, 0, 0) 2 7 1 W; rw [ex_h7] at z; exact z)
  have Z13 := ex_h13
  have H13 := Lib.hid (fun W => hea_any exP (0, 0, 0) 2 13 1 W)
  generalize heaR exP (0, 0, 0) 2 13 1 = r at Z13 H13
  obtain ⟨⟨lo, hi⟩, er⟩ := r
  obtain ⟨z, h0⟩ := Z13
  have z : er = 0 := z
  subst z
  have h0 : 0 < hi := h0
  replace H13 : Hid (∀ W, Calls Try.prog 29 #[.agg #[.int .i64 10, .int .i64 0, .int .i64 0, .int .i64 12, .int .i64 0, .int .i64 0, .int .i64 10, .int .i64 2, .int .i64 0, .int .i64 7, .int .i64 3], .agg #[.int .i64 0, .int .i64 0, .int .i64 0], .int .i64 2, .int .i64 13, .int .i64 1] W fun e w' => e = .returned (spr ((lo, hi), 0)) ∧ Below W.heap.size W w') := H13
  have P := Lib.hid (ownPu_new w exP 27)
  go_enter Try.func11, Try.ntmps11
  go_wp2_with fail
  refine (T.out _).mono ?_
  rintro e w1 ⟨rfl, hb1⟩
  have P1 := Lib.hid (ownPu_below P.out hb1)
  obtain ⟨⟨d0, d1, d2, d3, d4, d5, d6, d7, d8, d9, d10⟩, dl⟩ := P1.out
  simp only [exP] at d0 d1 d2 d3 d4 d5 d6 d7 d8 d9 d10
  go_wp2_with fail
  refine (FF.out _).mono ?_
  rintro e w2 ⟨rfl, hb2⟩
  have P2 := Lib.hid (ownPu_below P1.out hb2)
  clear d0 d1 d2 d3 d4 d5 d6 d7 d8 d9 d10 dl
  obtain ⟨⟨d0, d1, d2, d3, d4, d5, d6, d7, d8, d9, d10⟩, dl⟩ := P2.out
  simp only [exP] at d0 d1 d2 d3 d4 d5 d6 d7 d8 d9 d10
  go_wp2_with fail
  refine (H7.out _).mono ?_
  rintro e w3 ⟨rfl, hb3⟩
  have P3 := Lib.hid (ownPu_alloc (ownPu_below P2.out hb3) (.cells #[.int .i64 0, .int .i64 0] 52))
  have S3 := Lib.hid (pair_new w3 0 0 52)
  clear d0 d1 d2 d3 d4 d5 d6 d7 d8 d9 d10 dl
  obtain ⟨⟨d0, d1, d2, d3, d4, d5, d6, d7, d8, d9, d10⟩, dl⟩ := P3.out
  simp only [exP] at d0 d1 d2 d3 d4 d5 d6 d7 d8 d9 d10
  go_wp2_with fail
  refine (H13.out _).mono ?_
  rintro e w4 ⟨rfl, hb4⟩
  obtain ⟨q0, q1, q2, q3, ql⟩ := pair_below S3.out hb4
  clear d0 d1 d2 d3 d4 d5 d6 d7 d8 d9 d10 dl
  go_wp2
  go_ret
  exact ⟨rfl, by (repeat' (first | exact Below.refl _ _ | refine bstep ?_ hb4 | refine bstep ?_ hb3 | refine bstep ?_ hb2 | refine bstep ?_ hb1 | refine Below.setCell ?_ (by simp <;> omega) _ | refine balloc ?_ _ | refine Below.drew ?_ | refine bdrewN ?_ _))⟩

end Go.Proofs.Ytlegalibjkeccaa
