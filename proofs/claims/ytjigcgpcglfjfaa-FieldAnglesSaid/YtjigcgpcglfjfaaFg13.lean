/-
  The contracts of field.Mean and field.MeanCube.
-/
import Derived.Test.YtjigcgpcglfjfaaFg12
namespace Go.Proofs.Ytjigcgpcglfjfaa
open Go.ChangeShapes Go.WideShapes Go.RowKit
open Sh
theorem mn_bd9 {M a b : Int} (h : -M ≤ a ∧ a ≤ M) (k : -M ≤ b ∧ b ≤ M) : -M ≤ Sp.mn a b ∧ Sp.mn a b ≤ M := by rw [Sp.mn_eq]; omega
theorem mx_bd9 {M a b : Int} (h : -M ≤ a ∧ a ≤ M) (k : -M ≤ b ∧ b ≤ M) : -M ≤ Sp.mx a b ∧ Sp.mx a b ≤ M := by rw [Sp.mx_eq]; omega
theorem mn3_bd {M : Int} {a b : P3} (h : BdP M a) (k : BdP M b) : BdP M (mn3 a b) := by
  obtain ⟨a1, a2, a3, a4, a5, a6⟩ := h
  obtain ⟨b1, b2, b3, b4, b5, b6⟩ := k
  have x := mn_bd9 ⟨a1, a2⟩ ⟨b1, b2⟩
  have y := mn_bd9 ⟨a3, a4⟩ ⟨b3, b4⟩
  have z := mn_bd9 ⟨a5, a6⟩ ⟨b5, b6⟩
  exact ⟨x.1, x.2, y.1, y.2, z.1, z.2⟩
theorem mx3_bd {M : Int} {a b : P3} (h : BdP M a) (k : BdP M b) : BdP M (mx3 a b) := by
  obtain ⟨a1, a2, a3, a4, a5, a6⟩ := h
  obtain ⟨b1, b2, b3, b4, b5, b6⟩ := k
  have x := mx_bd9 ⟨a1, a2⟩ ⟨b1, b2⟩
  have y := mx_bd9 ⟨a3, a4⟩ ⟨b3, b4⟩
  have z := mx_bd9 ⟨a5, a6⟩ ⟨b5, b6⟩
  exact ⟨x.1, x.2, y.1, y.2, z.1, z.2⟩
theorem lo3_bd {M : Int} {t : P9} (h : BdT M t) : BdP M (loN (P3F t) 3) := mn3_bd (mn3_bd (mn3_bd h.1 h.1) h.2.1) h.2.2
theorem hi3_bd {M : Int} {t : P9} (h : BdT M t) : BdP M (hiN (P3F t) 3) := mx3_bd (mx3_bd (mx3_bd h.1 h.1) h.2.1) h.2.2
theorem lo1_eq (y : P3) : loN (fun _ => y) 1 = y := by
  show mn3 y y = y
  unfold mn3
  simp only [Sp.mn_eq]
  exact Prod.ext (by show min y.1 y.1 = y.1; omega) (Prod.ext (by show min y.2.1 y.2.1 = y.2.1; omega) (by show min y.2.2 y.2.2 = y.2.2; omega))
theorem hi1_eq (y : P3) : hiN (fun _ => y) 1 = y := by
  show mx3 y y = y
  unfold mx3
  simp only [Sp.mx_eq]
  exact Prod.ext (by show max y.1 y.1 = y.1; omega) (Prod.ext (by show max y.2.1 y.2.1 = y.2.1; omega) (by show max y.2.2 y.2.2 = y.2.2; omega))
theorem gA_snd {gs : List (Nat × P9)} {t : P9} {D : Int} (h : gs.map Prod.snd = cutP D.toNat t) {k : Nat} (hk : k < gs.length) : (gA gs k).2 = ptk t D k := by
  unfold gA ptk
  rw [← h, List.getD_eq_getElem?_getD, List.getD_eq_getElem?_getD, List.getElem?_map, List.getElem?_eq_getElem hk]
  rfl
theorem gs_len {gs : List (Nat × P9)} {t : P9} {D : Int} (h : gs.map Prod.snd = cutP D.toNat t) : gs.length = ptn D := by
  have := congrArg List.length h
  rw [List.length_map, cutP_len] at this
  exact this
theorem scl_vals {D : Int} (h0 : 0 ≤ D) (h3 : D ≤ 3) : wrap64 (2 ^ D.toNat) = scl D ∧ 1 ≤ scl D ∧ scl D ≤ 8 := by
  have hd : D.toNat = 0 ∨ D.toNat = 1 ∨ D.toNat = 2 ∨ D.toNat = 3 := by omega
  unfold scl
  rcases hd with e | e | e | e <;> rw [e] <;> exact ⟨by rw [← IntWalk.i64_left]; exact IntWalk.i64_in _ (by decide), by decide, by decide⟩
theorem ptn_vals {D : Int} (h0 : 0 ≤ D) (h3 : D ≤ 3) : 0 < ptn D ∧ ptn D ≤ 64 := by
  have hd : D.toNat = 0 ∨ D.toNat = 1 ∨ D.toNat = 2 ∨ D.toNat = 3 := by omega
  unfold ptn
  rcases hd with e | e | e | e <;> rw [e] <;> decide
theorem ptk_bd9 {t : P9} {D : Int} (hB : BdT 64 t) (h0 : 0 ≤ D) (h3 : D ≤ 3) {k : Nat} (hk : k < ptn D) : BdT 512 (ptk t D k) := by
  have hm : ptk t D k ∈ cutP D.toNat t := by
    unfold ptk
    have hl : k < (cutP D.toNat t).length := by rw [cutP_len]; exact hk
    rw [List.getD_eq_getElem?_getD, List.getElem?_eq_getElem hl]
    exact List.getElem_mem hl
  have := cutP_bd D.toNat hB _ hm
  refine this.mono ?_
  have hd : D.toNat = 0 ∨ D.toNat = 1 ∨ D.toNat = 2 ∨ D.toNat = 3 := by omega
  rcases hd with e | e | e | e <;> rw [e] <;> decide
theorem tim_bd {x : P3} {s : Int} (hx : BdP 256 x) (s1 : 1 ≤ s) (s2 : s ≤ 8) : BdP 2048 (tim s x) := by
  obtain ⟨a1, a2, a3, a4, a5, a6⟩ := hx
  have x1 := mul_bd (A := 8) (B := 256) (by omega) s2 a1 a2
  have x2 := mul_bd (A := 8) (B := 256) (by omega) s2 a3 a4
  have x3 := mul_bd (A := 8) (B := 256) (by omega) s2 a5 a6
  simp only [BdP, tim]
  omega
theorem sub_bd9 {a y : P3} (h : BdP 512 a) (k : BdP 2048 y) : BdP 2560 (sub a y) := by
  obtain ⟨a1, a2, a3, a4, a5, a6⟩ := h
  obtain ⟨b1, b2, b3, b4, b5, b6⟩ := k
  simp only [BdP, sub]
  omega
theorem sq_bd9 {v : P3} (h : BdP 2560 v) : 0 ≤ sq v ∧ sq v ≤ 19660800 := by
  refine ⟨sq_nn v, ?_⟩
  obtain ⟨a1, a2, a3, a4, a5, a6⟩ := h
  have x1 := mul_bd a1 a2 a1 a2
  have x2 := mul_bd a3 a4 a3 a4
  have x3 := mul_bd a5 a6 a5 a6
  show v.1 * v.1 + v.2.1 * v.2.1 + v.2.2 * v.2.2 ≤ 19660800
  omega
theorem far_bd9 {t : P9} {y : P3} (h : BdT 512 t) (k : BdP 2048 y) : farN t y ≤ 19660800 := by
  have x1 := sq_bd9 (sub_bd9 h.1 k)
  have x2 := sq_bd9 (sub_bd9 h.2.1 k)
  have x3 := sq_bd9 (sub_bd9 h.2.2 k)
  show Sp.mx (Sp.mx (sq (sub t.1 y)) (sq (sub t.2.1 y))) (sq (sub t.2.2 y)) ≤ 19660800
  simp only [Sp.mx_eq]
  omega
theorem near_nn (t : P9) (y : P3) : 0 ≤ nearN t y := sq_nn _
theorem ki_any (n m : Int) (W : World) : Calls Try.prog 50 #[.int .i64 n, .int .i64 m] W fun e w' => e = .returned (spr (kV false n m)) ∧ Below W.heap.size W w' := inv_any n m W
theorem mfi_ok (t : P9) (x : P3) (D : Int) (w : World) (h : snc t x D = 0) : Calls Try.prog 49 #[p9v t, ptv x, .int .i64 D, .func (.func 50) #[] #[]] w fun e w' => e = .returned (spr (mnF false t x D)) ∧ Below w.heap.size w w' := by
  obtain ⟨hB, hx, d0, d3⟩ := snc_ok h
  obtain ⟨sw, s1, s2⟩ := scl_vals d0 d3
  obtain ⟨n0, n1⟩ := ptn_vals d0 d3
  have hy := tim_bd hx s1 s2
  have hres : mnF false t x D = (if anyz (ptd t D x) (ptn D) = true then ((0, 0), 10) else ((sm (mLo false t D x) (ptn D) / (ptn D : Int), (sm (mHi false t D x) (ptn D) + (ptn D : Int) - 1) / (ptn D : Int)), 0)) := rfl
  rw [hres]
  refine mfwi t.1 t.2.1 t.2.2 x (tim (scl D) x) (tim (scl D) x) (tim (scl D) x) D (scl D) (anyz (ptd t D x) (ptn D)) _ _ w (Lib.hid sw) ⟨d0, d3, by omega, s2⟩
    (Lib.hid fun W => by have z := cks_any t x D W; rw [h] at z; exact z)
    (Lib.hid fun W => ftimes_any (scl D) x W (hy.mono (by decide)))
    (Lib.hid fun W q r => by have z := groupof_any q 1 1 (fun _ => tim (scl D) x) W r (by decide) (by decide); rw [lo1_eq, hi1_eq] at z; exact z)
    (Lib.hid fun W => (callsIn_wide (n := 6)).1 (pgroups_in 6 (by decide) t.1 t.2.1 t.2.2 D W hB d0 d3))
    (Lib.hid fun W v gs xb hrow hpt hgs hq => ?_) (Lib.hid fun nz W v gs xb hrow hpt hgs hq => ?_)
  · have hl := gs_len hgs
    obtain ⟨q, cap, rfl, hr⟩ := rowgs_of hrow (by omega) hpt
    have z := gctf_any xb 1 1 (tim (scl D) x) (tim (scl D) x) (scl D) (.func (.func 50) #[] #[]) q gs.length cap gs (ptd t D x) W hr (by omega) (Lib.hid fun k hk W' => by
      have hb := ptk_bd9 hB d0 d3 (k := k) (by omega)
      have e := gA_snd hgs hk
      have y := ftouch_any (gA gs k).1 3 3 xb 1 1 (loN (P3F (gA gs k).2) 3) (hiN (P3F (gA gs k).2) 3) (tim (scl D) x) (tim (scl D) x) (scl D) (.func (.func 50) #[] #[]) W' ((lo3_bd (by rw [e]; exact hb)).mono (by decide)) ((hi3_bd (by rw [e]; exact hb)).mono (by decide)) (hy.mono (by decide)) (hy.mono (by decide))
      rw [nG_one] at y
      have e2 : nearN (gA gs k).2 (tim (scl D) x) = ptd t D x k := by rw [e]; rfl
      rw [e2] at y
      exact y)
    rw [hl] at z ⊢
    exact z
  · have hl := gs_len hgs
    obtain ⟨q, cap, rfl, hr⟩ := rowgs_of hrow (by omega) hpt
    have val : ∀ k, k < ptn D → ∀ m : Int, 1 ≤ m → m ≤ 19660800 → 0 ≤ (kV false m (scl D)).1.1 ∧ (kV false m (scl D)).1.1 ≤ (kV false m (scl D)).1.2 ∧ (kV false m (scl D)).1.2 ≤ 1000000000 := fun k hk m m1 m2 => by
      obtain ⟨r, u, e, h1, h2⟩ := kV_val false m1 (by omega : m ≤ 1099511627776) s1 s2
      rw [e]
      show 0 ≤ (r : Int) ∧ (r : Int) ≤ (u : Int) ∧ (u : Int) ≤ 1000000000
      omega
    have nf : ∀ k, k < ptn D → 1 ≤ ptd t D x k ∧ ptd t D x k ≤ ptf t D x k ∧ ptf t D x k ≤ 19660800 := fun k hk => by
      have z1 := anyz_no nz k hk
      have z2 : 0 ≤ ptd t D x k := near_nn _ _
      have z3 : ptd t D x k ≤ ptf t D x k := near_far _ _
      have z4 : ptf t D x k ≤ 19660800 := far_bd9 (ptk_bd9 hB d0 d3 hk) hy
      omega
    have z := gavg_any xb 1 1 (tim (scl D) x) (tim (scl D) x) (scl D) (.func (.func 50) #[] #[]) q gs.length cap gs (mLo false t D x) (mHi false t D x) W hr (by omega) (by omega)
      (fun k hk => by
        obtain ⟨a1, a2, a3⟩ := nf k (by omega)
        have := val k (by omega) (ptf t D x k) (by omega) a3
        exact ⟨this.1, by unfold mLo; omega⟩)
      (fun k hk => by
        obtain ⟨a1, a2, a3⟩ := nf k (by omega)
        have := val k (by omega) (ptd t D x k) a1 (by omega)
        exact ⟨by unfold mHi; omega, this.2.2⟩)
      (Lib.hid fun k hk W' B => by
        have hb := ptk_bd9 hB d0 d3 (k := k) (by omega)
        have e := gA_snd hgs hk
        have e2 : fG (P3F (gA gs k).2) (fun _ => tim (scl D) x) 1 3 = ptf t D x k := by rw [fG_one, e]; rfl
        have y := floi_any (gA gs k).1 3 3 xb 1 1 (loN (P3F (gA gs k).2) 3) (hiN (P3F (gA gs k).2) 3) (tim (scl D) x) (tim (scl D) x) (scl D) (kV false (ptf t D x k) (scl D)) W' (P3F (gA gs k).2) (fun _ => tim (scl D) x) (rwg_below (ptb_row (hr.2 k hk).2) B) (rwg_below hq B) (by decide) (by decide) (fun i hi j _ => by
          rw [e]
          match i, hi with
          | 0, _ => exact (sub_bd9 hb.1 hy).mono (by decide)
          | 1, _ => exact (sub_bd9 hb.2.1 hy).mono (by decide)
          | 2, _ => exact (sub_bd9 hb.2.2 hy).mono (by decide)) (Lib.hid fun W2 => by rw [e2]; exact ki_any _ _ W2)
        exact y)
      (Lib.hid fun k hk W' B => by
        have hb := ptk_bd9 hB d0 d3 (k := k) (by omega)
        have e := gA_snd hgs hk
        have e2 : nG (loN (P3F (gA gs k).2) 3) (hiN (P3F (gA gs k).2) 3) (tim (scl D) x) (tim (scl D) x) = ptd t D x k := by rw [nG_one, e]; rfl
        have y := fhii_any (gA gs k).1 3 3 xb 1 1 (loN (P3F (gA gs k).2) 3) (hiN (P3F (gA gs k).2) 3) (tim (scl D) x) (tim (scl D) x) (scl D) (kV false (ptd t D x k) (scl D)) W' ((lo3_bd (by rw [e]; exact hb)).mono (by decide)) ((hi3_bd (by rw [e]; exact hb)).mono (by decide)) (hy.mono (by decide)) (hy.mono (by decide)) (Lib.hid fun W2 => by rw [e2]; exact ki_any _ _ W2)
        exact y)
    rw [hl] at z ⊢
    exact z
theorem kc_any (n m : Int) (W : World) : Calls Try.prog 53 #[.int .i64 n, .int .i64 m] W fun e w' => e = .returned (spr (kV true n m)) ∧ Below W.heap.size W w' := cube_any n m W
theorem mfc_ok (t : P9) (x : P3) (D : Int) (w : World) (h : snc t x D = 0) : Calls Try.prog 49 #[p9v t, ptv x, .int .i64 D, .func (.func 53) #[] #[]] w fun e w' => e = .returned (spr (mnF true t x D)) ∧ Below w.heap.size w w' := by
  obtain ⟨hB, hx, d0, d3⟩ := snc_ok h
  obtain ⟨sw, s1, s2⟩ := scl_vals d0 d3
  obtain ⟨n0, n1⟩ := ptn_vals d0 d3
  have hy := tim_bd hx s1 s2
  have hres : mnF true t x D = (if anyz (ptd t D x) (ptn D) = true then ((0, 0), 10) else ((sm (mLo true t D x) (ptn D) / (ptn D : Int), (sm (mHi true t D x) (ptn D) + (ptn D : Int) - 1) / (ptn D : Int)), 0)) := rfl
  rw [hres]
  refine mfwc t.1 t.2.1 t.2.2 x (tim (scl D) x) (tim (scl D) x) (tim (scl D) x) D (scl D) (anyz (ptd t D x) (ptn D)) _ _ w (Lib.hid sw) ⟨d0, d3, by omega, s2⟩
    (Lib.hid fun W => by have z := cks_any t x D W; rw [h] at z; exact z)
    (Lib.hid fun W => ftimes_any (scl D) x W (hy.mono (by decide)))
    (Lib.hid fun W q r => by have z := groupof_any q 1 1 (fun _ => tim (scl D) x) W r (by decide) (by decide); rw [lo1_eq, hi1_eq] at z; exact z)
    (Lib.hid fun W => (callsIn_wide (n := 6)).1 (pgroups_in 6 (by decide) t.1 t.2.1 t.2.2 D W hB d0 d3))
    (Lib.hid fun W v gs xb hrow hpt hgs hq => ?_) (Lib.hid fun nz W v gs xb hrow hpt hgs hq => ?_)
  · have hl := gs_len hgs
    obtain ⟨q, cap, rfl, hr⟩ := rowgs_of hrow (by omega) hpt
    have z := gctf_any xb 1 1 (tim (scl D) x) (tim (scl D) x) (scl D) (.func (.func 53) #[] #[]) q gs.length cap gs (ptd t D x) W hr (by omega) (Lib.hid fun k hk W' => by
      have hb := ptk_bd9 hB d0 d3 (k := k) (by omega)
      have e := gA_snd hgs hk
      have y := ftouch_any (gA gs k).1 3 3 xb 1 1 (loN (P3F (gA gs k).2) 3) (hiN (P3F (gA gs k).2) 3) (tim (scl D) x) (tim (scl D) x) (scl D) (.func (.func 53) #[] #[]) W' ((lo3_bd (by rw [e]; exact hb)).mono (by decide)) ((hi3_bd (by rw [e]; exact hb)).mono (by decide)) (hy.mono (by decide)) (hy.mono (by decide))
      rw [nG_one] at y
      have e2 : nearN (gA gs k).2 (tim (scl D) x) = ptd t D x k := by rw [e]; rfl
      rw [e2] at y
      exact y)
    rw [hl] at z ⊢
    exact z
  · have hl := gs_len hgs
    obtain ⟨q, cap, rfl, hr⟩ := rowgs_of hrow (by omega) hpt
    have val : ∀ k, k < ptn D → ∀ m : Int, 1 ≤ m → m ≤ 19660800 → 0 ≤ (kV true m (scl D)).1.1 ∧ (kV true m (scl D)).1.1 ≤ (kV true m (scl D)).1.2 ∧ (kV true m (scl D)).1.2 ≤ 1000000000 := fun k hk m m1 m2 => by
      obtain ⟨r, u, e, h1, h2⟩ := kV_val true m1 (by omega : m ≤ 1099511627776) s1 s2
      rw [e]
      show 0 ≤ (r : Int) ∧ (r : Int) ≤ (u : Int) ∧ (u : Int) ≤ 1000000000
      omega
    have nf : ∀ k, k < ptn D → 1 ≤ ptd t D x k ∧ ptd t D x k ≤ ptf t D x k ∧ ptf t D x k ≤ 19660800 := fun k hk => by
      have z1 := anyz_no nz k hk
      have z2 : 0 ≤ ptd t D x k := near_nn _ _
      have z3 : ptd t D x k ≤ ptf t D x k := near_far _ _
      have z4 : ptf t D x k ≤ 19660800 := far_bd9 (ptk_bd9 hB d0 d3 hk) hy
      omega
    have z := gavg_any xb 1 1 (tim (scl D) x) (tim (scl D) x) (scl D) (.func (.func 53) #[] #[]) q gs.length cap gs (mLo true t D x) (mHi true t D x) W hr (by omega) (by omega)
      (fun k hk => by
        obtain ⟨a1, a2, a3⟩ := nf k (by omega)
        have := val k (by omega) (ptf t D x k) (by omega) a3
        exact ⟨this.1, by unfold mLo; omega⟩)
      (fun k hk => by
        obtain ⟨a1, a2, a3⟩ := nf k (by omega)
        have := val k (by omega) (ptd t D x k) a1 (by omega)
        exact ⟨by unfold mHi; omega, this.2.2⟩)
      (Lib.hid fun k hk W' B => by
        have hb := ptk_bd9 hB d0 d3 (k := k) (by omega)
        have e := gA_snd hgs hk
        have e2 : fG (P3F (gA gs k).2) (fun _ => tim (scl D) x) 1 3 = ptf t D x k := by rw [fG_one, e]; rfl
        have y := floc_any (gA gs k).1 3 3 xb 1 1 (loN (P3F (gA gs k).2) 3) (hiN (P3F (gA gs k).2) 3) (tim (scl D) x) (tim (scl D) x) (scl D) (kV true (ptf t D x k) (scl D)) W' (P3F (gA gs k).2) (fun _ => tim (scl D) x) (rwg_below (ptb_row (hr.2 k hk).2) B) (rwg_below hq B) (by decide) (by decide) (fun i hi j _ => by
          rw [e]
          match i, hi with
          | 0, _ => exact (sub_bd9 hb.1 hy).mono (by decide)
          | 1, _ => exact (sub_bd9 hb.2.1 hy).mono (by decide)
          | 2, _ => exact (sub_bd9 hb.2.2 hy).mono (by decide)) (Lib.hid fun W2 => by rw [e2]; exact kc_any _ _ W2)
        exact y)
      (Lib.hid fun k hk W' B => by
        have hb := ptk_bd9 hB d0 d3 (k := k) (by omega)
        have e := gA_snd hgs hk
        have e2 : nG (loN (P3F (gA gs k).2) 3) (hiN (P3F (gA gs k).2) 3) (tim (scl D) x) (tim (scl D) x) = ptd t D x k := by rw [nG_one, e]; rfl
        have y := fhic_any (gA gs k).1 3 3 xb 1 1 (loN (P3F (gA gs k).2) 3) (hiN (P3F (gA gs k).2) 3) (tim (scl D) x) (tim (scl D) x) (scl D) (kV true (ptd t D x k) (scl D)) W' ((lo3_bd (by rw [e]; exact hb)).mono (by decide)) ((hi3_bd (by rw [e]; exact hb)).mono (by decide)) (hy.mono (by decide)) (hy.mono (by decide)) (Lib.hid fun W2 => by rw [e2]; exact kc_any _ _ W2)
        exact y)
    rw [hl] at z ⊢
    exact z

end Go.Proofs.Ytjigcgpcglfjfaa
