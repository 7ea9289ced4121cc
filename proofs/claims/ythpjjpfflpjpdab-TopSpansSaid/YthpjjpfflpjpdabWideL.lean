/-
  Results of wider spans lie outside; what a walk through two spans and their wider ones keeps.
-/
import Derived.Test.YthpjjpfflpjpdabSquare
import Derived.Test.YthpjjpfflpjpdabRootRef
import Derived.Test.YthpjjpfflpjpdabNumDiv
import Derived.Test.YthpjjpfflpjpdabKnown
import Derived.Test.YthpjjpfflpjpdabArith
import Derived.Test.YthpjjpfflpjpdabMeet
namespace Go.Proofs.Ythpjjpfflpjpdab
open Go.ChangeShapes Go.WideShapes Go.RowKit
namespace Sp
theorem told_in {p q p' q' : Int} (h1 : p' ≤ p) (h2 : q ≤ q') (h : (told p q).2 = 0) (k : (told p' q').2 = 0) : (told p' q').1.1 ≤ (told p q).1.1 ∧ (told p q).1.2 ≤ (told p' q').1.2 := by
  unfold told at *
  split at h
  · split at k
    · rename_i a b
      rw [if_pos a, if_pos b]; exact ⟨h1, h2⟩
    · exact absurd k (by decide)
  · exact absurd h (by decide)
/-- the bounds of the wider span lie outside -/
def Wid (al ah xl xh : Int) : Prop := vldB al ah = true ∧ vldB xl xh = true ∧ xl ≤ al ∧ ah ≤ xh
theorem add_wide {al ah bl bh xl xh yl yh : Int} (h : Wid al ah xl xh) (k : Wid bl bh yl yh) (e : (addR al ah bl bh).2 = 0) (f : (addR xl xh yl yh).2 = 0) :
    (addR xl xh yl yh).1.1 ≤ (addR al ah bl bh).1.1 ∧ (addR al ah bl bh).1.2 ≤ (addR xl xh yl yh).1.2 := by
  obtain ⟨h1, h2, h3, h4⟩ := h
  obtain ⟨k1, k2, k3, k4⟩ := k
  unfold addR at *
  rw [ite_yes h1 k1] at *
  rw [ite_yes h2 k2] at *
  exact told_in (by omega) (by omega) e f
theorem sub_wide {al ah bl bh xl xh yl yh : Int} (h : Wid al ah xl xh) (k : Wid bl bh yl yh) (e : (subR al ah bl bh).2 = 0) (f : (subR xl xh yl yh).2 = 0) :
    (subR xl xh yl yh).1.1 ≤ (subR al ah bl bh).1.1 ∧ (subR al ah bl bh).1.2 ≤ (subR xl xh yl yh).1.2 := by
  obtain ⟨h1, h2, h3, h4⟩ := h
  obtain ⟨k1, k2, k3, k4⟩ := k
  unfold subR at *
  rw [ite_yes h1 k1] at *
  rw [ite_yes h2 k2] at *
  exact told_in (by omega) (by omega) e f
theorem mulD_mid {xl u xh : Int} (v : Int) (h : xl ≤ u) (k : u ≤ xh) : mulD xl v ≤ mulD u v ∨ mulD xh v ≤ mulD u v := by
  unfold mulD
  rcases Int.lt_or_le v 0 with c | c
  · exact .inr (fl_mono (by decide) (Int.mul_le_mul_of_nonpos_right k (by omega)))
  · exact .inl (fl_mono (by decide) (Int.mul_le_mul_of_nonneg_right h c))
theorem mulU_mid {xl u xh : Int} (v : Int) (h : xl ≤ u) (k : u ≤ xh) : mulU u v ≤ mulU xl v ∨ mulU u v ≤ mulU xh v := by
  unfold mulU
  rcases Int.lt_or_le v 0 with c | c
  · exact .inl (ce_mono (by decide) (Int.mul_le_mul_of_nonpos_right h (by omega)))
  · exact .inr (ce_mono (by decide) (Int.mul_le_mul_of_nonneg_right k c))
theorem mulD_comm (x y : Int) : mulD x y = mulD y x := by unfold mulD; rw [Int.mul_comm]
theorem mulU_comm (x y : Int) : mulU x y = mulU y x := by unfold mulU; rw [Int.mul_comm]
theorem mulD_in {xl u xh yl v yh : Int} (h : xl ≤ u) (k : u ≤ xh) (h' : yl ≤ v) (k' : v ≤ yh) : mn4 (mulD xl yl) (mulD xl yh) (mulD xh yl) (mulD xh yh) ≤ mulD u v := by
  have l4 := mn4_le (mulD xl yl) (mulD xl yh) (mulD xh yl) (mulD xh yh)
  have a := mulD_mid v h k
  have b := mulD_mid xl h' k'
  have c := mulD_mid xh h' k'
  rw [mulD_comm yl, mulD_comm yh, mulD_comm v] at b c
  omega
theorem mulU_in {xl u xh yl v yh : Int} (h : xl ≤ u) (k : u ≤ xh) (h' : yl ≤ v) (k' : v ≤ yh) : mulU u v ≤ mx4 (mulU xl yl) (mulU xl yh) (mulU xh yl) (mulU xh yh) := by
  have g4 := mx4_ge (mulU xl yl) (mulU xl yh) (mulU xh yl) (mulU xh yh)
  have a := mulU_mid v h k
  have b := mulU_mid xl h' k'
  have c := mulU_mid xh h' k'
  rw [mulU_comm yl, mulU_comm yh, mulU_comm v] at b c
  omega
theorem mn4_ge {m x y z u : Int} (h1 : m ≤ x) (h2 : m ≤ y) (h3 : m ≤ z) (h4 : m ≤ u) : m ≤ mn4 x y z u := by
  unfold mn4; simp only [mn_eq]; omega
theorem mx4_le {m x y z u : Int} (h1 : x ≤ m) (h2 : y ≤ m) (h3 : z ≤ m) (h4 : u ≤ m) : mx4 x y z u ≤ m := by
  unfold mx4; simp only [mx_eq]; omega
theorem mul_wide {al ah bl bh xl xh yl yh : Int} (h : Wid al ah xl xh) (k : Wid bl bh yl yh) (e : (mulR al ah bl bh).2 = 0) (f : (mulR xl xh yl yh).2 = 0) :
    (mulR xl xh yl yh).1.1 ≤ (mulR al ah bl bh).1.1 ∧ (mulR al ah bl bh).1.2 ≤ (mulR xl xh yl yh).1.2 := by
  obtain ⟨h1, h2, h3, h4⟩ := h
  obtain ⟨k1, k2, k3, k4⟩ := k
  have a := (vld_iff.1 h1).2.1
  have b := (vld_iff.1 k1).2.1
  unfold mulR at *
  rw [ite_yes h1 k1] at *
  rw [ite_yes h2 k2] at *
  refine told_in (mn4_ge ?_ ?_ ?_ ?_) (mx4_le ?_ ?_ ?_ ?_) e f
  all_goals first | exact mulD_in (by omega) (by omega) (by omega) (by omega) | exact mulU_in (by omega) (by omega) (by omega) (by omega)
/-- n / d between the quotients by the bounds -/
theorem fl_mid_pos {n yl v yh : Int} (z : 0 < yl) (h : yl ≤ v) (k : v ≤ yh) : fl n yl ≤ fl n v ∨ fl n yh ≤ fl n v := by
  rcases Int.lt_or_le n 0 with c | c
  · left
    have a : fl n yl * yl ≤ n := by rw [fl_pos z]; exact Int.ediv_mul_le _ (by omega)
    have b : fl n yl ≤ 0 := by rw [fl_pos z]; have := Int.ediv_le_ediv z (show n ≤ 0 by omega); simpa using this
    rw [fl_pos (show 0 < v by omega), Int.le_ediv_iff_mul_le (by omega)]
    have := Int.mul_le_mul_of_nonpos_left b h
    omega
  · right
    have a : fl n yh * yh ≤ n := by rw [fl_pos (by omega)]; exact Int.ediv_mul_le _ (by omega)
    have b : 0 ≤ fl n yh := by rw [fl_pos (by omega)]; exact Int.ediv_nonneg c (by omega)
    rw [fl_pos (show 0 < v by omega), Int.le_ediv_iff_mul_le (by omega)]
    have := Int.mul_le_mul_of_nonneg_left k b
    omega
theorem fl_mid {n yl v yh : Int} (z : 0 < yl ∨ yh < 0) (h : yl ≤ v) (k : v ≤ yh) : fl n yl ≤ fl n v ∨ fl n yh ≤ fl n v := by
  rcases z with z | z
  · exact fl_mid_pos z h k
  · have := fl_mid_pos (n := -n) (yl := -yh) (v := -v) (yh := -yl) (by omega) (by omega) (by omega)
    rw [fl_negneg _ _ (by omega), fl_negneg _ _ (by omega), fl_negneg _ _ (by omega)] at this
    omega
theorem ce_mid {n yl v yh : Int} (z : 0 < yl ∨ yh < 0) (h : yl ≤ v) (k : v ≤ yh) : ce n v ≤ ce n yl ∨ ce n v ≤ ce n yh := by
  unfold ce
  have := fl_mid (n := -n) z h k
  omega
theorem fl_mid1 {xl u xh v : Int} (z : v ≠ 0) (h : xl ≤ u) (k : u ≤ xh) : fl xl v ≤ fl u v ∨ fl xh v ≤ fl u v := by
  rcases Int.lt_or_le v 0 with c | c
  · exact .inr (fl_anti c k)
  · exact .inl (fl_mono (by omega) h)
theorem ce_mid1 {xl u xh v : Int} (z : v ≠ 0) (h : xl ≤ u) (k : u ≤ xh) : ce u v ≤ ce xl v ∨ ce u v ≤ ce xh v := by
  rcases Int.lt_or_le v 0 with c | c
  · exact .inl (ce_anti c h)
  · exact .inr (ce_mono (by omega) k)
theorem fl_in {xl u xh yl v yh : Int} (z : 0 < yl ∨ yh < 0) (h : xl ≤ u) (k : u ≤ xh) (h' : yl ≤ v) (k' : v ≤ yh) : mn4 (fl (xl * 1048576) yl) (fl (xl * 1048576) yh) (fl (xh * 1048576) yl) (fl (xh * 1048576) yh) ≤ fl (u * 1048576) v := by
  have l4 := mn4_le (fl (xl * 1048576) yl) (fl (xl * 1048576) yh) (fl (xh * 1048576) yl) (fl (xh * 1048576) yh)
  have a := fl_mid1 (v := v) (by omega) (show xl * 1048576 ≤ u * 1048576 by omega) (show u * 1048576 ≤ xh * 1048576 by omega)
  have b := fl_mid (n := xl * 1048576) z h' k'
  have c := fl_mid (n := xh * 1048576) z h' k'
  omega
theorem ce_in {xl u xh yl v yh : Int} (z : 0 < yl ∨ yh < 0) (h : xl ≤ u) (k : u ≤ xh) (h' : yl ≤ v) (k' : v ≤ yh) : ce (u * 1048576) v ≤ mx4 (ce (xl * 1048576) yl) (ce (xl * 1048576) yh) (ce (xh * 1048576) yl) (ce (xh * 1048576) yh) := by
  have g4 := mx4_ge (ce (xl * 1048576) yl) (ce (xl * 1048576) yh) (ce (xh * 1048576) yl) (ce (xh * 1048576) yh)
  have a := ce_mid1 (v := v) (by omega) (show xl * 1048576 ≤ u * 1048576 by omega) (show u * 1048576 ≤ xh * 1048576 by omega)
  have b := ce_mid (n := xl * 1048576) z h' k'
  have c := ce_mid (n := xh * 1048576) z h' k'
  omega
theorem div_wide {al ah bl bh xl xh yl yh : Int} (h : Wid al ah xl xh) (k : Wid bl bh yl yh) (e : (divR al ah bl bh).2 = 0) (f : (divR xl xh yl yh).2 = 0) :
    (divR xl xh yl yh).1.1 ≤ (divR al ah bl bh).1.1 ∧ (divR al ah bl bh).1.2 ≤ (divR xl xh yl yh).1.2 := by
  obtain ⟨h1, h2, h3, h4⟩ := h
  obtain ⟨k1, k2, k3, k4⟩ := k
  have a := (vld_iff.1 h1).2.1
  have b := (vld_iff.1 k1).2.1
  unfold divR at *
  rw [ite_yes h1 k1] at *
  rw [ite_yes h2 k2] at *
  by_cases z : yl ≤ 0 ∧ 0 ≤ yh
  · rw [if_pos z] at f; exact absurd f (by decide)
  · rw [if_neg z] at f ⊢
    rw [if_neg (by omega)] at e ⊢
    refine told_in (mn4_ge ?_ ?_ ?_ ?_) (mx4_le ?_ ?_ ?_ ?_) e f
    all_goals first | exact fl_in (by omega) (by omega) (by omega) (by omega) (by omega) | exact ce_in (by omega) (by omega) (by omega) (by omega) (by omega)
theorem sq_wide {al ah xl xh : Int} (h : Wid al ah xl xh) (e : (sqR al ah).2 = 0) (f : (sqR xl xh).2 = 0) :
    (sqR xl xh).1.1 ≤ (sqR al ah).1.1 ∧ (sqR al ah).1.2 ≤ (sqR xl xh).1.2 := by
  obtain ⟨h1, h2, h3, h4⟩ := h
  have a := (vld_iff.1 h1).2.1
  unfold sqR at *
  rw [if_pos h1] at *
  rw [if_pos h2] at *
  have q1 := mx_eq 0 al
  have q2 := mx_eq (mx 0 al) (-ah)
  have q3 := mx_eq 0 xl
  have q4 := mx_eq (mx 0 xl) (-xh)
  have q5 := mx_eq (-al) ah
  have q6 := mx_eq (-xl) xh
  exact told_in (mulD_mono (by omega) (by omega)) (mulU_mono (by omega) (by omega)) e f
end Sp
theorem csq_sq' (n : Nat) : n ≤ Rt.csq n * Rt.csq n := by
  have a := (Rt.isq_spec n)
  unfold Rt.csq
  split <;> omega
theorem csq_mono' {m n : Nat} (h : m ≤ n) : Rt.csq m ≤ Rt.csq n := by
  have a := Rt.isq_spec m
  have c := csq_sq' n
  rcases Nat.lt_or_ge (Rt.csq n) (Rt.csq m) with d | d
  · have e : Rt.csq n ≤ Rt.isq m := by
      have : Rt.csq m ≤ Rt.isq m + 1 := by unfold Rt.csq; split <;> omega
      omega
    have f := Nat.mul_le_mul e e
    have g : Rt.csq n * Rt.csq n = m := by omega
    have hh : Rt.csq n = Rt.isq m := Rt.isq_unique (by omega) (by rw [← g]; exact Nat.mul_lt_mul_of_lt_of_le (by omega) (by omega) (by omega))
    have : Rt.csq m = Rt.isq m := by unfold Rt.csq; rw [if_pos (by rw [← hh]; exact g)]
    omega
  · exact d
theorem root_wide {al ah xl xh : Int} (h : Sp.Wid al ah xl xh) (e : (rootR al ah).2 = 0) (f : (rootR xl xh).2 = 0) :
    (rootR xl xh).1.1 ≤ (rootR al ah).1.1 ∧ (rootR al ah).1.2 ≤ (rootR xl xh).1.2 := by
  obtain ⟨h1, h2, h3, h4⟩ := h
  have a := (Sp.vld_iff.1 h1).2.1
  unfold rootR at *
  by_cases z : 0 ≤ xl
  · rw [if_pos ⟨h2, z⟩] at f ⊢
    rw [if_pos ⟨h1, by omega⟩] at e ⊢
    exact Sp.told_in (Int.ofNat_le.2 (Rt.isq_mono (by omega))) (Int.ofNat_le.2 (csq_mono' (by omega))) e f
  · rw [if_neg (by omega)] at f; exact absurd f (by decide)

theorem pair_set {w : World} {b : Nat} {x y : Int} (h : Pair w b x y) (u v : Int) : Pair ((w.setCell ⟨b, 0, none⟩ (.int .i64 u)).setCell ⟨b, 1, none⟩ (.int .i64 v)) b u v := by
  obtain ⟨h1, h2, h3, h4, h5⟩ := h
  exact ⟨by go_simp, by go_simp, by go_simp, by go_simp, by simpa using h5⟩
theorem pair_far {w : World} {b c : Nat} {x y : Int} (h : Pair w b x y) (n : b ≠ c) (u v : Value) : Pair ((w.setCell ⟨c, 0, none⟩ u).setCell ⟨c, 1, none⟩ v) b x y := by
  obtain ⟨h1, h2, h3, h4, h5⟩ := h
  have n' : c ≠ b := n.symm
  exact ⟨by go_simp, by go_simp, by go_simp, by go_simp, by simpa using h5⟩
def Quad (w : World) (b : Nat) (x y z u : Int) : Prop :=
  w.cell? ⟨b, 0, none⟩ = some (.int .i64 x) ∧ w.cell? ⟨b, 1, none⟩ = some (.int .i64 y) ∧ w.cell? ⟨b, 2, none⟩ = some (.int .i64 z) ∧ w.cell? ⟨b, 3, none⟩ = some (.int .i64 u) ∧ b < w.heap.size
theorem quad_new (w : World) (x y z u : Int) (t : TypeId) : Quad (w.alloc (.cells #[.int .i64 x, .int .i64 y, .int .i64 z, .int .i64 u] t)) w.heap.size x y z u :=
  ⟨by go_simp, by go_simp, by go_simp, by go_simp, by simp⟩
theorem quad_below {w w1 : World} {b : Nat} {x y z u : Int} (h : Quad w b x y z u) (hb : Below w.heap.size w w1) : Quad w1 b x y z u := by
  obtain ⟨h1, h2, h3, h4, h5⟩ := h
  exact ⟨(hb.cell (p := ⟨b, 0, none⟩) h5).trans h1, (hb.cell (p := ⟨b, 1, none⟩) h5).trans h2, (hb.cell (p := ⟨b, 2, none⟩) h5).trans h3, (hb.cell (p := ⟨b, 3, none⟩) h5).trans h4, Nat.lt_of_lt_of_le h5 hb.size⟩
/-- what a walk keeps: the two spans, the two wider ones, and two cells of its own -/
def St (w wc : World) (X Y S T : Nat) (al ah bl bh xl xh yl yh : Int) : Prop :=
  Pair wc w.heap.size al ah ∧ Pair wc (w.heap.size + 1) bl bh ∧ Pair wc X xl xh ∧ Pair wc Y yl yh ∧ (∃ p q, Pair wc S p q) ∧ (∃ p q, Pair wc T p q) ∧ Below w.heap.size w wc
theorem st_below {w wc w1 : World} {X Y S T : Nat} {al ah bl bh xl xh yl yh : Int} (h : St w wc X Y S T al ah bl bh xl xh yl yh) (hb : Below wc.heap.size wc w1) : St w w1 X Y S T al ah bl bh xl xh yl yh := by
  obtain ⟨h1, h2, h3, h4, ⟨p, q, h5⟩, ⟨r, s, h6⟩, h7⟩ := h
  exact ⟨pair_below h1 hb, pair_below h2 hb, pair_below h3 hb, pair_below h4 hb, ⟨p, q, pair_below h5 hb⟩, ⟨r, s, pair_below h6 hb⟩, bstep h7 hb⟩
theorem hull_any (al ah bl bh : Int) (w : World) :
    Calls Try.prog 26 #[spv al ah, spv bl bh] w fun e w' => e = .returned (spr (Sp.hull al ah bl bh)) ∧ Below w.heap.size w w' := by
  cases h : Sp.vldB al ah
  · rw [Sp.hull_no1 h]; exact hull_no1 _ _ _ _ _ h
  cases k : Sp.vldB bl bh
  · rw [Sp.hull_no2 k]; exact hull_no2 _ _ _ _ _ h k
  rw [Sp.hull_yes h k]; exact hull_yes _ _ _ _ _ h k
theorem hull_wid {al ah Al Ah : Int} (h : (Sp.hull al ah Al Ah).2 = 0) : Sp.Wid al ah (Sp.hull al ah Al Ah).1.1 (Sp.hull al ah Al Ah).1.2 := by
  unfold Sp.hull at *
  split at h
  · rename_i v
    simp only [Bool.and_eq_true] at v
    have a := Sp.vld_iff.1 v.1
    have b := Sp.vld_iff.1 v.2
    rw [if_pos (by simp [v.1, v.2])]
    have e1 := Sp.mn_eq al Al
    have e2 := Sp.mx_eq ah Ah
    exact ⟨v.1, by rw [Sp.vld_iff]; dsimp only; omega, by dsimp only; omega, by dsimp only; omega⟩
  · exact absurd h (by decide)

end Go.Proofs.Ythpjjpfflpjpdab
