/-
  The contract of the document's share: what a part of a panel gives.
  Plain facts of what is heard: how great it is, of the opposite power, of a later pulse.
  The contract of the document's parts: those of a panel at a depth, the last cut last.
  The contract of the document's heard: what is heard of a pulse in a tick.
  The contracts of the document's heard and Heard.
  The contracts of scene, in the program and in the document's answer: what is heard of all pulses in a tick.
  The contracts of Scene, in the program and in the document's answer, and of SameSpans.
  The contracts of Trace, in the program and in the document's answer, and the law SoundTraces: its walk.
-/
import Derived.Test.YtjigcgpcglfjfaaSoMb
import Derived.Test.YtjigcgpcglfjfaaSo32
import Derived.Deep.DeepCutAuto
namespace Go.Proofs.Ytjigcgpcglfjfaa
open Go.ChangeShapes Go.WideShapes Go.RowKit
open Sh
attribute [local go_sem 1000000] run_min_mn run_max_mx
theorem invR_ok {m k : Int} (m1 : 1 ≤ m) (m2 : m ≤ 1099511627776) (k1 : 1 ≤ k) (k2 : k ≤ 8) : (invR m k).2 = 0 := by
  unfold invR
  rw [if_pos ⟨m1, m2, k1, k2⟩]
  unfold belowR
  have hk : k.toNat ≤ 8 := by omega
  have h1 : k.toNat * 1048576 * (k.toNat * 1048576) ≤ 8 * 1048576 * (8 * 1048576) := Nat.mul_le_mul (Nat.mul_le_mul_right _ hk) (Nat.mul_le_mul_right _ hk)
  have h2 := QT_le (k.toNat * 1048576 * (k.toNat * 1048576)) m.toNat 1
  have hq : qUp (k.toNat * 1048576 * (k.toNat * 1048576)) m.toNat 1 = Rt.isq (QT (k.toNat * 1048576 * (k.toNat * 1048576)) m.toNat 1) ∨ qUp (k.toNat * 1048576 * (k.toNat * 1048576)) m.toNat 1 = Rt.isq (QT (k.toNat * 1048576 * (k.toNat * 1048576)) m.toNat 1) + 1 := by
    unfold qUp Rt.csq
    split
    · split
      · exact Or.inl rfl
      · exact Or.inr rfl
    · exact Or.inr rfl
  generalize QT (k.toNat * 1048576 * (k.toNat * 1048576)) m.toNat 1 = q at h2 hq
  have h3 : Rt.isq q ≤ 8388608 := by
    have hs := (Rt.isq_spec q).1
    refine Classical.byContradiction fun c => ?_
    have := Nat.mul_le_mul (show 8388609 ≤ Rt.isq q by omega) (show 8388609 ≤ Rt.isq q by omega)
    omega
  have h4 : Rt.isq q ≤ qUp (k.toNat * 1048576 * (k.toNat * 1048576)) m.toNat 1 ∧ qUp (k.toNat * 1048576 * (k.toNat * 1048576)) m.toNat 1 ≤ 8388609 := by
    have hc := hq
    rcases hc with e | e <;> omega
  rw [Sp.told_yes (Sp.vld_iff.2 ⟨by omega, by omega, by omega⟩)]
theorem sr_keep {W : World} {b0 b1 : Nat} {c : P3} {x y z : P3} (g : Pan W b0 x y z) (h : Own W b1 c) : W.cell? ⟨b0, 0, none⟩ = some (.int .i64 x.1) ∧ W.cell? ⟨b0, 1, none⟩ = some (.int .i64 x.2.1) ∧ W.cell? ⟨b0, 2, none⟩ = some (.int .i64 x.2.2) ∧ W.cell? ⟨b0, 3, none⟩ = some (.int .i64 y.1) ∧ W.cell? ⟨b0, 4, none⟩ = some (.int .i64 y.2.1) ∧ W.cell? ⟨b0, 5, none⟩ = some (.int .i64 y.2.2) ∧ W.cell? ⟨b0, 6, none⟩ = some (.int .i64 z.1) ∧ W.cell? ⟨b0, 7, none⟩ = some (.int .i64 z.2.1) ∧ W.cell? ⟨b0, 8, none⟩ = some (.int .i64 z.2.2) ∧ W.cell? ⟨b1, 0, none⟩ = some (.int .i64 c.1) ∧ W.cell? ⟨b1, 1, none⟩ = some (.int .i64 c.2.1) ∧ W.cell? ⟨b1, 2, none⟩ = some (.int .i64 c.2.2) := by
  obtain ⟨k0, k1, k2, k3, k4, k5, k6, k7, k8, _⟩ := g
  exact ⟨k0, k1, k2, k3, k4, k5, k6, k7, k8, h.1, h.2.1, h.2.2.1⟩
theorem invR_eta {m k : Int} (h : (invR m k).2 = 0) : invR m k = (((invR m k).1.1, (invR m k).1.2), 0) := by
  generalize invR m k = r at *
  obtain ⟨⟨a, b⟩, e⟩ := r
  have h : e = 0 := h
  subst h
  rfl
end Go.Proofs.Ytjigcgpcglfjfaa
namespace Go.Proofs.Ytjigcgpcglfjfaa
open Go.ChangeShapes Go.WideShapes Go.RowKit
open Sh
theorem isq_mono8 {a b : Nat} (h : a ≤ b) : Rt.isq a ≤ Rt.isq b := by
  refine Classical.byContradiction fun c => ?_
  have h1 := (Rt.isq_spec a).1
  have h2 := (Rt.isq_spec b).2
  have := Nat.mul_le_mul (show Rt.isq b + 1 ≤ Rt.isq a by omega) (show Rt.isq b + 1 ≤ Rt.isq a by omega)
  omega
theorem qUp_or (t n : Nat) : qUp t n 1 = Rt.isq (QT t n 1) ∨ qUp t n 1 = Rt.isq (QT t n 1) + 1 := by
  unfold qUp Rt.csq
  split
  · split
    · exact Or.inl rfl
    · exact Or.inr rfl
  · exact Or.inr rfl
/-- an inverse root of valid numbers -/
theorem invR_val {m k : Int} (m1 : 1 ≤ m) (m2 : m ≤ 1099511627776) (k1 : 1 ≤ k) (k2 : k ≤ 8) :
    ∃ r u : Nat, invR m k = (((r : Int), (u : Int)), 0) ∧ r = Rt.isq (k.toNat * 1048576 * (k.toNat * 1048576) / m.toNat) ∧ r ≤ u ∧ u ≤ 8388609 := by
  have hk : k.toNat ≤ 8 := by omega
  have h1 : k.toNat * 1048576 * (k.toNat * 1048576) ≤ 8 * 1048576 * (8 * 1048576) := Nat.mul_le_mul (Nat.mul_le_mul_right _ hk) (Nat.mul_le_mul_right _ hk)
  have h2 := QT_le (k.toNat * 1048576 * (k.toNat * 1048576)) m.toNat 1
  have hq := qUp_or (k.toNat * 1048576 * (k.toNat * 1048576)) m.toNat
  have h3 : Rt.isq (QT (k.toNat * 1048576 * (k.toNat * 1048576)) m.toNat 1) ≤ 8388608 := by
    have hs := (Rt.isq_spec (QT (k.toNat * 1048576 * (k.toNat * 1048576)) m.toNat 1)).1
    refine Classical.byContradiction fun c => ?_
    have := Nat.mul_le_mul (show 8388609 ≤ Rt.isq (QT (k.toNat * 1048576 * (k.toNat * 1048576)) m.toNat 1) by omega) (show 8388609 ≤ Rt.isq (QT (k.toNat * 1048576 * (k.toNat * 1048576)) m.toNat 1) by omega)
    omega
  refine ⟨_, qUp (k.toNat * 1048576 * (k.toNat * 1048576)) m.toNat 1, ?_, rfl, ?_, ?_⟩
  · unfold invR
    rw [if_pos ⟨m1, m2, k1, k2⟩]
    unfold belowR
    rw [Sp.told_yes (Sp.vld_iff.2 ⟨by omega, by omega, by omega⟩)]
    rfl
  · show Rt.isq (QT (k.toNat * 1048576 * (k.toNat * 1048576)) m.toNat 1) ≤ _
    omega
  · omega
theorem invR_mono {m f k : Int} (m1 : 1 ≤ m) (mf : m ≤ f) (f2 : f ≤ 1099511627776) (k1 : 1 ≤ k) (k2 : k ≤ 8) : (invR f k).1.1 ≤ (invR m k).1.2 := by
  obtain ⟨r, u, e, er, _, _⟩ := invR_val (by omega : 1 ≤ f) f2 k1 k2
  obtain ⟨r', u', e', er', h', _⟩ := invR_val m1 (by omega) k1 k2
  rw [e, e']
  have : r ≤ r' := by
    rw [er, er']
    exact isq_mono8 (Nat.div_le_div_left (by omega) (by omega))
  show (r : Int) ≤ (u' : Int)
  omega
theorem sq_le8 {a b : Int} (h : (0 ≤ a ∧ a ≤ b) ∨ (b ≤ a ∧ a ≤ 0)) : a * a ≤ b * b := by
  rcases h with ⟨h1, h2⟩ | ⟨h1, h2⟩
  · exact Int.mul_le_mul h2 h2 h1 (by omega)
  · have := Int.mul_le_mul (show -a ≤ -b by omega) (show -a ≤ -b by omega) (by omega) (by omega)
    rwa [Int.neg_mul_neg, Int.neg_mul_neg] at this
theorem nst_le (n a b c : Int) : (n - nst n a b c) * (n - nst n a b c) ≤ (a - n) * (a - n) := by
  have e : (a - n) * (a - n) = (n - a) * (n - a) := by rw [← Int.neg_mul_neg, Int.neg_sub]
  rw [e]
  refine sq_le8 ?_
  unfold nst lo3' hi3'
  simp only [Sp.mn_eq, Sp.mx_eq]
  omega
theorem near_far (t : P9) (c : P3) : nearN t c ≤ farN t c := by
  have h1 := nst_le c.1 t.1.1 t.2.1.1 t.2.2.1
  have h2 := nst_le c.2.1 t.1.2.1 t.2.1.2.1 t.2.2.2.1
  have h3 := nst_le c.2.2 t.1.2.2 t.2.1.2.2 t.2.2.2.2
  have h4 : nearN t c ≤ sq (sub t.1 c) := by
    show (c.1 - nst c.1 t.1.1 t.2.1.1 t.2.2.1) * (c.1 - nst c.1 t.1.1 t.2.1.1 t.2.2.1) + (c.2.1 - nst c.2.1 t.1.2.1 t.2.1.2.1 t.2.2.2.1) * (c.2.1 - nst c.2.1 t.1.2.1 t.2.1.2.1 t.2.2.2.1) + (c.2.2 - nst c.2.2 t.1.2.2 t.2.1.2.2 t.2.2.2.2) * (c.2.2 - nst c.2.2 t.1.2.2 t.2.1.2.2 t.2.2.2.2) ≤ (t.1.1 - c.1) * (t.1.1 - c.1) + (t.1.2.1 - c.2.1) * (t.1.2.1 - c.2.1) + (t.1.2.2 - c.2.2) * (t.1.2.2 - c.2.2)
    omega
  refine Int.le_trans h4 ?_
  unfold farN hi3'
  exact Int.le_trans (Sp.mx_ge1 _ _) (Sp.mx_ge1 _ _)
/-- what a part gives: an error 10, or a span between 0 and 8388609 -/
def gOk (r : Sp.R) : Prop := r.2 = 10 ∨ (r.2 = 0 ∧ 0 ≤ r.1.1 ∧ r.1.1 ≤ r.1.2 ∧ r.1.2 ≤ 8388609)
theorem giR_ok (c : P3) (i o k : Int) (t : P9) (i0 : 0 ≤ i) (i1 : i ≤ 1099511627776) (k1 : 1 ≤ k) (k2 : k ≤ 8) (fm : farN t c ≤ 1099511627776) : gOk (giR c i o k t) := by
  have nf := near_far t c
  unfold giR
  by_cases h1 : farN t c ≤ i ∨ o < nearN t c
  · rw [if_pos h1]
    exact Or.inr ⟨rfl, by decide, by decide, by decide⟩
  rw [if_neg h1]
  by_cases h3 : Sp.mx (nearN t c) i = 0
  · rw [if_pos h3]
    exact Or.inl rfl
  rw [if_neg h3]
  have hm : 1 ≤ Sp.mx (nearN t c) i ∧ Sp.mx (nearN t c) i ≤ farN t c := by
    rw [Sp.mx_eq] at h3 ⊢
    omega
  obtain ⟨r, u, e, _, h5, h6⟩ := invR_val hm.1 (by omega) k1 k2
  by_cases h4 : nearN t c ≤ i ∨ o < farN t c
  · rw [if_pos h4, e]
    exact Or.inr ⟨rfl, Int.le_refl 0, by show (0 : Int) ≤ (u : Int); omega, by show (u : Int) ≤ _; omega⟩
  · rw [if_neg h4]
    have mo := invR_mono hm.1 hm.2 fm k1 k2
    obtain ⟨r', u', e', _, _, _⟩ := invR_val (by omega : 1 ≤ farN t c) fm k1 k2
    rw [e, e'] at mo ⊢
    exact Or.inr ⟨rfl, by show (0 : Int) ≤ (r' : Int); omega, mo, by show (u : Int) ≤ _; omega⟩
theorem gie_or {g : P9 → Sp.R} {L : Nat → P9} : ∀ {n : Nat}, (∀ k, k < n → gOk (g (L k))) → gie g L n = 0 ∨ gie g L n = 10
  | 0, _ => Or.inl rfl
  | n + 1, h => by
    show (if gie g L n = 0 then (g (L n)).2 else gie g L n) = 0 ∨ (if gie g L n = 0 then (g (L n)).2 else gie g L n) = 10
    rcases gie_or (n := n) (fun k hk => h k (by omega)) with e | e
    · rw [if_pos e]
      rcases h n (by omega) with z | z
      · exact Or.inr z
      · exact Or.inl z.1
    · rw [if_neg (by rw [e]; decide)]
      exact Or.inr e
theorem gie_all {g : P9 → Sp.R} {L : Nat → P9} : ∀ {n : Nat}, gie g L n = 0 → ∀ k, k < n → (g (L k)).2 = 0
  | 0, _, k, h => absurd h (Nat.not_lt_zero k)
  | n + 1, h, k, hk => by
    have h : (if gie g L n = 0 then (g (L n)).2 else gie g L n) = 0 := h
    by_cases z : gie g L n = 0
    · rw [if_pos z] at h
      by_cases e : k = n
      · subst e; exact h
      · exact gie_all z k (by omega)
    · rw [if_neg z] at h
      exact absurd h z
theorem gis_at {g : P9 → Sp.R} {L : Nat → P9} : ∀ {n k : Nat}, k < n → (gis g L n).getD k (0, 0) = (g (L k)).1
  | 0, k, h => absurd h (Nat.not_lt_zero k)
  | n + 1, k, h => by
    show (gis g L n ++ [(g (L n)).1]).getD k (0, 0) = _
    rw [List.getD_eq_getElem?_getD]
    by_cases e : k = n
    · subst e
      rw [List.getElem?_append_right (by rw [gis_len]; omega), gis_len, Nat.sub_self]
      rfl
    · rw [List.getElem?_append_left (by rw [gis_len]; omega), ← List.getD_eq_getElem?_getD]
      exact gis_at (by omega)
theorem sm_pos8 {l h : Nat → Int} {B : Int} : ∀ {n : Nat}, (∀ k, k < n → 0 ≤ l k ∧ l k ≤ h k ∧ h k ≤ B) → 0 ≤ sm l n ∧ sm l n ≤ sm h n ∧ sm h n ≤ (n : Int) * B
  | 0, _ => ⟨by show (0 : Int) ≤ 0; omega, by show (0 : Int) ≤ 0; omega, by show (0 : Int) ≤ ((0 : Nat) : Int) * B; simp⟩
  | n + 1, q => by
    obtain ⟨a, b, c⟩ := sm_pos8 (n := n) (fun k hk => q k (by omega))
    obtain ⟨d, e, f⟩ := q n (by omega)
    show 0 ≤ sm l n + l n ∧ sm l n + l n ≤ sm h n + h n ∧ sm h n + h n ≤ ((n + 1 : Nat) : Int) * B
    have : ((n + 1 : Nat) : Int) * B = (n : Int) * B + B := by rw [Int.natCast_add, Int.add_mul]; simp
    omega
theorem mn8_ok {l h : Nat → Int} {n : Nat} (hn : 0 < n) (q : ∀ k, k < n → 0 ≤ l k ∧ l k ≤ h k ∧ h k ≤ 8388609) : (mnR8 l h n).2 = 0 ∧ 0 ≤ (mnR8 l h n).1.1 ∧ (mnR8 l h n).1.1 ≤ (mnR8 l h n).1.2 ∧ (mnR8 l h n).1.2 ≤ 8388609 := by
  obtain ⟨a, b, c⟩ := sm_pos8 q
  have hd : (0 : Int) < (n : Int) := by omega
  have h1 : 0 ≤ Sp.fl (sm l n) n := by rw [Sp.fl_pos hd]; exact Int.ediv_nonneg a (by omega)
  have h2 : Sp.ce (sm h n) n ≤ 8388609 := by
    have z : Sp.ce (sm h n) n ≤ Sp.ce ((n : Int) * 8388609) n := Sp.ce_mono hd c
    have y : Sp.ce ((n : Int) * 8388609) n = 8388609 := by
      unfold Sp.ce
      rw [Sp.fl_pos hd, ← Int.mul_neg, Int.mul_ediv_cancel_left _ (by omega)]
      rfl
    omega
  have h3 : Sp.fl (sm l n) n ≤ Sp.ce (sm h n) n := by
    refine Int.le_trans (Sp.fl_mono hd b) ?_
    have i1 := Int.ediv_mul_le (sm h n) (show (n : Int) ≠ 0 by omega)
    have i2 := Int.ediv_mul_le (-(sm h n)) (show (n : Int) ≠ 0 by omega)
    unfold Sp.ce
    rw [Sp.fl_pos hd, Sp.fl_pos hd]
    refine Classical.byContradiction fun x => ?_
    have y : (1 : Int) * n ≤ (sm h n / n + -(sm h n) / n) * n := Int.mul_le_mul_of_nonneg_right (by omega) (by omega)
    rw [Int.add_mul] at y
    omega
  unfold mnR8
  rw [if_pos (all_yes fun k hk => by obtain ⟨x, y, z⟩ := q k hk; exact Sp.vld_iff.2 ⟨by omega, y, by omega⟩)]
  unfold meanR
  rw [if_pos rfl, if_neg (by omega), Sp.told_yes (Sp.vld_iff.2 ⟨by omega, h3, by omega⟩)]
  exact ⟨rfl, h1, h3, h2⟩
theorem scale8_ok {a b p : Int} (h0 : 0 ≤ a) (h1 : a ≤ b) (h2 : b ≤ 8388609) (p1 : -100 ≤ p) (p2 : p ≤ 100) : (scaleR a b p).2 = 0 ∧ (scaleR a b p).1.1 ≤ (scaleR a b p).1.2 ∧ -838860900 ≤ (scaleR a b p).1.1 ∧ (scaleR a b p).1.2 ≤ 838860900 ∧ (scaleR a b p).1 = (Sp.mn (a * p) (b * p), Sp.mx (a * p) (b * p)) := by
  have q1 := mul_bd (x := a) (y := p) (A := 8388609) (B := 100) (by omega) (by omega) (by omega) (by omega)
  have q2 := mul_bd (x := b) (y := p) (A := 8388609) (B := 100) (by omega) (by omega) (by omega) (by omega)
  have e : scaleR a b p = ((Sp.mn (a * p) (b * p), Sp.mx (a * p) (b * p)), 0) := by
    unfold scaleR
    rw [if_pos ⟨Sp.vld_iff.2 ⟨by omega, h1, by omega⟩, by omega, by omega⟩]
    refine Sp.told_yes (Sp.vld_iff.2 ?_)
    rw [Sp.mn_eq, Sp.mx_eq]
    omega
  rw [e]
  refine ⟨rfl, ?_, ?_, ?_, rfl⟩ <;> (try dsimp only) <;> simp only [Sp.mn_eq, Sp.mx_eq] <;> omega
theorem shG_ok {x : P3} {s d q : Int} {t : P9} (hx : BdP 256 x) (s1 : 1 ≤ s) (s2 : s ≤ 16) (d1 : 0 ≤ d) (d2 : d ≤ 3) (q1 : 1 ≤ q) (q2 : q ≤ 2000) (ht : BdT 512 t) : gOk (shG x s d q t) := by
  have scl8 : 1 ≤ scl d ∧ scl d ≤ 8 := by
    unfold scl
    have : d.toNat = 0 ∨ d.toNat = 1 ∨ d.toNat = 2 ∨ d.toNat = 3 := by omega
    rcases this with e | e | e | e <;> rw [e] <;> decide
  have bb := sh_bd scl8.1 scl8.2 s1 s2 q1 q2
  have hc : BdP 2048 (tim (scl d) x) := (tim_bd (K := 8) (by omega) (by omega) hx).mono (by decide)
  refine giR_ok _ _ _ _ _ bb.2.2.2.1.1 (by have := bb.2.2.2.1.2; unfold inn; omega) scl8.1 scl8.2 ?_
  have key : ∀ u : P3, BdP 512 u → sq (sub u (tim (scl d) x)) ≤ 19660800 := fun u hu => by
    have z := (sub_bd hu hc)
    obtain ⟨a1, a2, a3, a4, a5, a6⟩ := z.mono (B := 2560) (by decide)
    have e1 := mul_bd (x := (sub u (tim (scl d) x)).1) (y := (sub u (tim (scl d) x)).1) (A := 2560) (B := 2560) a1 a2 a1 a2
    have e2 := mul_bd (x := (sub u (tim (scl d) x)).2.1) (y := (sub u (tim (scl d) x)).2.1) (A := 2560) (B := 2560) a3 a4 a3 a4
    have e3 := mul_bd (x := (sub u (tim (scl d) x)).2.2) (y := (sub u (tim (scl d) x)).2.2) (A := 2560) (B := 2560) a5 a6 a5 a6
    show (sub u (tim (scl d) x)).1 * (sub u (tim (scl d) x)).1 + (sub u (tim (scl d) x)).2.1 * (sub u (tim (scl d) x)).2.1 + (sub u (tim (scl d) x)).2.2 * (sub u (tim (scl d) x)).2.2 ≤ _
    omega
  have k1 := key _ ht.1
  have k2 := key _ ht.2.1
  have k3 := key _ ht.2.2
  unfold farN hi3'
  simp only [Sp.mx_eq]
  omega
/-- what is heard of a pulse: an error 10, or a span that is not great -/
def hOk (r : Sp.R) : Prop := (r.2 = 10 ∧ r.1 = (0, 0)) ∨ (r.2 = 0 ∧ r.1.1 ≤ r.1.2 ∧ -838860900 ≤ r.1.1 ∧ r.1.2 ≤ 838860900)
theorem ptn_pos (d : Int) : 0 < ptn d := Nat.pow_pos (by decide)
theorem hd_ok {x : P3} {s d : Int} {p : Pu} {tick : Int} (hp : pucode p = 0) (hx : BdP 256 x) (s1 : 1 ≤ s) (s2 : s ≤ 16) (d1 : 0 ≤ d) (d2 : d ≤ 3) (_t1 : 0 ≤ tick) (t2 : tick ≤ 2000) : hOk (hdR x s d p tick) := by
  obtain ⟨hb, _, ⟨a1, a2⟩, b1, b2⟩ := pucode_ok hp
  unfold hdR
  by_cases h1 : tick ≤ p.2.1
  · rw [if_pos h1]
    exact Or.inr ⟨rfl, Int.le_refl 0, by decide, by decide⟩
  rw [if_neg h1]
  have G : ∀ k, k < ptn d → gOk (shG x s d (tick - p.2.1) (ptk p.1 d k)) := fun k hk => shG_ok hx s1 s2 d1 d2 (by omega) (by omega) (ptk_bd hb d1 d2 hk)
  rcases gie_or G with z | z
  · rw [if_neg (fun c => c z)]
    have key : ∀ k, k < ptn d → 0 ≤ ((gis (shG x s d (tick - p.2.1)) (ptk p.1 d) (ptn d)).getD k (0, 0)).1 ∧ ((gis (shG x s d (tick - p.2.1)) (ptk p.1 d) (ptn d)).getD k (0, 0)).1 ≤ ((gis (shG x s d (tick - p.2.1)) (ptk p.1 d) (ptn d)).getD k (0, 0)).2 ∧ ((gis (shG x s d (tick - p.2.1)) (ptk p.1 d) (ptn d)).getD k (0, 0)).2 ≤ 8388609 := fun k hk => by
      rw [gis_at hk]
      have e := gie_all z k hk
      rcases G k hk with y | y
      · rw [y] at e; cases e
      · exact y.2
    obtain ⟨m1, m2, m3, m4⟩ := mn8_ok (ptn_pos d) key
    dsimp only
    rw [if_neg (fun c => c m1)]
    obtain ⟨q1, q2, q3, q4, _⟩ := scale8_ok m2 m3 m4 b1 b2
    exact Or.inr ⟨q1, q2, q3, q4⟩
  · rw [if_pos (by rw [z]; decide)]
    exact Or.inl ⟨z, rfl⟩
/-- of the opposite power -/
theorem hd_neg {x : P3} {s d : Int} {t : P9} {at_ pw tick : Int} (hp : pucode (t, at_, pw) = 0) (hx : BdP 256 x) (s1 : 1 ≤ s) (s2 : s ≤ 16) (d1 : 0 ≤ d) (d2 : d ≤ 3) (_t1 : 0 ≤ tick) (t2 : tick ≤ 2000) :
    hdR x s d (t, at_, -pw) tick = ((-(hdR x s d (t, at_, pw) tick).1.2, -(hdR x s d (t, at_, pw) tick).1.1), (hdR x s d (t, at_, pw) tick).2) := by
  obtain ⟨hb, _, ⟨a1, a2⟩, b1, b2⟩ := pucode_ok hp
  dsimp only at a1 a2 b1 b2 hb
  unfold hdR
  dsimp only
  by_cases h1 : tick ≤ at_
  · rw [if_pos h1, if_pos h1]
    rfl
  rw [if_neg h1, if_neg h1]
  have G : ∀ k, k < ptn d → gOk (shG x s d (tick - at_) (ptk t d k)) := fun k hk => shG_ok hx s1 s2 d1 d2 (by omega) (by omega) (ptk_bd hb d1 d2 hk)
  rcases gie_or G with z | z
  · have zz : ¬ (gie (shG x s d (tick - at_)) (ptk t d) (ptn d) ≠ 0) := fun c => c z
    rw [if_neg zz, if_neg zz]
    have key : ∀ k, k < ptn d → 0 ≤ ((gis (shG x s d (tick - at_)) (ptk t d) (ptn d)).getD k (0, 0)).1 ∧ ((gis (shG x s d (tick - at_)) (ptk t d) (ptn d)).getD k (0, 0)).1 ≤ ((gis (shG x s d (tick - at_)) (ptk t d) (ptn d)).getD k (0, 0)).2 ∧ ((gis (shG x s d (tick - at_)) (ptk t d) (ptn d)).getD k (0, 0)).2 ≤ 8388609 := fun k hk => by
      rw [gis_at hk]
      have e := gie_all z k hk
      rcases G k hk with y | y
      · rw [y] at e; cases e
      · exact y.2
    obtain ⟨m1, m2, m3, m4⟩ := mn8_ok (ptn_pos d) key
    clear key
    generalize mnR8 _ _ _ = m at *
    have mm : ¬ (m.2 ≠ 0) := fun c => c m1
    rw [if_neg mm, if_neg mm]
    obtain ⟨q1, _, _, _, q5⟩ := scale8_ok m2 m3 m4 b1 b2
    obtain ⟨r1, _, _, _, r5⟩ := scale8_ok m2 m3 m4 (show -100 ≤ -pw by omega) (show -pw ≤ 100 by omega)
    generalize scaleR m.1.1 m.1.2 (-pw) = A at *
    generalize scaleR m.1.1 m.1.2 pw = B at *
    obtain ⟨⟨A1, A2⟩, A3⟩ := A
    obtain ⟨⟨B1, B2⟩, B3⟩ := B
    simp only [Prod.mk.injEq] at q5 r5
    dsimp only at q1 r1 ⊢
    have n1 : m.1.1 * -pw = -(m.1.1 * pw) := Int.mul_neg _ _
    have n2 : m.1.2 * -pw = -(m.1.2 * pw) := Int.mul_neg _ _
    rw [n1, n2, Sp.mn_eq, Sp.mx_eq] at r5
    rw [Sp.mn_eq, Sp.mx_eq] at q5
    rw [q1, r1]
    refine Prod.ext (Prod.ext ?_ ?_) rfl
    · show A1 = -B2; omega
    · show A2 = -B1; omega
  · rw [if_pos (by rw [z]; decide), if_pos (by rw [z]; decide)]
    rfl
/-- of a later pulse -/
theorem hd_later (x : P3) (s d : Int) (t : P9) (at_ pw tick by_ : Int) : hdR x s d (t, at_ + by_, pw) (tick + by_) = hdR x s d (t, at_, pw) tick := by
  unfold hdR
  dsimp only
  rw [show tick + by_ - (at_ + by_) = tick - at_ by omega]
  by_cases h : tick ≤ at_
  · rw [if_pos h, if_pos (by omega)]
  · rw [if_neg h, if_neg (by omega)]

end Go.Proofs.Ytjigcgpcglfjfaa
namespace Go.Proofs.Ytjigcgpcglfjfaa
open Go.ChangeShapes Go.WideShapes Go.RowKit
open Sh
theorem lit_src (w : World) (cl : List Value) (t : TypeId) (hm : cl.length ≤ maxLen) (j : Nat) (u : Value) (h : cl[j]? = some u) : (w.alloc (.cells cl.toArray t)).cell? ((⟨w.heap.size, 0, none⟩ : Addr).add j) = some u := by
  have hj : j < cl.length := (List.getElem?_eq_some_iff.1 h).1
  have e : (⟨w.heap.size, 0, none⟩ : Addr).add j = ⟨w.heap.size, j, none⟩ := by
    unfold Addr.add
    split
    · rename_i e; subst e; rfl
    · simp
  rw [e]
  have z := (World.ownsRow_lit (base := 0) (e := t) (size := 1) w cl.toArray cl.length (Nat.zero_le _) hm (by simp)).cellAt j (by simpa using hj)
  rw [z]
  exact h
theorem pcs_one : ∀ (l : List P9), ∀ u ∈ pcs l, u.oneCell' = true := by
  intro l u hu
  unfold pcs at hu
  obtain ⟨t, _, ht⟩ := List.mem_flatMap.1 hu
  unfold pcs9 at ht
  simp at ht
  rcases ht with rfl | rfl | rfl | rfl | rfl | rfl | rfl | rfl | rfl <;> rfl
theorem pcs_app (l m : List P9) : pcs (l ++ m) = pcs l ++ pcs m := by unfold pcs; exact List.flatMap_append
theorem take_next {l : List P9} {k : Nat} (h : k < l.length) : (l.take (k + 1)).flatMap qrs = (l.take k).flatMap qrs ++ qrs (l.getD k ((0, 0, 0), (0, 0, 0), (0, 0, 0))) := by
  rw [List.take_add_one, List.getElem?_eq_getElem h, List.flatMap_append, List.getD_eq_getElem?_getD, List.getElem?_eq_getElem h]
  show _ ++ [l[k]].flatMap qrs = _
  rw [List.flatMap_singleton]
  rfl
/-- a row of panels in memory of the call's own, by its address -/
theorem own_row9 {w : World} {base n : Nat} {v : Value} {l : List P9} (h : w.ownsRow base 25 9 v n (pcs l)) (hn : l.length = n) (h0 : 0 < n) : ∃ g off cap, v = .slice (some ⟨g, off, none⟩) n cap ∧ RowP w g off n (fun k => l.getD k ((0, 0, 0), (0, 0, 0), (0, 0, 0))) := by
  obtain ⟨g, cap, rfl⟩ := own_slice8 h h0
  exact ⟨g, 0, cap, rfl, rowP_of h hn⟩
/-- what the loop keeps: the list so far, of a block below B -/
def GIp (w : World) (B : Nat) (v : Value) (n : Nat) (xs : List Value) (W : World) : Prop := Below w.heap.size w W ∧ W.ownsRow w.heap.size 25 9 v n xs ∧ ∀ g, v.ownBlock = some g → g < B
theorem own_in9' {w w1 : World} {N base : Nat} {e : TypeId} {n : Nat} {v : Value} {k : Nat} {xs : List Value} (h : w.ownsRow base e n v k xs) (hb : Below N w w1) (hg : ∀ g, v.ownBlock = some g → g < N) : w1.ownsRow base e n v k xs := by
  refine ⟨h.1, ?_⟩
  rcases h.2 with hn | ⟨g, cap, cur, rfl, hg', hgg, rest⟩
  · exact .inl hn
  · exact .inr ⟨g, cap, cur, rfl, hg', by rw [hb.block g (hg g rfl)]; exact hgg, rest⟩
theorem step_own {P : Program} {ops : Array Oper} {o : Oper} {a : Act} {w : World} {K : Act → World → Prop} {Q : Exit → Act → World → Prop} {E : Prop} (hg : o.guard = none) (s x : Operand) (t : TypeId)
    (ho : o.op = .call { callee := .builtin .append, args := #[s, x], argTypes := #[t, t] })
    (base : Nat) (e : TypeId) (i : TypeInfo) (z : Value) (size bytes : Nat) (ht : P.underlying t = some (.slice e)) (hi : P.info? e = some i) (hz : i.zero = some z)
    (hsize : i.size = size) (hby : i.bytes = bytes) (hzs : z.cells.size = size) (hsz : 0 < size)
    (v : Value) (n : Nat) (xs : List Value) (hs : a.eval s = v) (hown : w.ownsRow base e size v n xs)
    (ad : Addr) (m c : Nat) (hx : a.eval x = .slice (some ad) m c) (news : List Value) (hnews : ∀ j u, news[j]? = some u → w.cell? (ad.add j) = some u) (hl : news.length = m * size) (h1 : ∀ u ∈ news, u.oneCell' = true)
    (h63 : n + m ≤ maxLen) (hbytes : (n + m) * bytes ≤ 140737488355328) (hbase : base ≤ w.heap.size)
    (h : ∀ v' w', w'.ownsRow base e size v' (n + m) (xs ++ news) → w.grownBy w' v.ownBlock → K (a.put o.dst v') w') : if Region.wanted o (yielded ops a.tmps) = true then Oper.wp P o a w K Q else E := by
  have hw : Region.wanted o (yielded ops a.tmps) = true := by simp [Region.wanted, hg]
  rw [if_pos hw]
  exact wp_append_own w s x t ho base e i z size bytes ht hi hz hsize hby hzs hsz v n xs hs hown ad m c news hx hl hnews h1 h63 hbytes hbase fun v' w' h2 h3 _ => h v' w' h2 h3
theorem gip_in {w W W' : World} {B : Nat} {v : Value} {n : Nat} {xs : List Value} (h : GIp w B v n xs W) (hs : w.heap.size ≤ B) (hb : Below B W W') : GIp w B v n xs W' := ⟨h.1.trans (hb.mono hs), own_in9' h.2.1 hb h.2.2, h.2.2⟩
/-- six points in blocks of the call's own -/
def SX (W : World) (x y z u v q : Nat) (a b c d e f : P3) : Prop := (Own W x a ∧ Own W y b ∧ Own W z c) ∧ Own W u d ∧ Own W v e ∧ Own W q f
theorem sx_below {W W' : World} {x y z u v q : Nat} {a b c d e f : P3} (h : SX W x y z u v q a b c d e f) (hb : Below W.heap.size W W') : SX W' x y z u v q a b c d e f :=
  ⟨⟨own_below h.1.1 hb, own_below h.1.2.1 hb, own_below h.1.2.2 hb⟩, own_below h.2.1 hb, own_below h.2.2.1 hb, own_below h.2.2.2 hb⟩
theorem gip_drew {w W : World} {B : Nat} {v : Value} {n : Nat} {xs : List Value} (h : GIp w B v n xs W) : GIp w B v n xs W.drew := ⟨Below.drew h.1, h.2.1, h.2.2⟩
theorem sx_grow {W W' : World} {row : Option Nat} {B x y z u v q : Nat} {a b c d e f : P3} (h : SX W x y z u v q a b c d e f) (g : W.grownBy W' row) (hr : ∀ k, row = some k → k < B) (n : (B ≤ x ∧ B ≤ y ∧ B ≤ z) ∧ B ≤ u ∧ B ≤ v ∧ B ≤ q) : W'.cell? ⟨x, 0, none⟩ = some (.int .i64 a.1) ∧ W'.cell? ⟨x, 1, none⟩ = some (.int .i64 a.2.1) ∧ W'.cell? ⟨x, 2, none⟩ = some (.int .i64 a.2.2) ∧ W'.cell? ⟨y, 0, none⟩ = some (.int .i64 b.1) ∧ W'.cell? ⟨y, 1, none⟩ = some (.int .i64 b.2.1) ∧ W'.cell? ⟨y, 2, none⟩ = some (.int .i64 b.2.2) ∧ W'.cell? ⟨z, 0, none⟩ = some (.int .i64 c.1) ∧ W'.cell? ⟨z, 1, none⟩ = some (.int .i64 c.2.1) ∧ W'.cell? ⟨z, 2, none⟩ = some (.int .i64 c.2.2) ∧ W'.cell? ⟨u, 0, none⟩ = some (.int .i64 d.1) ∧ W'.cell? ⟨u, 1, none⟩ = some (.int .i64 d.2.1) ∧ W'.cell? ⟨u, 2, none⟩ = some (.int .i64 d.2.2) ∧ W'.cell? ⟨v, 0, none⟩ = some (.int .i64 e.1) ∧ W'.cell? ⟨v, 1, none⟩ = some (.int .i64 e.2.1) ∧ W'.cell? ⟨v, 2, none⟩ = some (.int .i64 e.2.2) ∧ W'.cell? ⟨q, 0, none⟩ = some (.int .i64 f.1) ∧ W'.cell? ⟨q, 1, none⟩ = some (.int .i64 f.2.1) ∧ W'.cell? ⟨q, 2, none⟩ = some (.int .i64 f.2.2) := by
  have ne : ∀ k, B ≤ k → some k ≠ row := fun k hk e => by have := hr k e.symm; omega
  obtain ⟨⟨⟨a0, a1, a2, _⟩, ⟨b0, b1, b2, _⟩, ⟨c0, c1, c2, _⟩⟩, ⟨d0, d1, d2, _⟩, ⟨e0, e1, e2, _⟩, ⟨f0, f1, f2, _⟩⟩ := h
  obtain ⟨⟨nx, ny, nz⟩, nu, nv, nq⟩ := n
  exact ⟨g.cell a0 (ne _ nx), g.cell a1 (ne _ nx), g.cell a2 (ne _ nx), g.cell b0 (ne _ ny), g.cell b1 (ne _ ny), g.cell b2 (ne _ ny), g.cell c0 (ne _ nz), g.cell c1 (ne _ nz), g.cell c2 (ne _ nz), g.cell d0 (ne _ nu), g.cell d1 (ne _ nu), g.cell d2 (ne _ nu), g.cell e0 (ne _ nv), g.cell e1 (ne _ nv), g.cell e2 (ne _ nv), g.cell f0 (ne _ nq), g.cell f1 (ne _ nq), g.cell f2 (ne _ nq)⟩
theorem sx_drew {W : World} {x y z u v q : Nat} {a b c d e f : P3} (h : SX W x y z u v q a b c d e f) : SX W.drew x y z u v q a b c d e f := h
theorem sx_alloc {W : World} {x y z u v q : Nat} {a b c d e f : P3} (h : SX W x y z u v q a b c d e f) (o : Obj) : SX (W.alloc o) x y z u v q a b c d e f := sx_below h ((Below.refl _ _).alloc (Nat.le_refl _) _)
theorem sx_in {N : Nat} {W W' : World} {x y z u v q : Nat} {a b c d e f : P3} (h : SX W x y z u v q a b c d e f) (hb : Below N W W') (n : (x < N ∧ y < N ∧ z < N) ∧ u < N ∧ v < N ∧ q < N) : SX W' x y z u v q a b c d e f :=
  ⟨⟨own_in' h.1.1 hb n.1.1, own_in' h.1.2.1 hb n.1.2.1, own_in' h.1.2.2 hb n.1.2.2⟩, own_in' h.2.1 hb n.2.1, own_in' h.2.2.1 hb n.2.2.1, own_in' h.2.2.2 hb n.2.2.2⟩
theorem sx_cells {W : World} {x y z u v q : Nat} {a b c d e f : P3} (h : SX W x y z u v q a b c d e f) : W.cell? ⟨x, 0, none⟩ = some (.int .i64 a.1) ∧ W.cell? ⟨x, 1, none⟩ = some (.int .i64 a.2.1) ∧ W.cell? ⟨x, 2, none⟩ = some (.int .i64 a.2.2) ∧ W.cell? ⟨y, 0, none⟩ = some (.int .i64 b.1) ∧ W.cell? ⟨y, 1, none⟩ = some (.int .i64 b.2.1) ∧ W.cell? ⟨y, 2, none⟩ = some (.int .i64 b.2.2) ∧ W.cell? ⟨z, 0, none⟩ = some (.int .i64 c.1) ∧ W.cell? ⟨z, 1, none⟩ = some (.int .i64 c.2.1) ∧ W.cell? ⟨z, 2, none⟩ = some (.int .i64 c.2.2) ∧ W.cell? ⟨u, 0, none⟩ = some (.int .i64 d.1) ∧ W.cell? ⟨u, 1, none⟩ = some (.int .i64 d.2.1) ∧ W.cell? ⟨u, 2, none⟩ = some (.int .i64 d.2.2) ∧ W.cell? ⟨v, 0, none⟩ = some (.int .i64 e.1) ∧ W.cell? ⟨v, 1, none⟩ = some (.int .i64 e.2.1) ∧ W.cell? ⟨v, 2, none⟩ = some (.int .i64 e.2.2) ∧ W.cell? ⟨q, 0, none⟩ = some (.int .i64 f.1) ∧ W.cell? ⟨q, 1, none⟩ = some (.int .i64 f.2.1) ∧ W.cell? ⟨q, 2, none⟩ = some (.int .i64 f.2.2) := by
  obtain ⟨⟨⟨a0, a1, a2, _⟩, ⟨b0, b1, b2, _⟩, ⟨c0, c1, c2, _⟩⟩, ⟨d0, d1, d2, _⟩, ⟨e0, e1, e2, _⟩, ⟨f0, f1, f2, _⟩⟩ := h
  exact ⟨a0, a1, a2, b0, b1, b2, c0, c1, c2, d0, d1, d2, e0, e1, e2, f0, f1, f2⟩
theorem tim2_add (a : P3) : tim 2 a = add a a := Prod.ext (show 2 * a.1 = a.1 + a.1 by omega) (Prod.ext (show 2 * a.2.1 = a.2.1 + a.2.1 by omega) (show 2 * a.2.2 = a.2.2 + a.2.2 by omega))
end Go.Proofs.Ytjigcgpcglfjfaa
namespace Go.Proofs.Ytjigcgpcglfjfaa
open Go.ChangeShapes Go.WideShapes Go.RowKit
open Sh
theorem rsh_keep {W : World} {b0 b off k n : Nat} {c : P3} {L : Nat → P9} {t : P9} (h : Own W b0 c) (r : RowP W b off n L) (hk : k < n) (e : L k = t) : W.cell? ⟨b0, 0, none⟩ = some (.int .i64 c.1) ∧ W.cell? ⟨b0, 1, none⟩ = some (.int .i64 c.2.1) ∧ W.cell? ⟨b0, 2, none⟩ = some (.int .i64 c.2.2) ∧ W.cell? ⟨b, off + k * 9, none⟩ = some (.int .i64 t.1.1) ∧ W.cell? ⟨b, off + k * 9 + 1, none⟩ = some (.int .i64 t.1.2.1) ∧ W.cell? ⟨b, off + k * 9 + 1 + 1, none⟩ = some (.int .i64 t.1.2.2) ∧ W.cell? ⟨b, off + k * 9 + 1 + 1 + 1, none⟩ = some (.int .i64 t.2.1.1) ∧ W.cell? ⟨b, off + k * 9 + 1 + 1 + 1 + 1, none⟩ = some (.int .i64 t.2.1.2.1) ∧ W.cell? ⟨b, off + k * 9 + 1 + 1 + 1 + 1 + 1, none⟩ = some (.int .i64 t.2.1.2.2) ∧ W.cell? ⟨b, off + k * 9 + 1 + 1 + 1 + 1 + 1 + 1, none⟩ = some (.int .i64 t.2.2.1) ∧ W.cell? ⟨b, off + k * 9 + 1 + 1 + 1 + 1 + 1 + 1 + 1, none⟩ = some (.int .i64 t.2.2.2.1) ∧ W.cell? ⟨b, off + k * 9 + 1 + 1 + 1 + 1 + 1 + 1 + 1 + 1, none⟩ = some (.int .i64 t.2.2.2.2) := by
  subst e
  obtain ⟨k0, k1, k2, k3, k4, k5, k6, k7, k8⟩ := r.2 k hk
  exact ⟨h.1, h.2.1, h.2.2.1, k0, k1, k2, k3, k4, k5, k6, k7, k8⟩
theorem pair_in {w w1 : World} {b N : Nat} {x y : Int} (h : Pair w b x y) (hb : Below N w w1) (hN : b < N) : Pair w1 b x y := by
  obtain ⟨h1, h2, h3, h4, h5⟩ := h
  exact ⟨(hb.cell (p := ⟨b, 0, none⟩) hN).trans h1, (hb.cell (p := ⟨b, 1, none⟩) hN).trans h2, (hb.frozen (p := ⟨b, 0, none⟩) hN).trans h3, (hb.frozen (p := ⟨b, 1, none⟩) hN).trans h4, Nat.lt_of_lt_of_le h5 hb.size⟩
theorem ownPu_in8 {w w1 : World} {b N : Nat} {p : Pu} (h : OwnPu w b p) (hb : Below N w w1) (hN : b < N) : OwnPu w1 b p := by
  obtain ⟨⟨h0, h1, h2, h3, h4, h5, h6, h7, h8, h9, h10⟩, l⟩ := h
  exact ⟨⟨(hb.cell (p := ⟨b, 0, none⟩) hN).trans h0, (hb.cell (p := ⟨b, 1, none⟩) hN).trans h1, (hb.cell (p := ⟨b, 2, none⟩) hN).trans h2, (hb.cell (p := ⟨b, 3, none⟩) hN).trans h3, (hb.cell (p := ⟨b, 4, none⟩) hN).trans h4, (hb.cell (p := ⟨b, 5, none⟩) hN).trans h5, (hb.cell (p := ⟨b, 6, none⟩) hN).trans h6, (hb.cell (p := ⟨b, 7, none⟩) hN).trans h7, (hb.cell (p := ⟨b, 8, none⟩) hN).trans h8, (hb.cell (p := ⟨b, 9, none⟩) hN).trans h9, (hb.cell (p := ⟨b, 10, none⟩) hN).trans h10⟩, Nat.lt_of_lt_of_le l hb.size⟩
end Go.Proofs.Ytjigcgpcglfjfaa
namespace Go.Proofs.Ytjigcgpcglfjfaa
open Go.ChangeShapes Go.WideShapes Go.RowKit
open Sh
theorem rmean8_any (b off n cap : Nat) (l h : Nat → Int) (w : World) (r : Row w b off n l h) (hm : n ≤ 1000) :
    Calls Try.prog 75 #[.slice (some ⟨b, off, none⟩) n cap] w fun e w' => e = .returned (spr (mnR8 l h n)) ∧ Below w.heap.size w w' := by
  unfold mnR8
  rcases first_bad8 (fun k => Sp.vldB (l k) (h k)) n with v | ⟨k0, hk, nv, v⟩
  · rw [if_pos (all_yes v)]
    have bd1 := sm_bd (f := l) (k := n) (fun i hi => by have := Sp.vld_iff.1 (v i hi); omega)
    have bd2 := sm_bd (f := h) (k := n) (fun i hi => by have := Sp.vld_iff.1 (v i hi); omega)
    have T1 : TotC 137 (some ⟨b, off, none⟩) n cap (sm l n) (sm h n) 0 w := fun W B => rtotal_ok b off n cap l h W (row_below r B) (by omega) v
    have S1 : Sm (sm l n) (n : Int) := ⟨by omega, by omega, by omega, by omega⟩
    have S2 : Sm (sm h n) (n : Int) := ⟨by omega, by omega, by omega, by omega⟩
    exact rmean_any _ n cap _ _ 0 w w (Lib.hid T1) (Below.refl _ _) (by omega) (Lib.hid S1) (Lib.hid S2)
  · rw [if_neg (all_no hk nv)]
    have T1 : TotC 137 (some ⟨b, off, none⟩) n cap 0 0 1 w := fun W B => rtotal_bad b off n cap k0 l h W (row_below r B) (by omega) hk v nv
    have S1 : Sm 0 (n : Int) := ⟨by omega, by omega, by omega, by omega⟩
    exact rmean_any _ n cap 0 0 1 w w (Lib.hid T1) (Below.refl _ _) (by omega) (Lib.hid S1) (Lib.hid S1)
theorem scl_k {d : Int} (d1 : 0 ≤ d) (d2 : d ≤ 3) : d = 0 ∧ scl d = 1 ∨ d = 1 ∧ scl d = 2 ∨ d = 2 ∧ scl d = 4 ∨ d = 3 ∧ scl d = 8 := by
  have : d = 0 ∨ d = 1 ∨ d = 2 ∨ d = 3 := by omega
  rcases this with rfl | rfl | rfl | rfl
  · exact Or.inl ⟨rfl, by decide⟩
  · exact Or.inr (Or.inl ⟨rfl, by decide⟩)
  · exact Or.inr (Or.inr (Or.inl ⟨rfl, by decide⟩))
  · exact Or.inr (Or.inr (Or.inr ⟨rfl, by decide⟩))
theorem ptn_le {d : Int} (d1 : 0 ≤ d) (d2 : d ≤ 3) : ptn d ≤ 64 := by
  unfold ptn
  have : d.toNat = 0 ∨ d.toNat = 1 ∨ d.toNat = 2 ∨ d.toNat = 3 := by omega
  rcases this with e | e | e | e <;> rw [e] <;> decide
theorem far_le {x : P3} {d : Int} {t : P9} (hx : BdP 256 x) (d1 : 0 ≤ d) (d2 : d ≤ 3) (ht : BdT 512 t) : farN t (tim (scl d) x) ≤ 19660800 := by
  have s8 := scl_k d1 d2
  have hc : BdP 2048 (tim (scl d) x) := (tim_bd (K := 8) (by omega) (by omega) hx).mono (by decide)
  have key : ∀ u : P3, BdP 512 u → sq (sub u (tim (scl d) x)) ≤ 19660800 := fun u hu => by
    obtain ⟨a1, a2, a3, a4, a5, a6⟩ := (sub_bd hu hc).mono (B := 2560) (by decide)
    have e1 := mul_bd (x := (sub u (tim (scl d) x)).1) (y := (sub u (tim (scl d) x)).1) (A := 2560) (B := 2560) a1 a2 a1 a2
    have e2 := mul_bd (x := (sub u (tim (scl d) x)).2.1) (y := (sub u (tim (scl d) x)).2.1) (A := 2560) (B := 2560) a3 a4 a3 a4
    have e3 := mul_bd (x := (sub u (tim (scl d) x)).2.2) (y := (sub u (tim (scl d) x)).2.2) (A := 2560) (B := 2560) a5 a6 a5 a6
    show (sub u (tim (scl d) x)).1 * (sub u (tim (scl d) x)).1 + (sub u (tim (scl d) x)).2.1 * (sub u (tim (scl d) x)).2.1 + (sub u (tim (scl d) x)).2.2 * (sub u (tim (scl d) x)).2.2 ≤ _
    omega
  have k1 := key _ ht.1
  have k2 := key _ ht.2.1
  have k3 := key _ ht.2.2
  unfold farN hi3'
  simp only [Sp.mx_eq]
  omega
end Go.Proofs.Ytjigcgpcglfjfaa
namespace Go.Proofs.Ytjigcgpcglfjfaa
open Go.ChangeShapes Go.WideShapes Go.RowKit
open Sh
/-- the spans of the first k, and their first error -/
def gsN (g : Nat → Sp.R) : Nat → List (Int × Int)
  | 0 => []
  | k + 1 => gsN g k ++ [(g k).1]
theorem gsN_len (g : Nat → Sp.R) : ∀ k, (gsN g k).length = k
  | 0 => rfl
  | k + 1 => by show (gsN g k ++ [_]).length = _; rw [List.length_append, gsN_len g k]; rfl
def geN (g : Nat → Sp.R) : Nat → Int
  | 0 => 0
  | k + 1 => if geN g k = 0 then (g k).2 else geN g k
theorem geN_stop {g : Nat → Sp.R} {k : Nat} (h : geN g k ≠ 0) : ∀ {n : Nat}, k ≤ n → geN g n = geN g k
  | 0, hn => by
    have : k = 0 := by omega
    subst this; rfl
  | n + 1, hn => by
    by_cases e : k = n + 1
    · subst e; rfl
    · have z := geN_stop h (n := n) (by omega)
      show (if geN g n = 0 then _ else _) = _
      rw [z, if_neg h]
theorem geN_hit {g : Nat → Sp.R} {k n : Nat} (hk : k < n) (e : geN g k = 0) (h : (g k).2 ≠ 0) : geN g n = (g k).2 := by
  have q : geN g (k + 1) = (g k).2 := by
    show (if geN g k = 0 then _ else _) = _
    rw [if_pos e]
  rw [geN_stop (k := k + 1) (by rw [q]; exact h) (by omega), q]
theorem geN_next {g : Nat → Sp.R} {k : Nat} (e : geN g k = 0) (h : (g k).2 = 0) : geN g (k + 1) = 0 := by
  show (if geN g k = 0 then _ else _) = _
  rw [if_pos e, h]
theorem geN_all {g : Nat → Sp.R} : ∀ {n : Nat}, geN g n = 0 → ∀ k, k < n → (g k).2 = 0
  | 0, _, k, h => absurd h (Nat.not_lt_zero k)
  | n + 1, h, k, hk => by
    have h : (if geN g n = 0 then (g n).2 else geN g n) = 0 := h
    by_cases z : geN g n = 0
    · rw [if_pos z] at h
      by_cases e : k = n
      · subst e; exact h
      · exact geN_all z k (by omega)
    · rw [if_neg z] at h
      exact absurd h z
theorem gsN_at {g : Nat → Sp.R} : ∀ {n k : Nat}, k < n → (gsN g n).getD k (0, 0) = (g k).1
  | 0, k, h => absurd h (Nat.not_lt_zero k)
  | n + 1, k, h => by
    show (gsN g n ++ [(g n).1]).getD k (0, 0) = _
    rw [List.getD_eq_getElem?_getD]
    by_cases e : k = n
    · subst e
      rw [List.getElem?_append_right (by rw [gsN_len]; omega), gsN_len, Nat.sub_self]
      rfl
    · rw [List.getElem?_append_left (by rw [gsN_len]; omega), ← List.getD_eq_getElem?_getD]
      exact gsN_at (by omega)
/-- the sum of n spans -/
def smR8 (l h : Nat → Int) (n : Nat) : Sp.R := if (List.range n).all (fun k => Sp.vldB (l k) (h k)) = true then sumR (sm l n) (sm h n) 0 else ((0, 0), 1)
def sceR (g : Nat → Sp.R) (n : Nat) : Sp.R := if geN g n ≠ 0 then ((0, 0), geN g n) else smR8 (fun k => ((gsN g n).getD k (0, 0)).1) (fun k => ((gsN g n).getD k (0, 0)).2) n
theorem sum8_row (b off n cap : Nat) (l h : Nat → Int) (w : World) (r : Row w b off n l h) (hm : n ≤ 1000) :
    Calls Try.prog 130 #[.slice (some ⟨b, off, none⟩) n cap] w fun e w' => e = .returned (spr (smR8 l h n)) ∧ Below w.heap.size w w' := by
  unfold smR8
  rcases first_bad8 (fun k => Sp.vldB (l k) (h k)) n with v | ⟨k0, hk, nv, v⟩
  · rw [if_pos (all_yes v)]
    have T1 : TotC 136 (some ⟨b, off, none⟩) n cap (sm l n) (sm h n) 0 w := fun W B => total_ok b off n cap l h W (row_below r B) (by omega) v
    exact sum_any _ n cap _ _ 0 w w (Lib.hid T1) (Below.refl _ _)
  · rw [if_neg (all_no hk nv)]
    have T1 : TotC 136 (some ⟨b, off, none⟩) n cap 0 0 1 w := fun W B => total_bad b off n cap k0 l h W (row_below r B) (by omega) hk v nv
    exact sum_any _ n cap 0 0 1 w w (Lib.hid T1) (Below.refl _ _)
theorem sum8_own (u : Value) (n : Nat) (l : List (Int × Int)) (w : World) (h : w.ownsRow 0 35 2 u n (svs l)) (hl : l.length = n) (hm : n ≤ 1000) :
    Calls Try.prog 130 #[u] w fun e w' => e = .returned (spr (smR8 (fun k => (l.getD k (0, 0)).1) (fun k => (l.getD k (0, 0)).2) n)) ∧ Below w.heap.size w w' := by
  rcases Nat.eq_zero_or_pos n with h0 | h0
  · subst h0
    have key : ∃ a c, u = .slice a 0 c := by
      rcases h.2 with ⟨e, _⟩ | ⟨g, cap, cur, e, _⟩
      · exact ⟨none, 0, e⟩
      · exact ⟨_, cap, e⟩
    obtain ⟨a, c, rfl⟩ := key
    have T1 : TotC 136 a 0 c 0 0 0 w := fun W B => total_zero a c W
    exact sum_any a 0 c 0 0 0 w w (Lib.hid T1) (Below.refl _ _)
  · obtain ⟨g, cap, rfl⟩ := own_slice8 h h0
    exact sum8_row g 0 n cap _ _ w (row_of8 h hl) hm
theorem sp2_new' (w : World) (b : Nat) (x y : Int) (t : TypeId) (hb : b = w.heap.size) : ∀ j u, ([.int .i64 x, .int .i64 y] : List Value)[j]? = some u → (w.alloc (.cells #[.int .i64 x, .int .i64 y] t)).cell? ((⟨b, 0, none⟩ : Addr).add j) = some u := by
  subst hb
  exact sp2_new w x y t
theorem ownMic_in8 {w w1 : World} {b N : Nat} {x : P3} {s d : Int} (h : OwnMic w b x s d) (hb : Below N w w1) (hN : b < N) : OwnMic w1 b x s d := by
  obtain ⟨⟨h0, h1, h2, h3, h4⟩, l⟩ := h
  exact ⟨⟨(hb.cell (p := ⟨b, 0, none⟩) hN).trans h0, (hb.cell (p := ⟨b, 1, none⟩) hN).trans h1, (hb.cell (p := ⟨b, 2, none⟩) hN).trans h2, (hb.cell (p := ⟨b, 3, none⟩) hN).trans h3, (hb.cell (p := ⟨b, 4, none⟩) hN).trans h4⟩, Nat.lt_of_lt_of_le l hb.size⟩
theorem pair_set2 {N : Nat} {u w : World} {b : Nat} {x y : Value} (h : Below N u w) (k : N ≤ b) : Below N u ((w.setCell ⟨b, 0, none⟩ x).setCell ⟨b, 1, none⟩ y) := (h.setCell k _).setCell k _
theorem rsc_keep {W : World} {b0 b off k n : Nat} {x : P3} {Q : Nat → Pu} {q : Pu} (h : Own W b0 x) (r : RowU W b off n Q) (hk : k < n) (e : Q k = q) : W.cell? ⟨b, off + k * 11, none⟩ = some (.int .i64 q.1.1.1) ∧ W.cell? ⟨b, off + k * 11 + 1, none⟩ = some (.int .i64 q.1.1.2.1) ∧ W.cell? ⟨b, off + k * 11 + 1 + 1, none⟩ = some (.int .i64 q.1.1.2.2) ∧ W.cell? ⟨b, off + k * 11 + 1 + 1 + 1, none⟩ = some (.int .i64 q.1.2.1.1) ∧ W.cell? ⟨b, off + k * 11 + 1 + 1 + 1 + 1, none⟩ = some (.int .i64 q.1.2.1.2.1) ∧ W.cell? ⟨b, off + k * 11 + 1 + 1 + 1 + 1 + 1, none⟩ = some (.int .i64 q.1.2.1.2.2) ∧ W.cell? ⟨b, off + k * 11 + 1 + 1 + 1 + 1 + 1 + 1, none⟩ = some (.int .i64 q.1.2.2.1) ∧ W.cell? ⟨b, off + k * 11 + 1 + 1 + 1 + 1 + 1 + 1 + 1, none⟩ = some (.int .i64 q.1.2.2.2.1) ∧ W.cell? ⟨b, off + k * 11 + 1 + 1 + 1 + 1 + 1 + 1 + 1 + 1, none⟩ = some (.int .i64 q.1.2.2.2.2) ∧ W.cell? ⟨b, off + k * 11 + 1 + 1 + 1 + 1 + 1 + 1 + 1 + 1 + 1, none⟩ = some (.int .i64 q.2.1) ∧ W.cell? ⟨b, off + k * 11 + 1 + 1 + 1 + 1 + 1 + 1 + 1 + 1 + 1 + 1, none⟩ = some (.int .i64 q.2.2) ∧ W.cell? ⟨b0, 0, none⟩ = some (.int .i64 x.1) ∧ W.cell? ⟨b0, 1, none⟩ = some (.int .i64 x.2.1) ∧ W.cell? ⟨b0, 2, none⟩ = some (.int .i64 x.2.2) := by
  subst e
  obtain ⟨k0, k1, k2, k3, k4, k5, k6, k7, k8, k9, k10⟩ := r.2 k hk
  exact ⟨k0, k1, k2, k3, k4, k5, k6, k7, k8, k9, k10, h.1, h.2.1, h.2.2.1⟩
end Go.Proofs.Ytjigcgpcglfjfaa
namespace Go.Proofs.Ytjigcgpcglfjfaa
open Go.ChangeShapes Go.WideShapes Go.RowKit
open Sh
/-- what is heard of the first n pulses in a tick -/
def sceQ (x : P3) (s d : Int) (Q : Nat → Pu) (n : Nat) (t : Int) : Sp.R := sceR (fun k => hdR x s d (Q k) t) n
def scode (n : Nat) (Q : Nat → Pu) (x : P3) (s t d : Int) : Int := if vpcode n Q = 0 then acode8 x s t d else vpcode n Q
theorem scode_m (n : Nat) (Q : Nat → Pu) (x : P3) (s t d : Int) : mcode8 (vpcode n Q) x s d (tcode (fun _ => t) 1) = scode n Q x s t d := by
  have f : tcode (fun _ => t) 1 = if rngB t 0 2000 then 0 else 1 := by
    show (if (0 : Int) = 0 then (if rngB t 0 2000 then (0 : Int) else 1) else 1) = _
    rw [if_pos rfl]
  rw [f]
  unfold mcode8 scode acode8
  cases inP 256 x <;> cases rngB s 1 16 <;> cases rngB t 0 2000 <;> cases rngB d 0 3 <;> rfl
theorem vpk_ok {n : Nat} {Q : Nat → Pu} (h : vpcode n Q = 0) : n ≤ 16 ∧ ∀ k, k < n → pucode (Q k) = 0 := by
  unfold vpcode at h
  by_cases z : n ≤ 16
  · rw [if_pos z] at h; exact ⟨z, fun k hk => pucodes_all h k hk⟩
  · rw [if_neg z] at h; exact absurd h (by decide)
theorem scode_ok {n : Nat} {Q : Nat → Pu} {x : P3} {s t d : Int} (h : scode n Q x s t d = 0) : (n ≤ 16 ∧ ∀ k, k < n → pucode (Q k) = 0) ∧ BdP 256 x ∧ (1 ≤ s ∧ s ≤ 16) ∧ (0 ≤ t ∧ t ≤ 2000) ∧ (0 ≤ d ∧ d ≤ 3) := by
  unfold scode at h
  by_cases z : vpcode n Q = 0
  · rw [if_pos z] at h
    exact ⟨vpk_ok z, acode8_ok h⟩
  · rw [if_neg z] at h
    exact absurd h z
def scnR (n : Nat) (Q : Nat → Pu) (x : P3) (s t d : Int) : Sp.R := if scode n Q x s t d = 0 then sceQ x s d Q n t else ((0, 0), scode n Q x s t d)
theorem lstT_one (W : World) (b : Nat) (t : Int) (h : b = W.heap.size) : LstT (W.alloc (.cells #[.int .i64 t] 3)) (some ⟨b, 0, none⟩) 1 (fun _ => t) := fun _ => ⟨_, _, rfl, by simp [h], fun k hk => by
    obtain rfl : k = 0 := by omega
    subst h
    rw [Nat.add_zero]
    go_simp⟩
end Go.Proofs.Ytjigcgpcglfjfaa
namespace Go.Proofs.Ytjigcgpcglfjfaa
open Go.ChangeShapes Go.WideShapes Go.RowKit
open Sh
attribute [local go_sem 1000000] run_min_mn run_max_mx
/-- a list of spans of the call's own, or none where there is an error -/
def SpR (W : World) (n : Nat) (e : Int) (l : List (Int × Int)) (v : Value) : Prop := if e = 0 then W.ownsRow 0 35 2 v n (svs l) else v = .slice none 0 0
theorem spR_below {W W' : World} {n : Nat} {e : Int} {l : List (Int × Int)} {v : Value} (h : SpR W n e l v) (hb : Below W.heap.size W W') : SpR W' n e l v := by
  unfold SpR at *
  by_cases z : e = 0
  · rw [if_pos z] at h ⊢
    exact own_below9 h hb
  · rw [if_neg z] at h ⊢
    exact h
def T2 (f t : Int) (k : Nat) : Int := if k = 0 then f else t
/-- the error of a trace ahead of its ticks -/
def trc0 (n : Nat) (Q : Nat → Pu) (x : P3) (s f t d : Int) : Int := mcode8 (vpcode n Q) x s d (tcode (T2 f t) 2)
def trcC (n : Nat) (Q : Nat → Pu) (x : P3) (s f t d : Int) : Int := if trc0 n Q x s f t d = 0 then (if rngB (t - f) 0 200 then 0 else 1) else trc0 n Q x s f t d
theorem trc0_ok {n : Nat} {Q : Nat → Pu} {x : P3} {s f t d : Int} (h : trc0 n Q x s f t d = 0) : (n ≤ 16 ∧ ∀ k, k < n → pucode (Q k) = 0) ∧ BdP 256 x ∧ (1 ≤ s ∧ s ≤ 16) ∧ (0 ≤ d ∧ d ≤ 3) ∧ (0 ≤ f ∧ f ≤ 2000) ∧ 0 ≤ t ∧ t ≤ 2000 := by
  obtain ⟨h1, h2, h3, h4, h5⟩ := mcode8_ok h
  refine ⟨vpk_ok h1, h2, h3, h4, ?_⟩
  have e : tcode (T2 f t) 2 = if (if (0 : Int) = 0 then (if rngB f 0 2000 then (0 : Int) else 1) else 1) = 0 then (if rngB t 0 2000 then (0 : Int) else 1) else 1 := rfl
  rw [e, if_pos rfl] at h5
  cases hf : rngB f 0 2000 with
  | false => rw [hf] at h5; simp at h5
  | true =>
    rw [hf] at h5
    cases ht : rngB t 0 2000 with
    | false => rw [ht] at h5; simp at h5
    | true => exact ⟨rngB_iff.1 hf, rngB_iff.1 ht⟩
theorem trcC_r (n : Nat) (Q : Nat → Pu) (x : P3) (s f t d : Int) : trcC n Q x s f t d = if vpcode n Q = 0 then (if acode8 x s f d = 0 then (if rngB t f (Sp.mn (f + 200) 2000) then 0 else 1) else acode8 x s f d) else vpcode n Q := by
  have e : tcode (T2 f t) 2 = if (if (0 : Int) = 0 then (if rngB f 0 2000 then (0 : Int) else 1) else 1) = 0 then (if rngB t 0 2000 then (0 : Int) else 1) else 1 := rfl
  unfold trcC trc0
  rw [e, if_pos rfl]
  unfold mcode8 acode8
  by_cases hv : vpcode n Q = 0
  · rw [if_pos hv, if_pos hv]
    cases inP 256 x <;> cases rngB s 1 16 <;> cases hf : rngB f 0 2000 <;> cases rngB d 0 3 <;> simp
    obtain ⟨f1, f2⟩ := rngB_iff.1 hf
    cases ht : rngB t 0 2000 with
    | true =>
      obtain ⟨t1, t2⟩ := rngB_iff.1 ht
      have : rngB (t - f) 0 200 = rngB t f (Sp.mn (f + 200) 2000) := by
        rw [Bool.eq_iff_iff, rngB_iff, rngB_iff, Sp.mn_eq]
        omega
      simp [this]
    | false =>
      have : rngB t f (Sp.mn (f + 200) 2000) = false := by
        rw [Bool.eq_false_iff]
        intro c
        have c := rngB_iff.1 c
        rw [Sp.mn_eq] at c
        have := rngB_iff.2 (show 0 ≤ t ∧ t ≤ 2000 by omega)
        rw [ht] at this
        cases this
      simp [this]
  · rw [if_neg hv, if_neg hv, if_neg hv]
end Go.Proofs.Ytjigcgpcglfjfaa
