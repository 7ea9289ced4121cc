/-
  CrossFewest: the bound, accepted, Compress, Fewest, the walk (one text of six).
-/
import Derived.Test.YtefmlcojbfiehaaCrV1
import Derived.Test.YtefmlcojbfiehaaCrOff0
import Derived.Deep.LoopGhost
import Derived.WalkMore
import Derived.Test.YtefmlcojbfiehaaCrR1
namespace Go.Proofs.Ytefmlcojbfiehaa
open Go.ChangeShapes Go.WideShapes Go.RowKit
open Cr
theorem abv_ratq {W d p q : Int} (hd : 0 < d) (hW : 0 ≤ W) : abvB (ratq W d) (p, q) = decide (p * d < W * q) := by
  have rc := ratq_cross (n := W) (d := d) (by omega)
  have r1 := (ratq_abs (n := W) (d := d) (by omega)).2.2
  have rb := ratq_bd (n := W) (d := d) hW (Int.le_refl _) hd (Int.le_refl _)
  have a1 : absI (ratq W d).1 = (ratq W d).1 := by have := rb.1; generalize (ratq W d).1 = z at *; unfold absI; rw [if_neg (by omega)]
  have a2 : absI d = d := by unfold absI; rw [if_neg (by omega)]
  have a3 : absI W = W := by unfold absI; rw [if_neg (by omega)]
  rw [a1, a2, a3] at rc
  clear rb a1 a2 a3
  unfold abvB
  generalize ratq W d = z at *
  obtain ⟨x, y⟩ := z
  simp only at rc r1 ⊢
  apply decide_eq_decide.2
  have hy : 0 < y := by omega
  constructor
  · intro h
    have h1 := Int.mul_lt_mul_of_pos_right h hd
    have e1 : p * y * d = p * d * y := by grind
    have e2 : x * q * d = W * q * y := by rw [show x * q * d = (x * d) * q by grind, rc]; grind
    rw [e1, e2] at h1
    exact Int.lt_of_mul_lt_mul_right h1 (by omega)
  · intro h
    have h1 := Int.mul_lt_mul_of_pos_right h hy
    have e1 : p * y * d = p * d * y := by grind
    have e2 : x * q * d = W * q * y := by rw [show x * q * d = (x * d) * q by grind, rc]; grind
    rw [← e1, ← e2] at h1
    exact Int.lt_of_mul_lt_mul_right h1 (by omega)
/-- is an element of the residual above the bound? -/
def abo (M : List (List Int)) (rows cols : List Int) (p q : Int) (i j : Nat) : Bool := abvB (ratq (absI (bord M rows cols i j)) (absI (detR M rows cols))) (p, q)
theorem abo_w {M : List (List Int)} {rows cols : List Int} {p q : Int} (dz : detR M rows cols ≠ 0) (hp : 0 ≤ p) (hq : 0 < q) :
    (∃ i j : Nat, i < M.length ∧ j < (rw_ M 0).length ∧ abo M rows cols p q i j = true) ↔ abvB (ratq (wst M rows cols) (absI (detR M rows cols))) (p, q) = true := by
  have dp : 0 < absI (detR M rows cols) := by unfold absI; split <;> omega
  have w0 : 0 ≤ wst M rows cols := wsr_nn _ _ _ _ _
  rw [abv_ratq dp w0, decide_eq_true_eq]
  constructor
  · rintro ⟨i, j, hi, hj, h⟩
    unfold abo at h
    rw [abv_ratq dp (absI_nn _), decide_eq_true_eq] at h
    have g : absI (bord M rows cols i j) ≤ wst M rows cols := wsr_ge M rows cols (rw_ M 0).length hj hi
    exact Int.lt_of_lt_of_le h (Int.mul_le_mul_of_nonneg_right g (by omega))
  · intro h
    rcases wsr_at M rows cols (rw_ M 0).length M.length with e | ⟨i, j, hi, hj, e⟩
    · have e : wst M rows cols = 0 := e
      rw [e, Int.zero_mul] at h
      have := Int.mul_nonneg hp (show 0 ≤ absI (detR M rows cols) by omega)
      omega
    · refine ⟨i, j, hi, hj, ?_⟩
      have e : wst M rows cols = absI (bord M rows cols i j) := e
      unfold abo
      rw [abv_ratq dp (absI_nn _), decide_eq_true_eq, ← e]
      exact h
def SZ (w : World) (A : Option Addr) (n c : Nat) (R : Option Addr) (K cr : Nat) (C : Option Addr) (K2 cc : Nat) (d : Int) (w1 : World) : Prop := w1.cell? ⟨w.heap.size, 0, none⟩ = some (.slice A n c) ∧ w1.cell? ⟨w.heap.size, 1, none⟩ = some (.slice R K cr) ∧ w1.cell? ⟨w.heap.size, 2, none⟩ = some (.slice C K2 cc) ∧ w1.cell? ⟨w.heap.size, 3, none⟩ = some (.int .i64 d) ∧ Below w.heap.size w w1 ∧ w.heap.size < w1.heap.size
theorem sz_s {w : World} {A : Option Addr} {n c : Nat} {R : Option Addr} {K cr : Nat} {C : Option Addr} {K2 cc : Nat} {d : Int} {w1 : World} (h : SZ w A n c R K cr C K2 cc d w1) : w1.cell? ⟨w.heap.size, 0, none⟩ = some (.slice A n c) ∧ w1.cell? ⟨w.heap.size, 1, none⟩ = some (.slice R K cr) ∧ w1.cell? ⟨w.heap.size, 2, none⟩ = some (.slice C K2 cc) ∧ w1.cell? ⟨w.heap.size, 3, none⟩ = some (.int .i64 d) ∧ Below w.heap.size w w1 ∧ w.heap.size < w1.heap.size := h
theorem sz_of {w : World} {A : Option Addr} {n c : Nat} {R : Option Addr} {K cr : Nat} {C : Option Addr} {K2 cc : Nat} {d : Int} {w1 : World} (h : w1.cell? ⟨w.heap.size, 0, none⟩ = some (.slice A n c) ∧ w1.cell? ⟨w.heap.size, 1, none⟩ = some (.slice R K cr) ∧ w1.cell? ⟨w.heap.size, 2, none⟩ = some (.slice C K2 cc) ∧ w1.cell? ⟨w.heap.size, 3, none⟩ = some (.int .i64 d) ∧ Below w.heap.size w w1 ∧ w.heap.size < w1.heap.size) : SZ w A n c R K cr C K2 cc d w1 := h
theorem sz_drew {w : World} {A : Option Addr} {n c : Nat} {R : Option Addr} {K cr : Nat} {C : Option Addr} {K2 cc : Nat} {d : Int} {w1 : World} (h : SZ w A n c R K cr C K2 cc d w1) : SZ w A n c R K cr C K2 cc d w1.drew := by
  obtain ⟨h0, h1, h2, h3, hB, b0⟩ := h
  exact ⟨h0, h1, h2, h3, Below.drew hB, b0⟩
theorem sz_drewN {w : World} {A : Option Addr} {n c : Nat} {R : Option Addr} {K cr : Nat} {C : Option Addr} {K2 cc : Nat} {d : Int} {w1 : World} (h : SZ w A n c R K cr C K2 cc d w1) (kk : Nat) : SZ w A n c R K cr C K2 cc d (w1.drewN kk) := by
  obtain ⟨h0, h1, h2, h3, hB, b0⟩ := h
  exact ⟨h0, h1, h2, h3, bdrewN hB kk, b0⟩
theorem sz_bel {w : World} {A : Option Addr} {n c : Nat} {R : Option Addr} {K cr : Nat} {C : Option Addr} {K2 cc : Nat} {d : Int} {w1 : World} (h : SZ w A n c R K cr C K2 cc d w1) : Below w.heap.size w w1 := by
  obtain ⟨h0, h1, h2, h3, hB, b0⟩ := h
  exact hB
theorem sz_below {w : World} {A : Option Addr} {n c : Nat} {R : Option Addr} {K cr : Nat} {C : Option Addr} {K2 cc : Nat} {d : Int} {w1 w2 : World} (h : SZ w A n c R K cr C K2 cc d w1) (hb : Below w1.heap.size w1 w2) : SZ w A n c R K cr C K2 cc d w2 := by
  obtain ⟨h0, h1, h2, h3, hB, b0⟩ := h
  exact ⟨(hb.cell (p := ⟨w.heap.size, 0, none⟩) b0).trans h0, (hb.cell (p := ⟨w.heap.size, 1, none⟩) b0).trans h1, (hb.cell (p := ⟨w.heap.size, 2, none⟩) b0).trans h2, (hb.cell (p := ⟨w.heap.size, 3, none⟩) b0).trans h3, bstep hB hb, Nat.lt_of_lt_of_le b0 hb.size⟩
theorem sz_ws {w : World} {A : Option Addr} {n c : Nat} {R : Option Addr} {K cr : Nat} {C : Option Addr} {K2 cc : Nat} {d : Int} {w1 : World} (h : WS w A n c R K cr C K2 cc d w1) : SZ w A n c R K cr C K2 cc d w1 := by
  obtain ⟨h0, h1, h2, h3, _, _, _, _, hB, b0, _⟩ := h
  exact ⟨h0, h1, h2, h3, hB, b0⟩
theorem sz_set {w : World} {A : Option Addr} {n c : Nat} {R : Option Addr} {K cr : Nat} {C : Option Addr} {K2 cc : Nat} {d : Int} {w1 : World} (h : SZ w A n c R K cr C K2 cc d w1) (o : Nat) (v : Value) : SZ w A n c R K cr C K2 cc d (w1.setCell ⟨w.heap.size + 1, o, none⟩ v) := by
  obtain ⟨h0, h1, h2, h3, hB, b0⟩ := h
  have ne : (⟨w.heap.size + 1, o, none⟩ : Addr).block ≠ w.heap.size := by show w.heap.size + 1 ≠ w.heap.size; omega
  refine ⟨?_, ?_, ?_, ?_, hB.setCell (by show w.heap.size ≤ w.heap.size + 1; omega) v, by simpa using b0⟩
  · rw [World.cell?_setCell_far _ _ _ _ ne]; exact h0
  · rw [World.cell?_setCell_far _ _ _ _ ne]; exact h1
  · rw [World.cell?_setCell_far _ _ _ _ ne]; exact h2
  · rw [World.cell?_setCell_far _ _ _ _ ne]; exact h3
set_option maxHeartbeats 4000000 in
theorem csz_any (A R C : Option Addr) (c cr cc : Nat) (M : List (List Int)) (rows cols : List Int) (i j : Nat) (w : World) (h : ChS w A M.length (rw_ M 0).length M R C rows.length rows cols) (dz : detR M rows cols ≠ 0) (hi : i < M.length) (hj : j < (rw_ M 0).length) :
    Calls Try.prog 97 #[chv A M.length c R rows.length cr C rows.length cc (detR M rows cols), .int .i64 (i : Int), .int .i64 (j : Int)] w fun e w' => e = .returned (rtv (ratq (absI (bord M rows cols i j)) (absI (detR M rows cols)))) ∧ Below w.heap.size w w' := by
  have D6 := detC6 h
  have B6 := bord6 h (i := (i : Int)) (j := (j : Int)) (by omega) (by omega)
  have HC := Lib.hid h.cho
  have Z0 := Lib.hid (ws5_new w A M.length c R rows.length cr C rows.length cc (detR M rows cols))
  have S0 := Lib.hid (sz_ws Z0.out)
  have BO := Lib.hid (fun W (B : Below w.heap.size w W) => bord_any A R C c cr cc M.length (rw_ M 0).length rows.length (detR M rows cols) M rows cols (i : Int) (j : Int) W (cho_in HC.out B) (by omega) (by omega))
  have A1 := Lib.hid (fun W => absC_any (bord M rows cols i j) W (by omega) (by omega))
  have A2 := Lib.hid (fun W => absC_any (detR M rows cols) W (by omega) (by omega))
  have ad : absI (detR M rows cols) ≠ 0 := by unfold absI; split <;> omega
  obtain ⟨a1, a2⟩ := absI_bd D6.1 D6.2.1
  obtain ⟨b1, b2⟩ := absI_bd B6.1 B6.2.1
  have QU := Lib.hid (fun W => quo_any (absI (bord M rows cols i j)) (absI (detR M rows cols)) W ad (by omega) (by omega) (by omega) (by omega))
  obtain ⟨rr, hrr⟩ : ∃ rr, ratq (absI (bord M rows cols i j)) (absI (detR M rows cols)) = rr := ⟨_, rfl⟩
  rw [hrr] at QU ⊢
  clear hrr h dz ad D6 B6 a1 a2 b1 b2 hi hj HC
  generalize bord M rows cols i j = x at *
  generalize detR M rows cols = dd at *
  generalize absI x = ax at *
  generalize absI dd = ay at *
  go_enter Try.func97, Try.ntmps97
  go_wp2_with fail
  generalize (w.alloc (chb A M.length c R rows.length cr C rows.length cc dd)).alloc (rtc (0, 0)) = W0 at *
  go_region_held3 (fun w' => w'.cell? ⟨w.heap.size, 0, none⟩ = some (.slice A M.length c) ∧ w'.cell? ⟨w.heap.size, 1, none⟩ = some (.slice R rows.length cr) ∧ w'.cell? ⟨w.heap.size, 2, none⟩ = some (.slice C rows.length cc) ∧ w'.cell? ⟨w.heap.size, 3, none⟩ = some (.int .i64 dd) ∧ Below w.heap.size w w' ∧ w.heap.size < w'.heap.size)
    (first | with_reducible exact sz_s (sz_drew S0.out) | with_reducible exact sz_s V1.out | with_reducible exact sz_s V2.out | with_reducible exact sz_s (sz_set (sz_set V2.out _ _) _ _) | with_reducible assumption | fail)
    (first
      | (go_at_call 67; (with_reducible refine (BO.out _ (sz_bel (sz_of (by assumption)))).mono ?_); rintro e w3 ⟨rfl, hb⟩; have V1 := Lib.hid (sz_below (sz_of (by assumption)) hb); have Z1 := Lib.hid (ws5_below (ws5_drew Z0.out) hb); clear hb)
      | (go_at_call 86; (first | with_reducible refine (A1.out _).mono ?_ | with_reducible refine (A2.out _).mono ?_); rintro e w2 ⟨rfl, rfl⟩)
      | (go_at_call 66; (with_reducible refine (QU.out _).mono ?_); rintro e w4 ⟨rfl, hb⟩; have V2 := Lib.hid (sz_below (sz_of (by assumption)) hb); have Z2 := Lib.hid (ws5_below Z1.out hb); obtain ⟨_, _, _, _, r0, r1, r2, r3, _, l0, l1⟩ := ws5_s Z2.out; clear hb)
      | fail)
  all_goals
    go_wp2_with fail
    refine bodyPost_ret (v := rtv rr) (by rw [results_cellF rfl]; go_simp) rfl ⟨rfl, ?_⟩
    have hB := ws5_bel Z2.out
    (repeat' (first | exact Below.refl _ _ | refine bstep ?_ hB | refine Below.setCell ?_ (by simp <;> omega) _ | refine balloc ?_ _ | refine Below.drew ?_ | refine bdrewN ?_ _))

end Go.Proofs.Ytefmlcojbfiehaa
namespace Go.Proofs.Ytefmlcojbfiehaa
open Go.ChangeShapes Go.WideShapes Go.RowKit
open Cr
def rqv (M : List (List Int)) (r c : List Int) (x y : Nat) : Int × Int := ratq (absI (bord M r c x y)) (absI (detR M r c))
/-- a choice keeps the bound -/
def okc (M : List (List Int)) (p q : Int) (r c : List Int) : Prop := detR M r c ≠ 0 ∧ ∀ i, i < M.length → ∀ j, j < (rw_ M 0).length → abo M r c p q i j = false
theorem kc_sets {M : List (List Int)} {K : Nat} (hv : vcode M = 0) (n6 : M.length ≤ 6) (m6 : (rw_ M 0).length ≤ 6) {r c : List Int} (hr : r ∈ setsN M.length K) (hc : c ∈ setsN (rw_ M 0).length K) : kcode M r c = 0 := by
  obtain ⟨l1, s1⟩ := sets_mem n6 hr
  obtain ⟨l2, s2⟩ := sets_mem m6 hc
  exact kcode_good hv (by unfold chB; rw [s1, s2]; simp [l1, l2])
def AC (w : World) (g h : Nat) (A : Option Addr) (n c : Nat) (R : Option Addr) (K cr : Nat) (C : Option Addr) (K2 cc : Nat) (d p q : Int) (w1 : World) : Prop := w1.cell? ⟨g, 0, none⟩ = some (.slice A n c) ∧ w1.cell? ⟨g, 1, none⟩ = some (.slice R K cr) ∧ w1.cell? ⟨g, 2, none⟩ = some (.slice C K2 cc) ∧ w1.cell? ⟨g, 3, none⟩ = some (.int .i64 d) ∧ w1.cell? ⟨h, 0, none⟩ = some (.int .i64 p) ∧ w1.cell? ⟨h, 1, none⟩ = some (.int .i64 q) ∧ Below w.heap.size w w1 ∧ g < w1.heap.size ∧ h < w1.heap.size
theorem ac_s {w : World} {g h : Nat} {A : Option Addr} {n c : Nat} {R : Option Addr} {K cr : Nat} {C : Option Addr} {K2 cc : Nat} {d p q : Int} {w1 : World} (hx : AC w g h A n c R K cr C K2 cc d p q w1) : w1.cell? ⟨g, 0, none⟩ = some (.slice A n c) ∧ w1.cell? ⟨g, 1, none⟩ = some (.slice R K cr) ∧ w1.cell? ⟨g, 2, none⟩ = some (.slice C K2 cc) ∧ w1.cell? ⟨g, 3, none⟩ = some (.int .i64 d) ∧ w1.cell? ⟨h, 0, none⟩ = some (.int .i64 p) ∧ w1.cell? ⟨h, 1, none⟩ = some (.int .i64 q) ∧ Below w.heap.size w w1 ∧ g < w1.heap.size ∧ h < w1.heap.size := hx
theorem ac_of {w : World} {g h : Nat} {A : Option Addr} {n c : Nat} {R : Option Addr} {K cr : Nat} {C : Option Addr} {K2 cc : Nat} {d p q : Int} {w1 : World} (hx : w1.cell? ⟨g, 0, none⟩ = some (.slice A n c) ∧ w1.cell? ⟨g, 1, none⟩ = some (.slice R K cr) ∧ w1.cell? ⟨g, 2, none⟩ = some (.slice C K2 cc) ∧ w1.cell? ⟨g, 3, none⟩ = some (.int .i64 d) ∧ w1.cell? ⟨h, 0, none⟩ = some (.int .i64 p) ∧ w1.cell? ⟨h, 1, none⟩ = some (.int .i64 q) ∧ Below w.heap.size w w1 ∧ g < w1.heap.size ∧ h < w1.heap.size) : AC w g h A n c R K cr C K2 cc d p q w1 := hx
theorem ac_drew {w : World} {g h : Nat} {A : Option Addr} {n c : Nat} {R : Option Addr} {K cr : Nat} {C : Option Addr} {K2 cc : Nat} {d p q : Int} {w1 : World} (hx : AC w g h A n c R K cr C K2 cc d p q w1) : AC w g h A n c R K cr C K2 cc d p q w1.drew := by
  obtain ⟨h0, h1, h2, h3, h4, h5, hB, b0, b1⟩ := hx
  exact ⟨h0, h1, h2, h3, h4, h5, Below.drew hB, b0, b1⟩
theorem ac_drewN {w : World} {g h : Nat} {A : Option Addr} {n c : Nat} {R : Option Addr} {K cr : Nat} {C : Option Addr} {K2 cc : Nat} {d p q : Int} {w1 : World} (hx : AC w g h A n c R K cr C K2 cc d p q w1) (kk : Nat) : AC w g h A n c R K cr C K2 cc d p q (w1.drewN kk) := by
  obtain ⟨h0, h1, h2, h3, h4, h5, hB, b0, b1⟩ := hx
  exact ⟨h0, h1, h2, h3, h4, h5, bdrewN hB kk, b0, b1⟩
theorem ac_bel {w : World} {g h : Nat} {A : Option Addr} {n c : Nat} {R : Option Addr} {K cr : Nat} {C : Option Addr} {K2 cc : Nat} {d p q : Int} {w1 : World} (hx : AC w g h A n c R K cr C K2 cc d p q w1) : Below w.heap.size w w1 := by
  obtain ⟨h0, h1, h2, h3, h4, h5, hB, b0, b1⟩ := hx
  exact hB
theorem ac_below {w : World} {g h : Nat} {A : Option Addr} {n c : Nat} {R : Option Addr} {K cr : Nat} {C : Option Addr} {K2 cc : Nat} {d p q : Int} {w1 w2 : World} (hx : AC w g h A n c R K cr C K2 cc d p q w1) (hb : Below w1.heap.size w1 w2) : AC w g h A n c R K cr C K2 cc d p q w2 := by
  obtain ⟨h0, h1, h2, h3, h4, h5, hB, b0, b1⟩ := hx
  exact ⟨(hb.cell (p := ⟨g, 0, none⟩) b0).trans h0, (hb.cell (p := ⟨g, 1, none⟩) b0).trans h1, (hb.cell (p := ⟨g, 2, none⟩) b0).trans h2, (hb.cell (p := ⟨g, 3, none⟩) b0).trans h3, (hb.cell (p := ⟨h, 0, none⟩) b1).trans h4, (hb.cell (p := ⟨h, 1, none⟩) b1).trans h5, bstep hB hb, Nat.lt_of_lt_of_le b0 hb.size, Nat.lt_of_lt_of_le b1 hb.size⟩
theorem ac_new {w w5 : World} {h : Nat} {A : Option Addr} {n c : Nat} {R : Option Addr} {K cr : Nat} {C : Option Addr} {K2 cc : Nat} {d p q : Int} (h0 : w5.cell? ⟨h, 0, none⟩ = some (.int .i64 p)) (h1 : w5.cell? ⟨h, 1, none⟩ = some (.int .i64 q)) (hl : h < w5.heap.size) (hB : Below w.heap.size w w5) :
    AC w w5.heap.size h A n c R K cr C K2 cc d p q (w5.alloc (chb A n c R K cr C K2 cc d)) :=
  ⟨by go_simp, by go_simp, by go_simp, by go_simp, (World.cell?_alloc_lt _ _ _ hl).trans h0, (World.cell?_alloc_lt _ _ _ hl).trans h1, balloc hB _, by simp, by simp; omega⟩
theorem abo_bd {w : World} {A R C : Option Addr} {M : List (List Int)} {rows cols : List Int} (h : ChS w A M.length (rw_ M 0).length M R C rows.length rows cols) (dz : detR M rows cols ≠ 0) {p q : Int} (p0 : 0 ≤ p) (p1 : p ≤ 1000000) (q0 : 1 ≤ q) (q1 : q ≤ 1000) {i j : Nat} (hi : i < M.length) (hj : j < (rw_ M 0).length) :
    0 ≤ (ratq (absI (bord M rows cols i j)) (absI (detR M rows cols))).1 * q ∧ (ratq (absI (bord M rows cols i j)) (absI (detR M rows cols))).1 * q ≤ 9000000000000000000 ∧ 0 ≤ p * (ratq (absI (bord M rows cols i j)) (absI (detR M rows cols))).2 ∧ p * (ratq (absI (bord M rows cols i j)) (absI (detR M rows cols))).2 ≤ 9000000000000000000 := by
  have D6 := detC6 h
  have B6 := bord6 h (i := (i : Int)) (j := (j : Int)) (by omega) (by omega)
  have dp : 0 < absI (detR M rows cols) := by unfold absI; split <;> omega
  obtain ⟨b1, b2⟩ := absI_bd B6.1 B6.2.1
  by_cases z : bord M rows cols i j = 0
  · rw [z, show absI 0 = 0 from rfl, ratq_zero dp]
    simp only
    omega
  · have k5 := B6.2.2 z
    obtain ⟨d1, d2⟩ := absI_bd (D6.2.2 k5).1 (D6.2.2 k5).2
    have rb := ratq_bd (n := absI (bord M rows cols i j)) (d := absI (detR M rows cols)) b1 b2 dp d2
    have e1 := prod_bd rb.1 rb.2.1 (show 0 ≤ q by omega) q1
    have e2 := prod_bd p0 p1 rb.2.2.1 rb.2.2.2
    omega
theorem csz_k {A R C : Option Addr} {c cr cc K : Nat} {M : List (List Int)} {rows cols : List Int} {i j : Nat} {w : World} (h : ChS w A M.length (rw_ M 0).length M R C rows.length rows cols) (hK : rows.length = K) (dz : detR M rows cols ≠ 0) (hi : i < M.length) (hj : j < (rw_ M 0).length) :
    Calls Try.prog 97 #[chv A M.length c R K cr C K cc (detR M rows cols), .int .i64 (i : Int), .int .i64 (j : Int)] w fun e w' => e = .returned (rtv (rqv M rows cols i j)) ∧ Below w.heap.size w w' := by
  subst hK
  unfold rqv
  exact csz_any A R C c cr cc M rows cols i j w h dz hi hj
theorem avj_any {M : List (List Int)} {r c : List Int} {p q : Int} {x y : Nat} (bd : 0 ≤ (ratq (absI (bord M r c x y)) (absI (detR M r c))).1 * q ∧ (ratq (absI (bord M r c x y)) (absI (detR M r c))).1 * q ≤ 9000000000000000000 ∧ 0 ≤ p * (ratq (absI (bord M r c x y)) (absI (detR M r c))).2 ∧ p * (ratq (absI (bord M r c x y)) (absI (detR M r c))).2 ≤ 9000000000000000000) (w : World) :
    Calls Try.prog 76 #[rtv (rqv M r c x y), rtv (p, q)] w fun e w' => e = .returned (.bool (abo M r c p q x y)) ∧ Below w.heap.size w w' := by
  unfold rqv abo
  generalize ratq (absI (bord M r c x y)) (absI (detR M r c)) = z at *
  obtain ⟨b1, b2, b3, b4⟩ := bd
  have n : (-9000000000000000000 : Int) ≤ 0 := by decide
  exact above_any z (p, q) w (Int.le_trans n b1) b2 (Int.le_trans n b3) b4
set_option maxRecDepth 100000 in
set_option maxHeartbeats 8000000 in
theorem accepted_any (A : Option Addr) (c K : Nat) (M : List (List Int)) (p q : Int) (w : World) (hM : ML w A M) (hv : vcode M = 0) (p0 : 0 ≤ p) (p1 : p ≤ 1000000) (q0 : 1 ≤ q) (q1 : q ≤ 1000) (k6 : K ≤ 6) :
    Calls Try.prog 79 #[.slice A M.length c, .int .i64 (K : Int), rtv (p, q)] w fun e w' => Below w.heap.size w w' ∧ ((e = .returned (.tuple #[.slice none 0 0, .slice none 0 0, .bool false]) ∧ ∀ i, i < (setsN M.length K).length → ∀ j, j < (setsN (rw_ M 0).length K).length → ¬ okc M p q (rw_ (setsN M.length K) i) (rw_ (setsN (rw_ M 0).length K) j)) ∨
      ∃ R cr E ce i j, e = .returned (.tuple #[.slice R K cr, .slice E K ce, .bool true]) ∧ i < (setsN M.length K).length ∧ j < (setsN (rw_ M 0).length K).length ∧ K ≤ cr ∧ K ≤ ce ∧ IL w' R (rw_ (setsN M.length K) i) ∧ IL w' E (rw_ (setsN (rw_ M 0).length K) j) ∧ okc M p q (rw_ (setsN M.length K) i) (rw_ (setsN (rw_ M 0).length K) j)) := by
  obtain ⟨n, m, s, n1, n6, m1, m6⟩ := sq_of hv
  obtain rfl : M.length = n := s.len
  obtain rfl : (rw_ M 0).length = m := rw_len s (by omega)
  have S1 := Lib.hid (fun W => sets_any M.length K W n6 k6)
  have S2 := Lib.hid (fun W => sets_any (rw_ M 0).length K W m6 k6)
  have LR := Lib.hid (fun i (hi : i < (setsN M.length K).length) => (sets_under n6 hi).2)
  have LC := Lib.hid (fun j (hj : j < (setsN (rw_ M 0).length K).length) => (sets_under m6 hj).2)
  have AG := Lib.hid (fun W (B : Below w.heap.size w W) i j R E (hi : i < (setsN M.length K).length) (hj : j < (setsN (rw_ M 0).length K).length) (i1 : IL W R (rw_ (setsN M.length K) i)) (i2 : IL W E (rw_ (setsN (rw_ M 0).length K) j)) =>
    (show Arg W A M R E (rw_ (setsN M.length K) i) (rw_ (setsN (rw_ M 0).length K) j) from ⟨ml_in hM B, by omega, fun x hx => by rw [rw_len s hx]; omega, i1, i2, by rw [(sets_under n6 hi).2]; omega, by rw [(sets_under m6 hj).2]; omega⟩))
  have KC := Lib.hid (fun i j (hi : i < (setsN M.length K).length) (hj : j < (setsN (rw_ M 0).length K).length) => kc_sets hv n6 m6 (rw_mem6 hi) (rw_mem6 hj))
  have CO := Lib.hid (fun W (B : Below w.heap.size w W) i j R E cr ce (hi : i < (setsN M.length K).length) (hj : j < (setsN (rw_ M 0).length K).length) (i1 : IL W R (rw_ (setsN M.length K) i)) (i2 : IL W E (rw_ (setsN (rw_ M 0).length K) j)) dz =>
    choose_ok A R E c cr ce M _ _ W (AG.out W B i j R E hi hj i1 i2) (KC.out i j hi hj) dz)
  have CZ := Lib.hid (fun W (B : Below w.heap.size w W) i j R E cr ce (hi : i < (setsN M.length K).length) (hj : j < (setsN (rw_ M 0).length K).length) (i1 : IL W R (rw_ (setsN M.length K) i)) (i2 : IL W E (rw_ (setsN (rw_ M 0).length K) j)) dz =>
    choose_zero A R E c cr ce M _ _ W (AG.out W B i j R E hi hj i1 i2) (KC.out i j hi hj) dz)
  have X1 := sets_max M.length (by omega) K (by omega)
  have X2 := sets_max (rw_ M 0).length (by omega) K (by omega)
  have RL := Lib.hid (fun i (hi : i < M.length) => (rw_len s hi : (rw_ M i).length = (rw_ M 0).length))
  have H := Lib.hid hM
  have B0 := Lib.hid (bx_new w p q)
  obtain ⟨b0, o0, A0, c0, rfl, hb0, hc0, _, _⟩ := hM 0 (by omega)
  have hc0 : w.cell? ⟨b0, o0, none⟩ = some (.slice A0 (rw_ M 0).length c0) := hc0
  have HC0 := Lib.hid hc0
  have HB0 := Lib.hid hb0
  have nn : (M.length : Int) ≤ 6 := by omega
  have mm : ((rw_ M 0).length : Int) ≤ 6 := by omega
  have n0 : (0 : Int) < (M.length : Int) := by omega
  have n01 : 1 ≤ (M.length : Int) := by omega
  have kk : (K : Int) ≤ 6 := by omega
  have kk0 : 0 ≤ (K : Int) := by omega
  clear hM hv s n1 n6 m1 m6 hc0 hb0
  go_enter Try.func79, Try.ntmps79
  go_wp2_with fail
  with_reducible refine (S1.out _).mono ?_
  rintro e w2 ⟨A2, c2, rfl, hL, hb⟩
  have HL := Lib.hid hL
  have BX2 := Lib.hid (bx_below B0.out hb)
  clear hL hb
  go_wp2_with fail
  go_loopg [23] (setsN M.length K).length (fun g kv wr => ∃ i : Nat, i + g = (setsN M.length K).length ∧ kv = .int .i64 (i : Int) ∧ Below w2.heap.size w2 wr ∧ ∀ i', i' < i → ∀ j, j < (setsN (rw_ M 0).length K).length → ¬ okc M p q (rw_ (setsN M.length K) i') (rw_ (setsN (rw_ M 0).length K) j))
  case atStart => exact ⟨0, Nat.zero_add _, rfl, Below.refl _ _, fun _ h => absurd h (Nat.not_lt_zero _)⟩
  case round =>
    rename World => wo
    rename Nat => gi
    obtain ⟨i, hi, rfl, B, hno⟩ := hrel
    have NO := Lib.hid hno
    have HBO := Lib.hid B
    have BXO := Lib.hid (bx_below BX2.out B)
    have HBW := Lib.hid (bx_bel BXO.out)
    by_cases hlt : i < (setsN M.length K).length
    · have hk1 : (i : Int) < ((setsN M.length K).length : Int) := by omega
      have hk0 : 0 ≤ (i : Int) := by omega
      have X1' : ((setsN M.length K).length : Int) ≤ 64 := by omega
      obtain ⟨b1, o1, R, cr, rfl, hb1, hc1, hl1, hr1⟩ := HL.out i hlt
      rw [LR.out i hlt] at hc1 hl1
      have hca := (B.cell (p := ⟨b1, o1 + i, none⟩) hb1).trans hc1
      have hcb := (HBW.out.cell (p := ⟨b0, o0, none⟩) HB0.out).trans HC0.out
      have IR := Lib.hid (il_in hr1 B)
      have HL1 := Lib.hid hl1
      clear hno B hb1 hc1 hl1 hr1
      go_wp2_with fail
      go_step3
      go_wp2_with fail
      go_step3
      go_wp2_with fail
      with_reducible refine (S2.out _).mono ?_
      rintro e w3 ⟨A3, c3, rfl, hL, hb⟩
      have HL3 := Lib.hid hL
      have BX3 := Lib.hid (bx_below BXO.out hb)
      have IR3 := Lib.hid (il_in IR.out hb)
      have B23 := Lib.hid (bstep HBO.out hb)
      clear hL hb hca hcb IR HBO BXO HBW
      go_wp2_with fail
      go_loopg [34] (setsN (rw_ M 0).length K).length (fun g kv wi => ∃ j : Nat, j + g = (setsN (rw_ M 0).length K).length ∧ kv = .int .i64 (j : Int) ∧ Below w3.heap.size w3 wi ∧ ∀ j', j' < j → ¬ okc M p q (rw_ (setsN M.length K) i) (rw_ (setsN (rw_ M 0).length K) j'))
      case atStart => exact ⟨0, Nat.zero_add _, rfl, Below.refl _ _, fun _ h => absurd h (Nat.not_lt_zero _)⟩
      case round =>
        rename World => wi
        rename Nat => gj
        obtain ⟨j, hj, rfl, B, hnj⟩ := hrel
        have NJ := Lib.hid hnj
        have BI := Lib.hid B
        have BXI := Lib.hid (bx_below BX3.out B)
        have B2I := Lib.hid (bstep B23.out B)
        by_cases hltj : j < (setsN (rw_ M 0).length K).length
        · have hj1 : (j : Int) < ((setsN (rw_ M 0).length K).length : Int) := by omega
          have hj0 : 0 ≤ (j : Int) := by omega
          have X2' : ((setsN (rw_ M 0).length K).length : Int) ≤ 64 := by omega
          obtain ⟨b3, o3, E, ce, rfl, hb3, hc3, hl3, hr3⟩ := HL3.out j hltj
          rw [LC.out j hltj] at hc3 hl3
          have hcc := (B.cell (p := ⟨b3, o3 + j, none⟩) hb3).trans hc3
          have IRi := Lib.hid (il_in IR3.out B)
          have IEi := Lib.hid (il_in hr3 B)
          have HL3' := Lib.hid hl3
          have NJ1 := Lib.hid (fun (h : ¬ okc M p q (rw_ (setsN M.length K) i) (rw_ (setsN (rw_ M 0).length K) j)) j' (hj' : j' < j + 1) => (show ¬ okc M p q (rw_ (setsN M.length K) i) (rw_ (setsN (rw_ M 0).length K) j') from if e : j' = j then e ▸ h else NJ.out j' (by omega)))
          by_cases dz : detR M (rw_ (setsN M.length K) i) (rw_ (setsN (rw_ M 0).length K) j) = 0
          · have CZj := Lib.hid (CZ.out wi (bx_bel BXI.out) i j R E cr ce hlt hltj IRi.out IEi.out dz)
            rw [LR.out i hlt, LC.out j hltj] at CZj
            have ND := Lib.hid (NJ1.out (fun h => h.1 dz))
            clear hnj B hb3 hc3 hl3 hr3 dz
            go_wp2_with fail
            with_reducible refine (CZj.out).mono ?_
            rintro e w5 ⟨rfl, hb⟩
            have BI5 := Lib.hid (balloc (bstep BI.out hb) (chb none 0 0 none 0 0 none 0 0 0))
            clear hb
            obtain ⟨g, rfl⟩ : ∃ g, gj = g + 1 := ⟨gj - 1, by omega⟩
            go_wp2_with fail
            go_roundg g
            case rel => exact ⟨j + 1, by omega, by go_num, BI5.out, ND.out⟩
            case measure => omega
          · have COj := Lib.hid (CO.out wi (bx_bel BXI.out) i j R E cr ce hlt hltj IRi.out IEi.out dz)
            rw [LR.out i hlt, LC.out j hltj] at COj
            have CSj := Lib.hid (fun W (B : Below wi.heap.size wi W) x y (hx : x < M.length) (hy : y < (rw_ M 0).length) =>
              csz_k (c := c) (cr := cr) (cc := ce) (chs_of (AG.out W (bstep (bx_bel BXI.out) B) i j R E hlt hltj (il_in IRi.out B) (il_in IEi.out B)) (KC.out i j hlt hltj)) (LR.out i hlt) dz hx hy)
            have AVj := Lib.hid (fun W (x y : Nat) (hx : x < M.length) (hy : y < (rw_ M 0).length) => (show Calls Try.prog 76 #[rtv (rqv M (rw_ (setsN M.length K) i) (rw_ (setsN (rw_ M 0).length K) j) x y), rtv (p, q)] W fun e w' => e = .returned (.bool (abo M (rw_ (setsN M.length K) i) (rw_ (setsN (rw_ M 0).length K) j) p q x y)) ∧ Below W.heap.size W w' from by
              exact avj_any (abo_bd (chs_of (AG.out wi (bx_bel BXI.out) i j R E hlt hltj IRi.out IEi.out) (KC.out i j hlt hltj)) dz p0 p1 q0 q1 hx hy) W))
            have OKI := Lib.hid (fun (h : ∀ x, x < M.length → ∀ y, y < (rw_ M 0).length → abo M (rw_ (setsN M.length K) i) (rw_ (setsN (rw_ M 0).length K) j) p q x y = false) => (show okc M p q (rw_ (setsN M.length K) i) (rw_ (setsN (rw_ M 0).length K) j) from ⟨dz, h⟩))
            have NOK := Lib.hid (fun x y (hx : x < M.length) (hy : y < (rw_ M 0).length) (h : abo M (rw_ (setsN M.length K) i) (rw_ (setsN (rw_ M 0).length K) j) p q x y = true) => NJ1.out (fun (k : okc M p q (rw_ (setsN M.length K) i) (rw_ (setsN (rw_ M 0).length K) j)) => by have := k.2 x hx y hy; rw [h] at this; cases this))
            clear hnj B hb3 hc3 hl3 hr3 dz
            generalize detR M (rw_ (setsN M.length K) i) (rw_ (setsN (rw_ M 0).length K) j) = dd at *
            generalize rqv M (rw_ (setsN M.length K) i) (rw_ (setsN (rw_ M 0).length K) j) = rq at *
            generalize abo M (rw_ (setsN M.length K) i) (rw_ (setsN (rw_ M 0).length K) j) p q = ab at *
            go_wp2_with fail
            with_reducible refine (COj.out).mono ?_
            rintro e w5 ⟨rfl, hb⟩
            have BI5 := Lib.hid hb
            have BX5 := Lib.hid (bx_below BXI.out hb)
            have AC0 := Lib.hid (by
              obtain ⟨z0, z1, _, z2⟩ := bx_s BX5.out
              exact ac_new (w := wi) (A := some ⟨b0, o0, none⟩) (n := M.length) (c := c) (R := R) (K := K) (cr := cr) (C := E) (K2 := K) (cc := ce) (d := dd) z0 z1 z2 hb)
            clear hb
            go_wp2_with fail
            go_loopg [49] M.length (fun g kv wr => ∃ x : Nat, x + g = M.length ∧ kv = .int .i64 (x : Int) ∧ AC wi w5.heap.size w.heap.size (some ⟨b0, o0, none⟩) M.length c R K cr E K ce dd p q wr ∧ ∀ x', x' < x → ∀ y, y < (rw_ M 0).length → ab x' y = false)
            case atStart => exact ⟨0, Nat.zero_add _, rfl, AC0.out, fun _ h => absurd h (Nat.not_lt_zero _)⟩
            case round =>
              rename World => wx
              rename Nat => gx
              clear AC0
              obtain ⟨x, hx, rfl, hA, hno⟩ := hrel
              have HA := Lib.hid hA
              have NX := Lib.hid hno
              by_cases hxl : x < M.length
              · have hx1 : (x : Int) < (M.length : Int) := by omega
                have hx0 : 0 ≤ (x : Int) := by omega
                obtain ⟨b', o', Rx, cx, he, hbx, hcx, _, _⟩ := H.out x hxl
                simp only [Option.some.injEq, Addr.mk.injEq, and_true] at he
                obtain ⟨rfl, rfl⟩ := he
                rw [RL.out x hxl] at hcx
                have hcax := ((bstep (bx_bel BXI.out) (ac_bel hA)).cell (p := ⟨b0, o0 + x, none⟩) hbx).trans hcx
                clear hA hno hbx hcx
                go_wp2_with fail
                clear hcax
                go_loopg [56] (rw_ M 0).length (fun g kv wr => ∃ y : Nat, y + g = (rw_ M 0).length ∧ kv = .int .i64 (y : Int) ∧ AC wi w5.heap.size w.heap.size (some ⟨b0, o0, none⟩) M.length c R K cr E K ce dd p q wr ∧ ∀ y', y' < y → ab x y' = false)
                case atStart => exact ⟨0, Nat.zero_add _, rfl, HA.out, fun _ h => absurd h (Nat.not_lt_zero _)⟩
                case round =>
                  rename Nat => gy
                  clear HA
                  obtain ⟨y, hy, rfl, hA, hno⟩ := hrel
                  have HA := Lib.hid hA
                  have NY := Lib.hid hno
                  clear hA hno
                  by_cases hyl : y < (rw_ M 0).length
                  · have hy1 : (y : Int) < ((rw_ M 0).length : Int) := by omega
                    have hy0 : 0 ≤ (y : Int) := by omega
                    have CSk := Lib.hid (fun W B => CSj.out W B x y hxl hyl)
                    have AVk := Lib.hid (fun W => AVj.out W x y hxl hyl)
                    go_wp2_with fail
                    cases hab : ab x y with
                    | false =>
                      rw [hab] at AVk
                      have NY1 := Lib.hid (fun y' (hy' : y' < y + 1) => (show ab x y' = false from if e : y' = y then e ▸ hab else NY.out y' (by omega)))
                      clear hab
                      go_region_held3 (fun w' => w'.cell? ⟨w5.heap.size, 0, none⟩ = some (.slice (some ⟨b0, o0, none⟩) M.length c) ∧ w'.cell? ⟨w5.heap.size, 1, none⟩ = some (.slice R K cr) ∧ w'.cell? ⟨w5.heap.size, 2, none⟩ = some (.slice E K ce) ∧ w'.cell? ⟨w5.heap.size, 3, none⟩ = some (.int .i64 dd) ∧ w'.cell? ⟨w.heap.size, 0, none⟩ = some (.int .i64 p) ∧ w'.cell? ⟨w.heap.size, 1, none⟩ = some (.int .i64 q) ∧ Below wi.heap.size wi w' ∧ w5.heap.size < w'.heap.size ∧ w.heap.size < w'.heap.size)
                        (first | with_reducible exact ac_s (ac_drew HA.out) | with_reducible exact ac_s V1.out | with_reducible exact ac_s V2.out | with_reducible assumption | fail)
                        (first
                          | (go_at_call 97; (with_reducible refine (CSk.out _ (ac_bel (ac_of (by assumption)))).mono ?_); rintro e w6 ⟨rfl, hb⟩; have V1 := Lib.hid (ac_below (ac_of (by assumption)) hb); clear hb)
                          | (go_at_call 76; (with_reducible refine (AVk.out _).mono ?_); rintro e w7 ⟨rfl, hb⟩; have V2 := Lib.hid (ac_below (ac_of (by assumption)) hb); clear hb)
                          | fail)
                      all_goals
                        obtain ⟨g, rfl⟩ : ∃ g, gy = g + 1 := ⟨gy - 1, by omega⟩
                        go_wp2_with fail
                        go_roundg g
                        case rel => exact ⟨y + 1, by omega, by go_num, (by first | exact V2.out | exact V1.out), NY1.out⟩
                        case measure => omega
                    | true =>
                      rw [hab] at AVk
                      have ND := Lib.hid (NOK.out x y hxl hyl hab)
                      clear hab
                      go_region_held3 (fun w' => w'.cell? ⟨w5.heap.size, 0, none⟩ = some (.slice (some ⟨b0, o0, none⟩) M.length c) ∧ w'.cell? ⟨w5.heap.size, 1, none⟩ = some (.slice R K cr) ∧ w'.cell? ⟨w5.heap.size, 2, none⟩ = some (.slice E K ce) ∧ w'.cell? ⟨w5.heap.size, 3, none⟩ = some (.int .i64 dd) ∧ w'.cell? ⟨w.heap.size, 0, none⟩ = some (.int .i64 p) ∧ w'.cell? ⟨w.heap.size, 1, none⟩ = some (.int .i64 q) ∧ Below wi.heap.size wi w' ∧ w5.heap.size < w'.heap.size ∧ w.heap.size < w'.heap.size)
                        (first | with_reducible exact ac_s (ac_drew HA.out) | with_reducible exact ac_s V1.out | with_reducible exact ac_s V2.out | with_reducible assumption | fail)
                        (first
                          | (go_at_call 97; (with_reducible refine (CSk.out _ (ac_bel (ac_of (by assumption)))).mono ?_); rintro e w6 ⟨rfl, hb⟩; have V1 := Lib.hid (ac_below (ac_of (by assumption)) hb); clear hb)
                          | (go_at_call 76; (with_reducible refine (AVk.out _).mono ?_); rintro e w7 ⟨rfl, hb⟩; have V2 := Lib.hid (ac_below (ac_of (by assumption)) hb); clear hb)
                          | fail)
                      all_goals
                        obtain ⟨g, rfl⟩ : ∃ g, gj = g + 1 := ⟨gj - 1, by omega⟩
                        have B9 := Lib.hid (bstep BI.out (by first | exact ac_bel V2.out | exact ac_bel V1.out))
                        go_wp2_with fail
                        go_roundg g
                        case rel => exact ⟨j + 1, by omega, by go_num, B9.out, ND.out⟩
                        case measure => omega
                  · obtain rfl : y = (rw_ M 0).length := by omega
                    have NX1 := Lib.hid (fun x' (hx' : x' < x + 1) => (show ∀ y, y < (rw_ M 0).length → ab x' y = false from if e : x' = x then e ▸ NY.out else NX.out x' (by omega)))
                    obtain ⟨g, rfl⟩ : ∃ g, gx = g + 1 := ⟨gx - 1, by omega⟩
                    go_wp2_with fail
                    go_roundg g
                    case rel => exact ⟨x + 1, by omega, by go_num, HA.out, NX1.out⟩
                    case measure => omega
              · obtain rfl : x = M.length := by omega
                have BF := ac_bel hA
                have OK := OKI.out NX.out
                clear hA hno
                go_wp2_with fail
                try rw [Exit.noGoto_ret]
                go_ret3
                exact ⟨bstep (bx_bel BXI.out) BF, .inr ⟨R, cr, E, ce, i, j, rfl, hlt, hltj, HL1.out, HL3'.out, il_in IRi.out BF, il_in IEi.out BF, OK⟩⟩
        · obtain rfl : j = (setsN (rw_ M 0).length K).length := by omega
          have NI := Lib.hid (fun i' (hi' : i' < i + 1) => (show ∀ j, j < (setsN (rw_ M 0).length K).length → ¬ okc M p q (rw_ (setsN M.length K) i') (rw_ (setsN (rw_ M 0).length K) j) from if e : i' = i then e ▸ NJ.out else NO.out i' (by omega)))
          clear hnj B
          obtain ⟨g, rfl⟩ : ∃ g, gi = g + 1 := ⟨gi - 1, by omega⟩
          go_wp2_with fail
          rw [Exit.noGoto_normal]
          go_wp2_with fail
          go_roundg g
          case rel => exact ⟨i + 1, by omega, by go_num, B2I.out, NI.out⟩
          case measure => omega
    · obtain rfl : i = (setsN M.length K).length := by omega
      go_wp2_with fail
      go_ret3
      exact ⟨bx_bel BXO.out, .inl ⟨rfl, hno⟩⟩

end Go.Proofs.Ytefmlcojbfiehaa
namespace Go.Proofs.Ytefmlcojbfiehaa
open Go.ChangeShapes Go.WideShapes Go.RowKit
open Cr
theorem allG_base {f : Nat → Nat → Int} {m : Nat} {b : Int} : ∀ {n : Nat}, b ≤ allG f m n b
  | 0 => Int.le_refl _
  | n + 1 => Int.le_trans (allG_base (n := n)) (rowG_ge (f := f n) (m := m) (j := 0)).1
theorem rowG_at {f : Nat → Int} {b : Int} : ∀ {m : Nat}, rowG f m b = b ∨ ∃ j, j < m ∧ rowG f m b = f j
  | 0 => .inl rfl
  | m + 1 => by
    unfold rowG mx
    split
    · exact .inr ⟨m, by omega, rfl⟩
    · rcases rowG_at (f := f) (b := b) (m := m) with e | ⟨j, hj, e⟩
      · exact .inl e
      · exact .inr ⟨j, by omega, e⟩
theorem allG_at {f : Nat → Nat → Int} {m : Nat} {b : Int} : ∀ {n : Nat}, allG f m n b = b ∨ ∃ i j, i < n ∧ j < m ∧ allG f m n b = f i j
  | 0 => .inl rfl
  | n + 1 => by
    rcases rowG_at (f := f n) (b := allG f m n b) (m := m) with e | ⟨j, hj, e⟩
    · rcases allG_at (f := f) (m := m) (b := b) (n := n) with e' | ⟨i, j, hi, hj, e'⟩
      · exact .inl (by unfold allG; rw [e, e'])
      · exact .inr ⟨i, j, by omega, hj, by unfold allG; rw [e, e']⟩
    · exact .inr ⟨n, j, by omega, hj, by unfold allG; exact e⟩
theorem gv_at {M : List (List Int)} {n m q : Nat} : gv M n m q (-1) = -1 ∨ ∃ r c, r ∈ setsN n q ∧ c ∈ setsN m q ∧ gv M n m q (-1) = absI (detR M r c) := by
  rcases allG_at (f := fa M n m q) (m := (setsN m q).length) (b := -1) (n := (setsN n q).length) with e | ⟨i, j, hi, hj, e⟩
  · exact .inl e
  · exact .inr ⟨_, _, rw_mem6 hi, rw_mem6 hj, e⟩
/-- a choice of so many rows keeps the bound -/
def hit (M : List (List Int)) (p q : Int) (K : Nat) : Prop := ∃ i j, i < (setsN M.length K).length ∧ j < (setsN (rw_ M 0).length K).length ∧ okc M p q (rw_ (setsN M.length K) i) (rw_ (setsN (rw_ M 0).length K) j)
/-- the smallest number of rows of such a choice -/
def few (M : List (List Int)) (p q : Int) (K : Nat) : Prop := hit M p q K ∧ ∀ k, k < K → ¬ hit M p q k
theorem few_one {M : List (List Int)} {p q : Int} {K L : Nat} (h : few M p q K) (k : few M p q L) : K = L := by
  rcases Nat.lt_trichotomy K L with e | e | e
  · exact absurd h.1 (k.2 K e)
  · exact e
  · exact absurd k.1 (h.2 L e)
theorem rk_pos {M : List (List Int)} {n m : Nat} (z : 0 < gv M n m 0 (-1)) : ∀ k, 0 < gv M n m (rk M n m k) (-1)
  | 0 => z
  | k + 1 => by
    unfold rk
    split
    · assumption
    · exact rk_pos z k
theorem rk_top {M : List (List Int)} {n m : Nat} : ∀ {k j : Nat}, rk M n m k < j → j ≤ k → ¬ 0 < gv M n m j (-1)
  | 0, j, h, h2 => by omega
  | k + 1, j, h, h2 => by
    unfold rk at h
    split at h
    · omega
    · rename_i ng
      by_cases e : j = k + 1
      · rw [e]; exact ng
      · exact rk_top h (by omega)
theorem mem_at {L : List (List Int)} {r : List Int} (h : r ∈ L) : ∃ i, i < L.length ∧ rw_ L i = r := by
  obtain ⟨i, hi, e⟩ := List.mem_iff_getElem.1 h
  exact ⟨i, hi, by rw [← e]; show L.getD i [] = _; simp [List.getD, hi]⟩
/-- with as many rows as the rank, a choice leaves nothing -/
theorem hit_rank {M : List (List Int)} (hv : vcode M = 0) {p q : Int} (p0 : 0 ≤ p) : ∃ K, K ≤ M.length ∧ K ≤ (rw_ M 0).length ∧ hit M p q K := by
  obtain ⟨n, m, s, n1, n6, m1, m6⟩ := sq_of hv
  obtain rfl : M.length = n := s.len
  obtain rfl : (rw_ M 0).length = m := rw_len s (by omega)
  obtain ⟨s1, s2⟩ := sd_le M.length (rw_ M 0).length
  have z := gv_zero (M := M) n6 m6
  have le := rk_le (M := M) (n := M.length) (m := (rw_ M 0).length) (sd M.length (rw_ M 0).length)
  have pos := rk_pos z (sd M.length (rw_ M 0).length)
  have top := fun j => rk_top (M := M) (n := M.length) (m := (rw_ M 0).length) (k := sd M.length (rw_ M 0).length) (j := j)
  generalize rk M M.length (rw_ M 0).length (sd M.length (rw_ M 0).length) = K at *
  refine ⟨K, by omega, by omega, ?_⟩
  rcases gv_at (M := M) (n := M.length) (m := (rw_ M 0).length) (q := K) with e | ⟨r, c, hr, hc, e⟩
  · omega
  · obtain ⟨i, hi, e1⟩ := mem_at hr
    obtain ⟨j, hj, e2⟩ := mem_at hc
    refine ⟨i, j, hi, hj, ?_⟩
    rw [e1, e2]
    have dz : detR M r c ≠ 0 := fun z => by rw [z] at e; rw [e] at pos; exact absurd pos (by decide)
    refine ⟨dz, fun x hx y hy => ?_⟩
    have b0 : absI (bord M r c x y) = 0 := by
      rcases bord_le n6 m6 hr hc hx hy with b | ⟨q1, q2, b⟩
      · rw [b]; rfl
      · have t := top (K + 1) (by omega) (by unfold sd; split <;> omega)
        have := absI_nn (bord M r c x y)
        omega
    have dp : 0 < absI (detR M r c) := by unfold absI; split <;> omega
    unfold abo
    rw [b0, abv_ratq dp (Int.le_refl _)]
    have := Int.mul_nonneg p0 (show 0 ≤ absI (detR M r c) by omega)
    simp; omega

end Go.Proofs.Ytefmlcojbfiehaa
namespace Go.Proofs.Ytefmlcojbfiehaa
open Go.ChangeShapes Go.WideShapes Go.RowKit
open Cr
theorem bnd_of {p q : Int} (h : bndB p q = true) : 0 ≤ p ∧ p ≤ 1000000 ∧ 1 ≤ q ∧ q ≤ 1000 := by
  unfold bndB at h
  simp only [Bool.and_eq_true] at h
  have a := inr_iff.1 h.1.1
  have b := inr_iff.1 h.1.2
  exact ⟨b.1, b.2, a.1, a.2⟩
theorem comp_v (A : Option Addr) (c : Nat) (M : List (List Int)) (p q : Int) (w : World) (hM : ML w A M) (ln : M.length ≤ 1000) (wd : ∀ i, i < M.length → (rw_ M i).length ≤ 1000) (hv : vcode M ≠ 0) : Calls Try.prog 42 #[.slice A M.length c, rtv (p, q)] w fun e w' => e = .returned (.tuple #[.slice none 0 0, .slice none 0 0, .int .i64 (vcode M)]) ∧ Below w.heap.size w w' := by
  have CV := Lib.hid (fun W (B : Below w.heap.size w W) => val6_any A c M W (ml_in hM B) ln wd)
  have X0 := Lib.hid (bx_new w p q)
  clear hM ln wd
  generalize vcode M = e at *
  have t1 : (e != 0) = true := by simp [hv]
  clear hv
  go_enter Try.func42, Try.ntmps42
  go_wp2_with fail
  with_reducible refine (CV.out _ (bx_bel X0.out)).mono ?_
  rintro e w2 ⟨rfl, rfl⟩
  go_wp2_with fail
  go_ret3
  exact ⟨rfl, bx_bel X0.out⟩
theorem comp_b (A : Option Addr) (c : Nat) (M : List (List Int)) (p q : Int) (w : World) (hM : ML w A M) (ln : M.length ≤ 1000) (wd : ∀ i, i < M.length → (rw_ M i).length ≤ 1000) (hv : vcode M = 0) (hb : bndB p q = false) : Calls Try.prog 42 #[.slice A M.length c, rtv (p, q)] w fun e w' => e = .returned (.tuple #[.slice none 0 0, .slice none 0 0, .int .i64 1]) ∧ Below w.heap.size w w' := by
  have CV := Lib.hid (fun W (B : Below w.heap.size w W) => val6_any A c M W (ml_in hM B) ln wd)
  have IB := Lib.hid (fun W => isb_any p q W)
  rw [hv] at CV
  rw [hb] at IB
  have X0 := Lib.hid (bx_new w p q)
  obtain ⟨x0, x1, _, x2⟩ := bx_s X0.out
  clear hM ln wd hv hb
  go_enter Try.func42, Try.ntmps42
  go_wp2_with fail
  with_reducible refine (CV.out _ (bx_bel X0.out)).mono ?_
  rintro e w2 ⟨rfl, rfl⟩
  go_wp2_with fail
  with_reducible refine (IB.out _).mono ?_
  rintro e w3 ⟨rfl, hb⟩
  have X3 := Lib.hid (bx_below X0.out hb)
  clear hb
  go_wp2_with fail
  go_ret3
  exact ⟨rfl, bx_bel X3.out⟩
set_option maxHeartbeats 2000000 in
theorem comp_ok (A : Option Addr) (c : Nat) (M : List (List Int)) (p q : Int) (w : World) (hM : ML w A M) (ln : M.length ≤ 1000) (wd : ∀ i, i < M.length → (rw_ M i).length ≤ 1000) (hv : vcode M = 0) (hb : bndB p q = true) : Calls Try.prog 42 #[.slice A M.length c, rtv (p, q)] w fun e w' => ∃ R cr E ce K i j, e = .returned (.tuple #[.slice R K cr, .slice E K ce, .int .i64 0]) ∧ Below w.heap.size w w' ∧ few M p q K ∧ K ≤ 6 ∧ i < (setsN M.length K).length ∧ j < (setsN (rw_ M 0).length K).length ∧ K ≤ cr ∧ K ≤ ce ∧ IL w' R (rw_ (setsN M.length K) i) ∧ IL w' E (rw_ (setsN (rw_ M 0).length K) j) ∧ okc M p q (rw_ (setsN M.length K) i) (rw_ (setsN (rw_ M 0).length K) j) := by
  have CV := Lib.hid (fun W (B : Below w.heap.size w W) => val6_any A c M W (ml_in hM B) ln wd)
  have IB := Lib.hid (fun W => isb_any p q W)
  obtain ⟨p0, p1, q0, q1⟩ := bnd_of hb
  have AC := Lib.hid (fun W (B : Below w.heap.size w W) K (hk : K ≤ 6) => accepted_any A c K M p q W (ml_in hM B) hv p0 p1 q0 q1 hk)
  obtain ⟨K0, k1, _, hK0⟩ := hit_rank hv (p := p) (q := q) p0
  have n6 : M.length ≤ 6 := by
    obtain ⟨n, m, s, _, n6, _, _⟩ := sq_of hv
    rw [s.len]; exact n6
  have k06 : K0 ≤ 6 := by omega
  have HK := Lib.hid hK0
  rw [hv] at CV
  rw [hb] at IB
  have X0 := Lib.hid (bx_new w p q)
  obtain ⟨x0, x1, _, x2⟩ := bx_s X0.out
  clear hM ln wd hv hb p0 p1 q0 q1 hK0 k1 n6
  go_enter Try.func42, Try.ntmps42
  go_wp2_with fail
  with_reducible refine (CV.out _ (bx_bel X0.out)).mono ?_
  rintro e w2 ⟨rfl, rfl⟩
  go_wp2_with fail
  with_reducible refine (IB.out _).mono ?_
  rintro e w3 ⟨rfl, hb⟩
  have X3 := Lib.hid (bx_below X0.out hb)
  clear hb
  go_wp2_with fail
  go_loopw [8] (fun kv wr => ∃ k : Nat, k ≤ K0 ∧ kv = .int .i64 (k : Int) ∧ BX w p q wr ∧ ∀ k', k' < k → ¬ hit M p q k') (fun kv _ => K0 - (intOf kv).toNat)
  case atStart => exact ⟨0, Nat.zero_le _, rfl, X3.out, fun _ h => absurd h (Nat.not_lt_zero _)⟩
  case round =>
    clear X3 x0 x1 x2
    obtain ⟨k, hk, rfl, hX, hno⟩ := hrel
    have HX := Lib.hid hX
    have NO := Lib.hid hno
    have kk : (k : Int) ≤ 6 := by omega
    have kk0 : 0 ≤ (k : Int) := by omega
    have ACk := Lib.hid (AC.out wr (bx_bel HX.out) k (by omega))
    obtain ⟨x0, x1, _, x2⟩ := bx_s HX.out
    clear hX hno
    go_wp2_with fail
    with_reducible refine ACk.out.mono ?_
    rintro e w5 ⟨hb, h⟩
    have X5 := Lib.hid (bx_below HX.out hb)
    clear hb x0 x1 x2
    rcases h with ⟨rfl, hn⟩ | ⟨R, cr, E, ce, i, j, rfl, h1, h2, h3, h4, h5, h6, h7⟩
    · have nh : ¬ hit M p q k := fun ⟨i, j, hi, hj, h⟩ => hn i hi j hj h
      have ne : k < K0 := by
        rcases Nat.lt_or_ge k K0 with l | l
        · exact l
        · exact absurd ((show k = K0 by omega) ▸ HK.out) nh
      have NI := Lib.hid (fun k' (hk' : k' < k + 1) => (show ¬ hit M p q k' from if e : k' = k then e ▸ nh else NO.out k' (by omega)))
      clear hn nh
      go_wp2_with fail
      go_roundw
      case rel => exact ⟨k + 1, by omega, by go_num, X5.out, NI.out⟩
      case measure => simp [intOf]; omega
    · have FW : few M p q k := ⟨⟨i, j, h1, h2, h7⟩, NO.out⟩
      have FWH := Lib.hid FW
      have H1 := Lib.hid h1
      have H2 := Lib.hid h2
      have H3 := Lib.hid h3
      have H4 := Lib.hid h4
      have H5 := Lib.hid h5
      have H6 := Lib.hid h6
      have H7 := Lib.hid h7
      clear FW h1 h2 h3 h4 h5 h6 h7
      go_wp2_with fail
      go_ret3
      exact ⟨R, cr, E, ce, k, i, j, rfl, bx_bel X5.out, FWH.out, by omega, H1.out, H2.out, H3.out, H4.out, H5.out, H6.out, H7.out⟩

end Go.Proofs.Ytefmlcojbfiehaa
namespace Go.Proofs.Ytefmlcojbfiehaa
open Go.ChangeShapes Go.WideShapes Go.RowKit
open Cr
theorem chk_okc {M : List (List Int)} {r c : List Int} {p q : Int} (kc : kcode M r c = 0) (hb : bndB p q = true) : chk M r c p q = 0 ↔ okc M p q r c := by
  obtain ⟨p0, _, q0, _⟩ := bnd_of hb
  unfold chk
  by_cases dz : detR M r c = 0
  · have dv : (dvz M r c).2 = 11 := by unfold dvz; rw [if_pos kc, if_pos dz]
    have ew : (wrs M r c).2 = 11 := by unfold wrs; rw [if_neg (by rw [dv]; decide)]; exact dv
    rw [if_neg (by rw [ew]; decide), ew]
    exact ⟨fun h => absurd h (by decide), fun h => absurd dz h.1⟩
  · have dv : (dvz M r c).2 = 0 := by unfold dvz; rw [if_pos kc, if_neg dz]
    have ew : wrs M r c = (ratq (wst M r c) (absI (detR M r c)), 0) := if_pos dv
    have aw := abo_w (M := M) (rows := r) (cols := c) (p := p) (q := q) dz p0 (by omega)
    rw [ew, if_pos rfl, if_pos hb]
    cases h : abvB (ratq (wst M r c) (absI (detR M r c))) (p, q) with
    | true =>
      rw [h] at aw
      obtain ⟨i, j, hi, hj, e⟩ := aw.2 rfl
      rw [if_pos rfl]
      exact ⟨fun h => absurd h (by decide), fun k => by have := k.2 i hi j hj; rw [e] at this; cases this⟩
    | false =>
      rw [h] at aw
      rw [if_neg (by decide)]
      refine ⟨fun _ => ⟨dz, fun i hi j hj => ?_⟩, fun _ => rfl⟩
      cases e : abo M r c p q i j with
      | false => rfl
      | true => exact absurd (aw.1 ⟨i, j, hi, hj, e⟩) (by decide)
theorem fewP_err (A : Option Addr) (c : Nat) (M : List (List Int)) (p q : Int) (w : World) (v : Int) (hc : ∀ W, Below w.heap.size w W → Calls Try.prog 42 #[.slice A M.length c, rtv (p, q)] W fun e w' => e = .returned (.tuple #[.slice none 0 0, .slice none 0 0, .int .i64 v]) ∧ Below W.heap.size W w') : Calls Try.prog 40 #[.slice A M.length c, rtv (p, q)] w fun e w' => e = .returned (.tuple #[.int .i64 0, .int .i64 v]) ∧ Below w.heap.size w w' := by
  have CC := Lib.hid hc
  have X0 := Lib.hid (bx_new w p q)
  obtain ⟨x0, x1, _, x2⟩ := bx_s X0.out
  clear hc
  go_enter Try.func40, Try.ntmps40
  go_wp2_with fail
  with_reducible refine (CC.out _ (bx_bel X0.out)).mono ?_
  rintro e w2 ⟨rfl, hb⟩
  have X3 := Lib.hid (bx_below X0.out hb)
  clear hb
  go_wp2_with fail
  go_ret2
  exact ⟨rfl, bx_bel X3.out⟩
theorem fewP_ok (A : Option Addr) (c : Nat) (M : List (List Int)) (p q : Int) (w : World) (hM : ML w A M) (ln : M.length ≤ 1000) (wd : ∀ i, i < M.length → (rw_ M i).length ≤ 1000) (hv : vcode M = 0) (hb : bndB p q = true) : Calls Try.prog 40 #[.slice A M.length c, rtv (p, q)] w fun e w' => ∃ K : Nat, e = .returned (.tuple #[.int .i64 (K : Int), .int .i64 0]) ∧ Below w.heap.size w w' ∧ few M p q K := by
  have CC := Lib.hid (fun W (B : Below w.heap.size w W) => comp_ok A c M p q W (ml_in hM B) ln wd hv hb)
  have X0 := Lib.hid (bx_new w p q)
  obtain ⟨x0, x1, _, x2⟩ := bx_s X0.out
  clear hM ln wd hv hb
  go_enter Try.func40, Try.ntmps40
  go_wp2_with fail
  with_reducible refine (CC.out _ (bx_bel X0.out)).mono ?_
  rintro e w2 ⟨R, cr, E, ce, K, i, j, rfl, hb, hf, _⟩
  have X3 := Lib.hid (bx_below X0.out hb)
  have HF := Lib.hid hf
  clear hb hf
  go_wp2_with fail
  go_ret2
  exact ⟨K, rfl, bx_bel X3.out, HF.out⟩
def VQ (w : World) (x1 y1 : Nat) (R : Option Addr) (cr x3 y3 : Nat) (E : Option Addr) (ce k g : Nat) (p q : Int) (w1 : World) : Prop := w1.cell? ⟨x1, y1, none⟩ = some (.slice R k cr) ∧ w1.cell? ⟨x3, y3, none⟩ = some (.slice E k ce) ∧ w1.cell? ⟨g, 0, none⟩ = some (.int .i64 p) ∧ w1.cell? ⟨g, 1, none⟩ = some (.int .i64 q) ∧ Below w.heap.size w w1 ∧ x1 < w1.heap.size ∧ x3 < w1.heap.size ∧ g < w1.heap.size
theorem vq_s {w : World} {x1 y1 : Nat} {R : Option Addr} {cr x3 y3 : Nat} {E : Option Addr} {ce k g : Nat} {p q : Int} {w1 : World} (h : VQ w x1 y1 R cr x3 y3 E ce k g p q w1) : w1.cell? ⟨x1, y1, none⟩ = some (.slice R k cr) ∧ w1.cell? ⟨x3, y3, none⟩ = some (.slice E k ce) ∧ w1.cell? ⟨g, 0, none⟩ = some (.int .i64 p) ∧ w1.cell? ⟨g, 1, none⟩ = some (.int .i64 q) ∧ Below w.heap.size w w1 ∧ x1 < w1.heap.size ∧ x3 < w1.heap.size ∧ g < w1.heap.size := h
theorem vq_of {w : World} {x1 y1 : Nat} {R : Option Addr} {cr x3 y3 : Nat} {E : Option Addr} {ce k g : Nat} {p q : Int} {w1 : World} (h : w1.cell? ⟨x1, y1, none⟩ = some (.slice R k cr) ∧ w1.cell? ⟨x3, y3, none⟩ = some (.slice E k ce) ∧ w1.cell? ⟨g, 0, none⟩ = some (.int .i64 p) ∧ w1.cell? ⟨g, 1, none⟩ = some (.int .i64 q) ∧ Below w.heap.size w w1 ∧ x1 < w1.heap.size ∧ x3 < w1.heap.size ∧ g < w1.heap.size) : VQ w x1 y1 R cr x3 y3 E ce k g p q w1 := h
theorem vq_drew {w : World} {x1 y1 : Nat} {R : Option Addr} {cr x3 y3 : Nat} {E : Option Addr} {ce k g : Nat} {p q : Int} {w1 : World} (h : VQ w x1 y1 R cr x3 y3 E ce k g p q w1) : VQ w x1 y1 R cr x3 y3 E ce k g p q w1.drew := by
  obtain ⟨h0, h1, h2, h3, hB, b0, b1, b2⟩ := h
  exact ⟨h0, h1, h2, h3, Below.drew hB, b0, b1, b2⟩
theorem vq_drewN {w : World} {x1 y1 : Nat} {R : Option Addr} {cr x3 y3 : Nat} {E : Option Addr} {ce k g : Nat} {p q : Int} {w1 : World} (h : VQ w x1 y1 R cr x3 y3 E ce k g p q w1) (kk : Nat) : VQ w x1 y1 R cr x3 y3 E ce k g p q (w1.drewN kk) := by
  obtain ⟨h0, h1, h2, h3, hB, b0, b1, b2⟩ := h
  exact ⟨h0, h1, h2, h3, bdrewN hB kk, b0, b1, b2⟩
theorem vq_bel {w : World} {x1 y1 : Nat} {R : Option Addr} {cr x3 y3 : Nat} {E : Option Addr} {ce k g : Nat} {p q : Int} {w1 : World} (h : VQ w x1 y1 R cr x3 y3 E ce k g p q w1) : Below w.heap.size w w1 := by
  obtain ⟨h0, h1, h2, h3, hB, b0, b1, b2⟩ := h
  exact hB
theorem vq_below {w : World} {x1 y1 : Nat} {R : Option Addr} {cr x3 y3 : Nat} {E : Option Addr} {ce k g : Nat} {p q : Int} {w1 w2 : World} (h : VQ w x1 y1 R cr x3 y3 E ce k g p q w1) (hb : Below w1.heap.size w1 w2) : VQ w x1 y1 R cr x3 y3 E ce k g p q w2 := by
  obtain ⟨h0, h1, h2, h3, hB, b0, b1, b2⟩ := h
  exact ⟨(hb.cell (p := ⟨x1, y1, none⟩) b0).trans h0, (hb.cell (p := ⟨x3, y3, none⟩) b1).trans h1, (hb.cell (p := ⟨g, 0, none⟩) b2).trans h2, (hb.cell (p := ⟨g, 1, none⟩) b2).trans h3, bstep hB hb, Nat.lt_of_lt_of_le b0 hb.size, Nat.lt_of_lt_of_le b1 hb.size, Nat.lt_of_lt_of_le b2 hb.size⟩
theorem rfew_v (A : Option Addr) (c : Nat) (M : List (List Int)) (p q : Int) (w : World) (hM : ML w A M) (ln : M.length ≤ 1000) (wd : ∀ i, i < M.length → (rw_ M i).length ≤ 1000) (hv : vcode M ≠ 0) : Calls Try.prog 41 #[.slice A M.length c, rtv (p, q)] w fun e w' => e = .returned (.tuple #[.int .i64 0, .int .i64 (vcode M)]) ∧ Below w.heap.size w w' := by
  have CV := Lib.hid (fun W (B : Below w.heap.size w W) => rval6_any A c M W (ml_in hM B) ln wd)
  have X0 := Lib.hid (bx_new w p q)
  clear hM ln wd
  generalize vcode M = e at *
  have t1 : (e != 0) = true := by simp [hv]
  clear hv
  go_enter Try.func41, Try.ntmps41
  go_wp2_with fail
  with_reducible refine (CV.out _ (bx_bel X0.out)).mono ?_
  rintro e w2 ⟨rfl, hb⟩
  have X2 := Lib.hid (bx_below X0.out hb)
  clear hb
  go_wp2_with fail
  go_ret2
  exact ⟨rfl, bx_bel X2.out⟩
theorem rfew_b (A : Option Addr) (c : Nat) (M : List (List Int)) (p q : Int) (w : World) (hM : ML w A M) (ln : M.length ≤ 1000) (wd : ∀ i, i < M.length → (rw_ M i).length ≤ 1000) (hv : vcode M = 0) (hb : bndB p q = false) : Calls Try.prog 41 #[.slice A M.length c, rtv (p, q)] w fun e w' => e = .returned (.tuple #[.int .i64 0, .int .i64 1]) ∧ Below w.heap.size w w' := by
  have CV := Lib.hid (fun W (B : Below w.heap.size w W) => rval6_any A c M W (ml_in hM B) ln wd)
  have IB := Lib.hid (fun W => risb_any p q W)
  rw [hv] at CV
  rw [hb] at IB
  have X0 := Lib.hid (bx_new w p q)
  clear hM ln wd hv hb
  go_enter Try.func41, Try.ntmps41
  go_wp2_with fail
  with_reducible refine (CV.out _ (bx_bel X0.out)).mono ?_
  rintro e w2 ⟨rfl, hb⟩
  have X2 := Lib.hid (bx_below X0.out hb)
  clear hb
  obtain ⟨x0, x1, _, x2⟩ := bx_s X2.out
  go_wp2_with fail
  with_reducible refine (IB.out _).mono ?_
  rintro e w3 ⟨rfl, hb⟩
  have X3 := Lib.hid (bx_below X2.out hb)
  clear hb
  go_wp2_with fail
  go_ret2
  exact ⟨rfl, bx_bel X3.out⟩
set_option maxRecDepth 100000 in
set_option maxHeartbeats 4000000 in
theorem rfew_ok (A : Option Addr) (c : Nat) (M : List (List Int)) (p q : Int) (w : World) (hM : ML w A M) (ln : M.length ≤ 1000) (wd : ∀ i, i < M.length → (rw_ M i).length ≤ 1000) (hv : vcode M = 0) (hb : bndB p q = true) : Calls Try.prog 41 #[.slice A M.length c, rtv (p, q)] w fun e w' => ∃ K : Nat, e = .returned (.tuple #[.int .i64 (K : Int), .int .i64 0]) ∧ Below w.heap.size w w' ∧ few M p q K := by
  have CV := Lib.hid (fun W (B : Below w.heap.size w W) => rval6_any A c M W (ml_in hM B) ln wd)
  have IB := Lib.hid (fun W => risb_any p q W)
  obtain ⟨p0, p1, q0, q1⟩ := bnd_of hb
  obtain ⟨K0, k1, k2, hK0⟩ := hit_rank hv (p := p) (q := q) p0
  obtain ⟨n, m, s, n1, n6, m1, m6⟩ := sq_of hv
  obtain rfl : M.length = n := s.len
  obtain rfl : (rw_ M 0).length = m := rw_len s (by omega)
  have SI := Lib.hid (fun W (B : Below w.heap.size w W) => sides_any A c M.length (rw_ M 0).length M W (ml_in hM B) s n1 n6 m6)
  have ksd : K0 ≤ sd M.length (rw_ M 0).length := by unfold sd; split <;> omega
  have S1 := Lib.hid (fun W k (hk : k ≤ 6) => rsets_any M.length k W n6 hk)
  have S2 := Lib.hid (fun W k (hk : k ≤ 6) => rsets_any (rw_ M 0).length k W m6 hk)
  have LR := Lib.hid (fun k i (hi : i < (setsN M.length k).length) => (sets_under n6 hi).2)
  have LC := Lib.hid (fun k j (hj : j < (setsN (rw_ M 0).length k).length) => (sets_under m6 hj).2)
  have CK := Lib.hid (fun W (B : Below w.heap.size w W) k (hk : k ≤ 6) i j R E cr ce (hi : i < (setsN M.length k).length) (hj : j < (setsN (rw_ M 0).length k).length) (h1 : k ≤ cr) (h2 : k ≤ ce) (i1 : IL W R (rw_ (setsN M.length k) i)) (i2 : IL W E (rw_ (setsN (rw_ M 0).length k) j)) =>
    rcheckP_any A R E c cr ce M (rw_ (setsN M.length k) i) (rw_ (setsN (rw_ M 0).length k) j) p q W ⟨ml_in hM B, by omega, fun x hx => by rw [rw_len s hx]; omega, i1, i2, by rw [(sets_under n6 hi).2]; omega, by rw [(sets_under m6 hj).2]; omega⟩ (by rw [(sets_under n6 hi).2]; exact h1) (by rw [(sets_under m6 hj).2]; exact h2))
  have CO := Lib.hid (fun k i j (hi : i < (setsN M.length k).length) (hj : j < (setsN (rw_ M 0).length k).length) => chk_okc (p := p) (q := q) (kc_sets hv n6 m6 (rw_mem6 hi) (rw_mem6 hj)) hb)
  have XM := Lib.hid (fun k (hk : k ≤ 6) => sets_max M.length (by omega) k (by omega))
  have XN := Lib.hid (fun k (hk : k ≤ 6) => sets_max (rw_ M 0).length (by omega) k (by omega))
  have HK := Lib.hid hK0
  rw [hv] at CV
  rw [hb] at IB
  have X0 := Lib.hid (bx_new w p q)
  obtain ⟨b0, o0, A0, c0, rfl, hb0, hc0, _, _⟩ := hM 0 (by omega)
  have hc0 : w.cell? ⟨b0, o0, none⟩ = some (.slice A0 (rw_ M 0).length c0) := hc0
  have HC0 := Lib.hid hc0
  have HB0 := Lib.hid hb0
  have k06 : K0 ≤ 6 := by omega
  have nn : (M.length : Int) ≤ 6 := by omega
  have n0 : (0 : Int) < (M.length : Int) := by omega
  have n01 : 1 ≤ (M.length : Int) := by omega
  have n02 : 0 < M.length := by omega
  generalize sd M.length (rw_ M 0).length = sdd at *
  clear hM ln wd hv hb p0 p1 q0 q1 hK0 k1 k2 s n1 n6 m1 m6 hc0 hb0
  go_enter Try.func41, Try.ntmps41
  go_wp2_with fail
  with_reducible refine (CV.out _ (bx_bel X0.out)).mono ?_
  rintro e w2 ⟨rfl, hb⟩
  have X2 := Lib.hid (bx_below X0.out hb)
  clear hb
  obtain ⟨x0, x1, _, x2⟩ := bx_s X2.out
  go_wp2_with fail
  with_reducible refine (IB.out _).mono ?_
  rintro e w3 ⟨rfl, hb⟩
  have X3 := Lib.hid (bx_below X2.out hb)
  clear hb x0 x1 x2 X2
  go_wp2_with fail
  go_loopw [7] (fun kv wr => ∃ k : Nat, k ≤ K0 ∧ kv = .int .i64 (k : Int) ∧ BX w p q wr ∧ ∀ k', k' < k → ¬ hit M p q k') (fun kv _ => K0 - (intOf kv).toNat)
  case atStart => exact ⟨0, Nat.zero_le _, rfl, X3.out, fun _ h => absurd h (Nat.not_lt_zero _)⟩
  case round =>
    rename World => wo
    clear X3
    obtain ⟨k, hk, rfl, hX, hno⟩ := hrel
    have HX := Lib.hid hX
    have NO := Lib.hid hno
    have kk : (k : Int) ≤ 6 := by omega
    have kk0 : 0 ≤ (k : Int) := by omega
    have kks : (k : Int) ≤ (sdd : Int) := by omega
    have T1 := Lib.hid (fun W => S1.out W k (by omega))
    have T2 := Lib.hid (fun W => S2.out W k (by omega))
    have V0 := Lib.hid (vs_of (w := w) (w1 := wo) (x0 := b0) (y0 := o0) (A0 := A0) (m := (rw_ M 0).length) (c0 := c0) ⟨((bx_bel HX.out).cell (p := ⟨b0, o0, none⟩) HB0.out).trans HC0.out, bx_bel HX.out, Nat.lt_of_lt_of_le HB0.out (bx_bel HX.out).size⟩)
    clear hX hno
    go_wp2_with fail
    with_reducible refine (SI.out _ (bx_bel HX.out)).mono ?_
    rintro e w4 ⟨rfl, rfl⟩
    go_wp2_with fail
    go_region_held3 (fun w' => w'.cell? ⟨b0, o0, none⟩ = some (.slice A0 (rw_ M 0).length c0) ∧ Below w.heap.size w w' ∧ b0 < w'.heap.size)
      (first | with_reducible exact vs_s (vs_drew V0.out) | with_reducible exact vs_s V1.out | with_reducible exact vs_s V2.out | fail)
      (first
        | (go_at_call 78; (with_reducible refine (T1.out _).mono ?_); rintro e w2 ⟨A2, c2, rfl, hL, hb⟩; have V1 := Lib.hid (vs_below (vs_of (by assumption)) hb); have HLa := Lib.hid hL; have hba := Lib.hid hb; have Y1 := Lib.hid (by first | exact bx_below (bx_drew HX.out) hb | exact bx_below HX.out hb | exact bx_below Y2.out hb); clear hL hb)
        | (go_at_call 78; (with_reducible refine (T2.out _).mono ?_); rintro e w3 ⟨A3, c3, rfl, hL, hb⟩; have V2 := Lib.hid (vs_below (vs_of (by assumption)) hb); have HLc := Lib.hid hL; have hbc := Lib.hid hb; have Y2 := Lib.hid (by first | exact bx_below (bx_drew HX.out) hb | exact bx_below HX.out hb | exact bx_below Y1.out hb); clear hL hb)
        | fail)
    all_goals
      have HL := Lib.hid (by first | exact ml_in HLa.out hbc.out | exact HLa.out)
      have HC := Lib.hid (by first | exact ml_in HLc.out hba.out | exact HLc.out)
      clear HLa HLc hba hbc V0 V1 V2 HX
      have X1 := XM.out k (by omega)
      have X2 := XN.out k (by omega)
      go_wp2_with fail
      go_loopw [10] (fun kv wr => ∃ i : Nat, i ≤ (setsN M.length k).length ∧ kv = .int .i64 (i : Int) ∧ ML wr A2 (setsN M.length k) ∧ ML wr A3 (setsN (rw_ M 0).length k) ∧ BX w p q wr ∧ ∀ i', i' < i → ∀ j, j < (setsN (rw_ M 0).length k).length → ¬ okc M p q (rw_ (setsN M.length k) i') (rw_ (setsN (rw_ M 0).length k) j)) (fun kv _ => (setsN M.length k).length - (intOf kv).toNat)
      case atStart => exact ⟨0, Nat.zero_le _, rfl, HL.out, HC.out, (by first | exact Y1.out | exact Y2.out), fun _ h => absurd h (Nat.not_lt_zero _)⟩
      case round =>
        clear HL HC Y1 Y2
        rename World => wj
        obtain ⟨i, hi, rfl, hl, hc, hX, hno⟩ := hrel
        have HL := Lib.hid hl
        have HC := Lib.hid hc
        have HX := Lib.hid hX
        have NI := Lib.hid hno
        clear hl hc hX hno
        by_cases hlt : i < (setsN M.length k).length
        · have hk1 : (i : Int) < ((setsN M.length k).length : Int) := by omega
          have hk0 : 0 ≤ (i : Int) := by omega
          have X1' : ((setsN M.length k).length : Int) ≤ 64 := by omega
          go_wp2_with fail
          go_loopw [11] (fun kv wi => ∃ j : Nat, j ≤ (setsN (rw_ M 0).length k).length ∧ kv = .int .i64 (j : Int) ∧ Below wj.heap.size wj wi ∧ ∀ j', j' < j → ¬ okc M p q (rw_ (setsN M.length k) i) (rw_ (setsN (rw_ M 0).length k) j')) (fun kv _ => (setsN (rw_ M 0).length k).length - (intOf kv).toNat)
          case atStart => exact ⟨0, Nat.zero_le _, rfl, Below.refl _ _, fun _ h => absurd h (Nat.not_lt_zero _)⟩
          case round =>
            rename World => wi
            obtain ⟨j, hj, rfl, B, hnj⟩ := hrel
            have NJ := Lib.hid hnj
            have BI := Lib.hid B
            by_cases hltj : j < (setsN (rw_ M 0).length k).length
            · have hj1 : (j : Int) < ((setsN (rw_ M 0).length k).length : Int) := by omega
              have hj0 : 0 ≤ (j : Int) := by omega
              have X2' : ((setsN (rw_ M 0).length k).length : Int) ≤ 64 := by omega
              obtain ⟨b1, o1, R, cr, rfl, hb1, hc1, hl1, hr1⟩ := ml_in HL.out B i hlt
              obtain ⟨b3, o3, E, ce, rfl, hb3, hc3, hl3, hr3⟩ := ml_in HC.out B j hltj
              have CKj := Lib.hid (fun W (B : Below wi.heap.size wi W) => CK.out W (bstep (bx_bel (bx_below HX.out BI.out)) B) k (by omega) i j R E cr ce hlt hltj (LR.out k i hlt ▸ hl1) (LC.out k j hltj ▸ hl3) (il_in hr1 B) (il_in hr3 B))
              rw [LR.out k i hlt, LC.out k j hltj] at CKj
              rw [LR.out k i hlt] at hc1
              rw [LC.out k j hltj] at hc3
              obtain ⟨z0, z1, _, z2⟩ := bx_s (bx_below HX.out B)
              have VT0 := Lib.hid (vq_of (w := wi) (w1 := wi) (x1 := b1) (y1 := o1 + i) (x3 := b3) (y3 := o3 + j) (R := R) (cr := cr) (E := E) (ce := ce) (k := k) (g := w.heap.size) (p := p) (q := q) ⟨hc1, hc3, z0, z1, Below.refl _ _, hb1, hb3, z2⟩)
              have COj := CO.out k i j hlt hltj
              clear hnj B hb1 hb3 hl1 hl3 hr1 hr3 hc1 hc3 z0 z1 z2
              generalize chk M (rw_ (setsN M.length k) i) (rw_ (setsN (rw_ M 0).length k) j) p q = ch at *
              by_cases hz : ch = 0
              · have FW : few M p q k := ⟨⟨i, j, hlt, hltj, COj.1 hz⟩, NO.out⟩
                have FWH := Lib.hid FW
                subst hz
                clear FW COj
                go_wp2_with fail
                go_region_held3 (fun w' => w'.cell? ⟨b1, (o1 + i), none⟩ = some (.slice R k cr) ∧ w'.cell? ⟨b3, (o3 + j), none⟩ = some (.slice E k ce) ∧ w'.cell? ⟨w.heap.size, 0, none⟩ = some (.int .i64 p) ∧ w'.cell? ⟨w.heap.size, 1, none⟩ = some (.int .i64 q) ∧ Below wi.heap.size wi w' ∧ b1 < w'.heap.size ∧ b3 < w'.heap.size ∧ w.heap.size < w'.heap.size)
                  (first | with_reducible exact vq_s (vq_drew VT0.out) | with_reducible exact vq_s V1.out | fail)
                  (first
                    | (go_at_call 39; (with_reducible refine (CKj.out _ (vq_bel (vq_of (by assumption)))).mono ?_); rintro e w6 ⟨rfl, hb⟩; have V1 := Lib.hid (vq_below (vq_of (by assumption)) hb); clear hb)
                    | fail)
                all_goals
                  have BF := Lib.hid (bstep (bx_bel (bx_below HX.out BI.out)) (vq_bel V1.out))
                  go_wp2_with fail
                  go_ret2
                  exact ⟨k, rfl, BF.out, FWH.out⟩
              · have NJ1 := Lib.hid (fun j' (hj' : j' < j + 1) => (show ¬ okc M p q (rw_ (setsN M.length k) i) (rw_ (setsN (rw_ M 0).length k) j') from if e : j' = j then e ▸ (fun h => hz (COj.2 h)) else NJ.out j' (by omega)))
                have t1 : (ch == 0) = false := by simp [hz]
                clear COj
                go_wp2_with fail
                go_region_held3 (fun w' => w'.cell? ⟨b1, (o1 + i), none⟩ = some (.slice R k cr) ∧ w'.cell? ⟨b3, (o3 + j), none⟩ = some (.slice E k ce) ∧ w'.cell? ⟨w.heap.size, 0, none⟩ = some (.int .i64 p) ∧ w'.cell? ⟨w.heap.size, 1, none⟩ = some (.int .i64 q) ∧ Below wi.heap.size wi w' ∧ b1 < w'.heap.size ∧ b3 < w'.heap.size ∧ w.heap.size < w'.heap.size)
                  (first | with_reducible exact vq_s (vq_drew VT0.out) | with_reducible exact vq_s V1.out | fail)
                  (first
                    | (go_at_call 39; (with_reducible refine (CKj.out _ (vq_bel (vq_of (by assumption)))).mono ?_); rintro e w6 ⟨rfl, hb⟩; have V1 := Lib.hid (vq_below (vq_of (by assumption)) hb); clear hb)
                    | fail)
                all_goals
                  have BF := Lib.hid (bstep BI.out (vq_bel V1.out))
                  go_wp2_with fail
                  go_roundw
                  case rel => exact ⟨j + 1, by omega, by go_num, BF.out, NJ1.out⟩
                  case measure => simp [intOf]; omega
            · obtain rfl : j = (setsN (rw_ M 0).length k).length := by omega
              have NI1 := Lib.hid (fun i' (hi' : i' < i + 1) => (show ∀ j, j < (setsN (rw_ M 0).length k).length → ¬ okc M p q (rw_ (setsN M.length k) i') (rw_ (setsN (rw_ M 0).length k) j) from if e : i' = i then e ▸ NJ.out else NI.out i' (by omega)))
              clear hnj B
              go_wp2_with fail
              go_roundw
              case rel => exact ⟨i + 1, by omega, by go_num, ml_in HL.out BI.out, ml_in HC.out BI.out, bx_below HX.out BI.out, NI1.out⟩
              case measure => simp [intOf]; omega
        · obtain rfl : i = (setsN M.length k).length := by omega
          have nh : ¬ hit M p q k := fun ⟨i, j, hi, hj, h⟩ => NI.out i hi j hj h
          have ne : k < K0 := by
            rcases Nat.lt_or_ge k K0 with l | l
            · exact l
            · exact absurd ((show k = K0 by omega) ▸ HK.out) nh
          have NK := Lib.hid (fun k' (hk' : k' < k + 1) => (show ¬ hit M p q k' from if e : k' = k then e ▸ nh else NO.out k' (by omega)))
          clear nh
          go_wp2_with fail
          go_roundw
          case rel => exact ⟨k + 1, by omega, by go_num, HX.out, NK.out⟩
          case measure => simp [intOf]; omega

end Go.Proofs.Ytefmlcojbfiehaa
namespace Go.Proofs.Ytefmlcojbfiehaa
open Go.ChangeShapes Go.WideShapes Go.RowKit
open Cr
set_option maxHeartbeats 2000000 in
theorem fewest_err (A : Option Addr) (c : Nat) (M : List (List Int)) (p q : Int) (w : World) (v : Int) (hv : v ≠ 0) (ho : ∀ W, Below w.heap.size w W → Calls Try.prog 15 #[.slice A M.length c] W fun e w' => e = .returned (.bool false) ∧ W = w')
    (h1 : ∀ W, Below w.heap.size w W → Calls Try.prog 40 #[.slice A M.length c, rtv (p, q)] W fun e w' => e = .returned (.tuple #[.int .i64 0, .int .i64 v]) ∧ Below W.heap.size W w') (h2 : ∀ W, Below w.heap.size w W → Calls Try.prog 41 #[.slice A M.length c, rtv (p, q)] W fun e w' => e = .returned (.tuple #[.int .i64 0, .int .i64 v]) ∧ Below W.heap.size W w') (h3 : ∀ W, Below w.heap.size w W → Calls Try.prog 42 #[.slice A M.length c, rtv (p, q)] W fun e w' => e = .returned (.tuple #[.slice none 0 0, .slice none 0 0, .int .i64 v]) ∧ Below W.heap.size W w') :
    Calls Try.prog 9 #[.slice A M.length c, rtv (p, q)] w fun e w' => e = .returned (.bool true) ∧ Below w.heap.size w w' := by
  have LO := Lib.hid ho
  have P1 := Lib.hid h1
  have P2 := Lib.hid h2
  have P3 := Lib.hid h3
  have KN := Lib.hid (fun W => known6_any W)
  have X0 := Lib.hid (bx_new w p q)
  have t1 : (v != 0) = true := by simp [hv]
  clear ho h1 h2 h3 hv
  obtain ⟨x0, x1, _, x2⟩ := bx_s X0.out
  go_enter Try.func9, Try.ntmps9
  go_wp2_with fail
  with_reducible refine (LO.out _ (bx_bel X0.out)).mono ?_
  rintro e w2 ⟨rfl, rfl⟩
  go_wp2_with fail
  with_reducible refine (P1.out _ (bx_bel X0.out)).mono ?_
  rintro e w3 ⟨rfl, hb⟩
  have X3 := Lib.hid (bx_below X0.out hb)
  clear hb x0 x1 x2
  obtain ⟨x0, x1, _, x2⟩ := bx_s X3.out
  go_wp2_with fail
  with_reducible refine (P2.out _ (bx_bel X3.out)).mono ?_
  rintro e w4 ⟨rfl, hb⟩
  have X4 := Lib.hid (bx_below X3.out hb)
  clear hb x0 x1 x2
  obtain ⟨x0, x1, _, x2⟩ := bx_s X4.out
  go_wp2_with fail
  with_reducible refine (P3.out _ (bx_bel X4.out)).mono ?_
  rintro e w5 ⟨rfl, hb⟩
  have X5 := Lib.hid (bx_below X4.out hb)
  have HB := Lib.hid (bx_bel X5.out)
  clear hb x0 x1 x2
  go_wp2_with fail
  with_reducible refine (KN.out _).mono ?_
  rintro e w9 ⟨rfl, hb9⟩
  have HB9 := Lib.hid (bstep HB.out hb9)
  clear hb9
  go_wp2_with fail
  go_ret
  exact ⟨rfl, HB9.out⟩
set_option maxHeartbeats 4000000 in
theorem fewest_walk (A : Option Addr) (c : Nat) (M : List (List Int)) (p q : Int) (w : World) (lM : M.length ≤ c) (cM : c ≤ maxLen) (hM : ML w A M) :
    Calls Try.prog 9 #[.slice A M.length c, rtv (p, q)] w fun e w' => e = .returned (.bool true) ∧ Below w.heap.size w w' := by
  have hm0 : M.length ≤ 9223372036854775807 := by unfold maxLen at cM; omega
  have LO := Lib.hid (fun W (B : Below w.heap.size w W) => long_any6 A c M W (ml_in hM B) hm0)
  have KN := Lib.hid (fun W => known6_any W)
  have X0 := Lib.hid (bx_new w p q)
  cases hlo : longB M with
  | true =>
    rw [hlo] at LO
    clear lM cM hM hlo hm0
    go_enter Try.func9, Try.ntmps9
    go_wp2_with fail
    with_reducible refine (LO.out _ (bx_bel X0.out)).mono ?_
    rintro e w2 ⟨rfl, rfl⟩
    have HB := Lib.hid (bx_bel X0.out)
    go_wp2_with fail
    with_reducible refine (KN.out _).mono ?_
    rintro e w9 ⟨rfl, hb9⟩
    have HB9 := Lib.hid (bstep HB.out hb9)
    clear hb9
    go_wp2_with fail
    go_ret
    exact ⟨rfl, HB9.out⟩
  | false =>
    rw [hlo] at LO
    obtain ⟨ln, wd⟩ := long_no hlo
    have ln' : M.length ≤ 1000 := by omega
    have wd' : ∀ i, i < M.length → (rw_ M i).length ≤ 1000 := fun i hi => by have := wd i hi; omega
    by_cases hv : vcode M = 0
    · cases hb : bndB p q with
      | false =>
        exact fewest_err A c M p q w 1 (by decide) LO.out (fun W B => fewP_err A c M p q W 1 (fun W2 B2 => comp_b A c M p q W2 (ml_in hM (bstep B B2)) ln' wd' hv hb)) (fun W B => rfew_b A c M p q W (ml_in hM B) ln' wd' hv hb) (fun W B => comp_b A c M p q W (ml_in hM B) ln' wd' hv hb)
      | true =>
        have P1 := Lib.hid (fun W (B : Below w.heap.size w W) => fewP_ok A c M p q W (ml_in hM B) ln' wd' hv hb)
        have P2 := Lib.hid (fun W (B : Below w.heap.size w W) => rfew_ok A c M p q W (ml_in hM B) ln' wd' hv hb)
        have P3 := Lib.hid (fun W (B : Below w.heap.size w W) => comp_ok A c M p q W (ml_in hM B) ln' wd' hv hb)
        obtain ⟨n, m, s, n1, n6, m1, m6⟩ := sq_of hv
        obtain rfl : M.length = n := s.len
        obtain rfl : (rw_ M 0).length = m := rw_len s (by omega)
        have CK := Lib.hid (fun W (B : Below w.heap.size w W) k (hk : k ≤ 6) i j R E cr ce (hi : i < (setsN M.length k).length) (hj : j < (setsN (rw_ M 0).length k).length) (h1 : k ≤ cr) (h2 : k ≤ ce) (i1 : IL W R (rw_ (setsN M.length k) i)) (i2 : IL W E (rw_ (setsN (rw_ M 0).length k) j)) (ok : okc M p q (rw_ (setsN M.length k) i) (rw_ (setsN (rw_ M 0).length k) j)) =>
          (show Calls Try.prog 39 #[.slice A M.length c, .slice R k cr, .slice E k ce, rtv (p, q)] W fun e w' => e = .returned (.int .i64 0) ∧ Below W.heap.size W w' from by
            have h := rcheckP_any A R E c cr ce M (rw_ (setsN M.length k) i) (rw_ (setsN (rw_ M 0).length k) j) p q W ⟨ml_in hM B, by omega, fun x hx => by rw [rw_len s hx]; omega, i1, i2, by rw [(sets_under n6 hi).2]; omega, by rw [(sets_under m6 hj).2]; omega⟩ (by rw [(sets_under n6 hi).2]; exact h1) (by rw [(sets_under m6 hj).2]; exact h2)
            rw [(chk_okc (kc_sets hv n6 m6 (rw_mem6 hi) (rw_mem6 hj)) hb).2 ok, (sets_under n6 hi).2, (sets_under m6 hj).2] at h
            exact h))
        clear lM cM hM hlo hm0 ln wd ln' wd' hv hb s n1 n6 m1 m6
        obtain ⟨x0, x1, _, x2⟩ := bx_s X0.out
        go_enter Try.func9, Try.ntmps9
        go_wp2_with fail
        with_reducible refine (LO.out _ (bx_bel X0.out)).mono ?_
        rintro e w2 ⟨rfl, rfl⟩
        go_wp2_with fail
        with_reducible refine (P1.out _ (bx_bel X0.out)).mono ?_
        rintro e w3 ⟨K, rfl, hb, hf⟩
        have X3 := Lib.hid (bx_below X0.out hb)
        have F3 := Lib.hid hf
        clear hb hf x0 x1 x2
        obtain ⟨x0, x1, _, x2⟩ := bx_s X3.out
        go_wp2_with fail
        with_reducible refine (P2.out _ (bx_bel X3.out)).mono ?_
        rintro e w4 ⟨K2, rfl, hb, hf⟩
        have X4 := Lib.hid (bx_below X3.out hb)
        obtain rfl := few_one F3.out hf
        clear hb hf x0 x1 x2
        obtain ⟨x0, x1, _, x2⟩ := bx_s X4.out
        go_wp2_with fail
        with_reducible refine (P3.out _ (bx_bel X4.out)).mono ?_
        rintro e w5 ⟨R, cr, E, ce, K3, i, j, rfl, hb, hf, k6, h1, h2, h3, h4, i1, i2, ok⟩
        have X5 := Lib.hid (bx_below X4.out hb)
        obtain rfl := few_one F3.out hf
        have CKK := Lib.hid (CK.out _ (bx_bel X5.out) K k6 i j R E cr ce h1 h2 h3 h4 i1 i2 ok)
        clear hb hf x0 x1 x2 h1 h2 h3 h4 i1 i2 ok k6
        obtain ⟨x0, x1, _, x2⟩ := bx_s X5.out
        go_wp2_with fail
        with_reducible refine (CKK.out).mono ?_
        rintro e w6 ⟨rfl, hb⟩
        have X6 := Lib.hid (bx_below X5.out hb)
        have HB := Lib.hid (bx_bel X6.out)
        clear hb x0 x1 x2
        go_wp2_with fail
        with_reducible refine (KN.out _).mono ?_
        rintro e w9 ⟨rfl, hb9⟩
        have HB9 := Lib.hid (bstep HB.out hb9)
        clear hb9
        go_wp2_with fail
        go_ret
        exact ⟨rfl, HB9.out⟩
    · exact fewest_err A c M p q w (vcode M) hv LO.out (fun W B => fewP_err A c M p q W _ (fun W2 B2 => comp_v A c M p q W2 (ml_in hM (bstep B B2)) ln' wd' hv)) (fun W B => rfew_v A c M p q W (ml_in hM B) ln' wd' hv) (fun W B => comp_v A c M p q W (ml_in hM B) ln' wd' hv)

end Go.Proofs.Ytefmlcojbfiehaa
