/-
  The contract of heard: what is heard of a pulse in a tick.
-/
import Derived.Test.YtlegalibjkeccaaSo7
import Derived.Test.YtlegalibjkeccaaScale2
namespace Go.Proofs.Ytlegalibjkeccaa
open Go.ChangeShapes Go.WideShapes Go.RowKit
open Sh
theorem first_bad8 (f : Nat → Bool) (n : Nat) : (∀ k, k < n → f k = true) ∨ ∃ k0, k0 < n ∧ f k0 = false ∧ ∀ k, k < k0 → f k = true := by
  induction n with
  | zero => exact Or.inl (fun k hk => absurd hk (Nat.not_lt_zero k))
  | succ n ih =>
    rcases ih with ih | ⟨k0, h1, h2, h3⟩
    · cases e : f n with
      | true => exact Or.inl (fun k hk => by
          by_cases c : k = n
          · rw [c, e]
          · exact ih k (by omega))
      | false => exact Or.inr ⟨n, by omega, e, ih⟩
    · exact Or.inr ⟨k0, by omega, h2, h3⟩
/-- the mean of n spans -/
def mnR8 (l h : Nat → Int) (n : Nat) : Sp.R := if (List.range n).all (fun k => Sp.vldB (l k) (h k)) = true then meanR (sm l n) (sm h n) 0 n else ((0, 0), 1)
theorem all_yes {f : Nat → Bool} {n : Nat} (h : ∀ k, k < n → f k = true) : (List.range n).all f = true := by
  rw [List.all_eq_true]
  exact fun k hk => h k (List.mem_range.1 hk)
theorem all_no {f : Nat → Bool} {n k : Nat} (hk : k < n) (h : f k = false) : ¬ (List.range n).all f = true := fun c => by
  rw [List.all_eq_true] at c
  have := c k (List.mem_range.2 hk)
  rw [h] at this
  cases this
theorem mean8_any (b off n cap : Nat) (l h : Nat → Int) (w : World) (r : Row w b off n l h) (hm : n ≤ 1000) :
    Calls Try.prog 62 #[.slice (some ⟨b, off, none⟩) n cap] w fun e w' => e = .returned (spr (mnR8 l h n)) ∧ Below w.heap.size w w' := by
  unfold mnR8
  rcases first_bad8 (fun k => Sp.vldB (l k) (h k)) n with v | ⟨k0, hk, nv, v⟩
  · rw [if_pos (all_yes v)]
    have bd1 := sm_bd (f := l) (k := n) (fun i hi => by have := Sp.vld_iff.1 (v i hi); omega)
    have bd2 := sm_bd (f := h) (k := n) (fun i hi => by have := Sp.vld_iff.1 (v i hi); omega)
    have T1 : TotC 74 (some ⟨b, off, none⟩) n cap (sm l n) (sm h n) 0 w := fun W B => total_ok b off n cap l h W (row_below r B) (by omega) v
    have S1 : Sm (sm l n) (n : Int) := ⟨by omega, by omega, by omega, by omega⟩
    have S2 : Sm (sm h n) (n : Int) := ⟨by omega, by omega, by omega, by omega⟩
    exact mean_any _ n cap _ _ 0 w w (Lib.hid T1) (Below.refl _ _) (by omega) (Lib.hid S1) (Lib.hid S2)
  · rw [if_neg (all_no hk nv)]
    have T1 : TotC 74 (some ⟨b, off, none⟩) n cap 0 0 1 w := fun W B => total_bad b off n cap k0 l h W (row_below r B) (by omega) hk v nv
    have S1 : Sm 0 (n : Int) := ⟨by omega, by omega, by omega, by omega⟩
    exact mean_any _ n cap 0 0 1 w w (Lib.hid T1) (Below.refl _ _) (by omega) (Lib.hid S1) (Lib.hid S1)
/-- what a panel's row in memory looks like, out of the row of its cells -/
theorem rowP_of {w : World} {base n cap : Nat} {g : Nat} {l : List P9} (h : w.ownsRow base 25 9 (.slice (some ⟨g, 0, none⟩) n cap) n (pcs l)) (hn : l.length = n) : RowP w g 0 n (fun k => l.getD k ((0, 0, 0), (0, 0, 0), (0, 0, 0))) := by
  have key : ∀ (l : List P9) (k : Nat), k < l.length → ∀ j, j < 9 → (pcs l)[k * 9 + j]? = (pcs9 (l.getD k ((0, 0, 0), (0, 0, 0), (0, 0, 0))))[j]? := by
    intro l
    induction l with
    | nil => intro k hk; exact absurd hk (Nat.not_lt_zero k)
    | cons t l ih =>
      intro k hk j hj
      have e : pcs (t :: l) = pcs9 t ++ pcs l := by simp [pcs]
      have e9 : (pcs9 t).length = 9 := rfl
      cases k with
      | zero =>
        rw [e, List.getElem?_append_left (by rw [e9]; omega), Nat.zero_mul, Nat.zero_add]
        rfl
      | succ k =>
        rw [e, List.getElem?_append_right (by rw [e9]; omega), e9, show (k + 1) * 9 + j - 9 = k * 9 + j by omega]
        exact ih k (by simpa using hk) j hj
  refine ⟨(h.lt g rfl).2, fun k hk => ?_⟩
  have cc : ∀ j, j < 9 → w.cell? ⟨g, 0 + k * 9 + j, none⟩ = (pcs9 (l.getD k ((0, 0, 0), (0, 0, 0), (0, 0, 0))))[j]? := fun j hj => by
    rw [Nat.zero_add, h.cellAt (k * 9 + j) (by omega), key l k (by omega) j hj]
  exact ⟨cc 0 (by decide), cc 1 (by decide), cc 2 (by decide), cc 3 (by decide), cc 4 (by decide), cc 5 (by decide), cc 6 (by decide), cc 7 (by decide), cc 8 (by decide)⟩
theorem row_of8 {w : World} {base n cap : Nat} {g : Nat} {l : List (Int × Int)} (h : w.ownsRow base 52 2 (.slice (some ⟨g, 0, none⟩) n cap) n (svs l)) (hn : l.length = n) : Row w g 0 n (fun k => (l.getD k (0, 0)).1) (fun k => (l.getD k (0, 0)).2) := by
  have key : ∀ (l : List (Int × Int)) (k : Nat), k < l.length → (svs l)[k * 2]? = some (.int .i64 (l.getD k (0, 0)).1) ∧ (svs l)[k * 2 + 1]? = some (.int .i64 (l.getD k (0, 0)).2) := by
    intro l
    induction l with
    | nil => intro k hk; exact absurd hk (Nat.not_lt_zero k)
    | cons t l ih =>
      intro k hk
      have e : svs (t :: l) = .int .i64 t.1 :: .int .i64 t.2 :: svs l := by simp [svs]
      cases k with
      | zero => rw [e]; exact ⟨rfl, rfl⟩
      | succ k =>
        rw [e, show (k + 1) * 2 = k * 2 + 1 + 1 by omega]
        exact ih k (by simpa using hk)
  refine ⟨(h.lt g rfl).2, fun k hk => ?_⟩
  rw [Nat.zero_add, h.cellAt (k * 2) (by omega), h.cellAt (k * 2 + 1) (by omega)]
  exact key l k (by omega)
theorem own_slice8 {w : World} {base : Nat} {e : TypeId} {s : Nat} {v : Value} {n : Nat} {xs : List Value} (h : w.ownsRow base e s v n xs) (h0 : 0 < n) : ∃ g cap, v = .slice (some ⟨g, 0, none⟩) n cap := by
  rcases h.2 with ⟨_, h1⟩ | ⟨g, cap, cur, e, _⟩
  · omega
  · exact ⟨g, cap, e⟩
/-- the parts of a panel, by number -/
def ptk (t : P9) (d : Int) (k : Nat) : P9 := (cutP d.toNat t).getD k ((0, 0, 0), (0, 0, 0), (0, 0, 0))
def ptn (d : Int) : Nat := 4 ^ d.toNat
theorem ptk_bd {t : P9} {d : Int} (h : BdT 64 t) (h0 : 0 ≤ d) (h3 : d ≤ 3) {k : Nat} (hk : k < ptn d) : BdT 512 (ptk t d k) := by
  have hm : ptk t d k ∈ cutP d.toNat t := by
    unfold ptk
    rw [List.getD_eq_getElem?_getD, List.getElem?_eq_getElem (by rw [cutP_len]; exact hk)]
    exact List.getElem_mem _
  refine (cutP_bd d.toNat h _ hm).mono ?_
  have : d.toNat = 0 ∨ d.toNat = 1 ∨ d.toNat = 2 ∨ d.toNat = 3 := by omega
  rcases this with e | e | e | e <;> rw [e] <;> decide
/-- what is heard -/
def shG (x : P3) (s d q : Int) (t : P9) : Sp.R := giR (tim (scl d) x) (inn s d q) (out8 s d q) (scl d) t
def hdR (x : P3) (s d : Int) (p : Pu) (tick : Int) : Sp.R :=
  if tick ≤ p.2.1 then ((0, 0), 0) else
  if gie (shG x s d (tick - p.2.1)) (ptk p.1 d) (ptn d) ≠ 0 then ((0, 0), gie (shG x s d (tick - p.2.1)) (ptk p.1 d) (ptn d)) else
  let m := mnR8 (fun k => ((gis (shG x s d (tick - p.2.1)) (ptk p.1 d) (ptn d)).getD k (0, 0)).1) (fun k => ((gis (shG x s d (tick - p.2.1)) (ptk p.1 d) (ptn d)).getD k (0, 0)).2) (ptn d)
  if m.2 ≠ 0 then ((0, 0), m.2) else scaleR m.1.1 m.1.2 p.2.2
set_option maxRecDepth 100000 in
set_option maxHeartbeats 2000000 in
theorem hrd_0 (x : P3) (s d : Int) (p : Pu) (tick : Int) (w : World) (h1 : tick ≤ p.2.1) : Calls Try.prog 49 #[micv x s d, puv p, .int .i64 tick] w fun e w' => e = .returned (spr ((0, 0), 0)) ∧ Below w.heap.size w w' := by
  go_enter Try.func49, Try.ntmps49
  go_wp2
  refine bodyPost_ret (v := spr ((0, 0), 0)) (by rw [results_cell_tmp rfl]; go_simp) rfl ⟨rfl, ?_⟩
  (repeat' (first | exact Below.refl _ _ | refine Below.setCell ?_ (by simp <;> omega) _ | refine balloc ?_ _ | refine Below.drew ?_ | refine bdrewN ?_ _))
set_option maxRecDepth 100000 in
set_option maxHeartbeats 2000000 in
theorem hrd_1 (x : P3) (s d : Int) (p : Pu) (tick : Int) (w : World) (c : P3) (i o k er : Int) (PV : Value → World → Prop) (PVb : Hid (∀ v W W', PV v W → Below W.heap.size W W' → PV v W')) (UV : Value → World → Prop) (h1 : decide (tick ≤ p.2.1) = false) (t1 : 0 ≤ tick) (t2 : tick ≤ 2000) (t3 : 0 ≤ p.2.1) (t4 : p.2.1 ≤ 1000) (PA : Hid (∀ W, Calls Try.prog 59 #[p9w p.1, .int .i64 d] W fun e w' => ∃ v, e = .returned (.tuple #[v, .int .i64 0]) ∧ PV v w' ∧ Below W.heap.size W w')) (SH : Hid (∀ W, Calls Try.prog 60 #[micv x s d, .int .i64 (tick - p.2.1)] W fun e w' => e = .returned (shv c i o k) ∧ Below W.heap.size W w')) (SN : Hid (∀ v W, PV v W → Calls Try.prog 61 #[shv c i o k, v] W fun e w' => ∃ u, e = .returned (.tuple #[u, .int .i64 er]) ∧ UV u w' ∧ Below W.heap.size W w')) (z : (er != 0) = true) : Calls Try.prog 49 #[micv x s d, puv p, .int .i64 tick] w fun e w' => e = .returned (spr ((0, 0), er)) ∧ Below w.heap.size w w' := by
  have M := Lib.hid (ownMic_alloc (ownMic_alloc (ownMic_new w x s d 44) (pub p 27)) (.cells #[.int .i64 0, .int .i64 0] 52))
  have P := Lib.hid (ownPu_alloc (ownPu_new (w.alloc (micb x s d 44)) p 27) (.cells #[.int .i64 0, .int .i64 0] 52))
  have R := Lib.hid (pair_new ((w.alloc (micb x s d 44)).alloc (pub p 27)) 0 0 52)
  simp only [World.size_alloc] at P R
  go_enter Try.func49, Try.ntmps49
  go_wp2_with fail
  refine (PA.out _).mono ?_
  rintro e w1 ⟨v, rfl, hpv, hb1⟩
  have PV1 := Lib.hid hpv
  clear hpv
  obtain ⟨⟨m0, m1, m2, m3, m4⟩, ml⟩ := ownMic_below M.out hb1
  obtain ⟨⟨d0, d1, d2, d3, d4, d5, d6, d7, d8, d9, d10⟩, dl⟩ := ownPu_below P.out hb1
  go_wp2_with fail
  refine (SH.out _).mono ?_
  rintro e w2 ⟨rfl, hb2⟩
  have PV2 := Lib.hid (PVb.out _ _ _ PV1.out hb2)
  go_wp2_with fail
  refine (SN.out _ _ PV2.out).mono ?_
  rintro e w3 ⟨u, rfl, huv, hb3⟩
  have UV3 := Lib.hid huv
  clear huv m0 m1 m2 m3 m4 ml d0 d1 d2 d3 d4 d5 d6 d7 d8 d9 d10 dl
  obtain ⟨g0, g1, g2, g3, gl⟩ := pair_below (pair_below (pair_below R.out hb1) hb2) hb3
  go_wp2
  refine bodyPost_ret (v := spr ((0, 0), er)) (by rw [results_cell_tmp rfl]; go_simp) rfl ⟨rfl, ?_⟩
  (repeat' (first | exact Below.refl _ _ | refine bstep ?_ hb3 | refine bstep ?_ hb2 | refine bstep ?_ hb1 | refine Below.setCell ?_ (by simp <;> omega) _ | refine balloc ?_ _ | refine Below.drew ?_ | refine bdrewN ?_ _))
set_option maxRecDepth 100000 in
set_option maxHeartbeats 2000000 in
theorem hrd_2 (x : P3) (s d : Int) (p : Pu) (tick : Int) (w : World) (c : P3) (i o k : Int) (m : Sp.R) (PV : Value → World → Prop) (PVb : Hid (∀ v W W', PV v W → Below W.heap.size W W' → PV v W')) (UV : Value → World → Prop) (h1 : decide (tick ≤ p.2.1) = false) (t1 : 0 ≤ tick) (t2 : tick ≤ 2000) (t3 : 0 ≤ p.2.1) (t4 : p.2.1 ≤ 1000) (PA : Hid (∀ W, Calls Try.prog 59 #[p9w p.1, .int .i64 d] W fun e w' => ∃ v, e = .returned (.tuple #[v, .int .i64 0]) ∧ PV v w' ∧ Below W.heap.size W w')) (SH : Hid (∀ W, Calls Try.prog 60 #[micv x s d, .int .i64 (tick - p.2.1)] W fun e w' => e = .returned (shv c i o k) ∧ Below W.heap.size W w')) (SN : Hid (∀ v W, PV v W → Calls Try.prog 61 #[shv c i o k, v] W fun e w' => ∃ u, e = .returned (.tuple #[u, .int .i64 0]) ∧ UV u w' ∧ Below W.heap.size W w')) (MN : Hid (∀ u W, UV u W → Calls Try.prog 62 #[u] W fun e w' => e = .returned (spr m) ∧ Below W.heap.size W w')) (z : (m.2 != 0) = true) : Calls Try.prog 49 #[micv x s d, puv p, .int .i64 tick] w fun e w' => e = .returned (spr ((0, 0), m.2)) ∧ Below w.heap.size w w' := by
  have M := Lib.hid (ownMic_alloc (ownMic_alloc (ownMic_new w x s d 44) (pub p 27)) (.cells #[.int .i64 0, .int .i64 0] 52))
  have P := Lib.hid (ownPu_alloc (ownPu_new (w.alloc (micb x s d 44)) p 27) (.cells #[.int .i64 0, .int .i64 0] 52))
  have R := Lib.hid (pair_new ((w.alloc (micb x s d 44)).alloc (pub p 27)) 0 0 52)
  simp only [World.size_alloc] at P R
  go_enter Try.func49, Try.ntmps49
  go_wp2_with fail
  refine (PA.out _).mono ?_
  rintro e w1 ⟨v, rfl, hpv, hb1⟩
  have PV1 := Lib.hid hpv
  clear hpv
  obtain ⟨⟨m0, m1, m2, m3, m4⟩, ml⟩ := ownMic_below M.out hb1
  obtain ⟨⟨d0, d1, d2, d3, d4, d5, d6, d7, d8, d9, d10⟩, dl⟩ := ownPu_below P.out hb1
  go_wp2_with fail
  refine (SH.out _).mono ?_
  rintro e w2 ⟨rfl, hb2⟩
  have PV2 := Lib.hid (PVb.out _ _ _ PV1.out hb2)
  go_wp2_with fail
  refine (SN.out _ _ PV2.out).mono ?_
  rintro e w3 ⟨u, rfl, huv, hb3⟩
  have UV3 := Lib.hid huv
  clear huv m0 m1 m2 m3 m4 ml d0 d1 d2 d3 d4 d5 d6 d7 d8 d9 d10 dl
  obtain ⟨g0, g1, g2, g3, gl⟩ := pair_below (pair_below (pair_below R.out hb1) hb2) hb3
  go_wp2_with fail
  refine (MN.out _ _ UV3.out).mono ?_
  rintro e w4 ⟨rfl, hb4⟩
  obtain ⟨e0, e1, e2, e3, el⟩ := pair_below (pair_below (pair_below (pair_below R.out hb1) hb2) hb3) hb4
  clear g0 g1 g2 g3 gl
  go_wp2
  refine bodyPost_ret (v := spr ((0, 0), m.2)) (by rw [results_cell_tmp rfl]; go_simp) rfl ⟨rfl, ?_⟩
  (repeat' (first | exact Below.refl _ _ | refine bstep ?_ hb4 | refine bstep ?_ hb3 | refine bstep ?_ hb2 | refine bstep ?_ hb1 | refine Below.setCell ?_ (by simp <;> omega) _ | refine balloc ?_ _ | refine Below.drew ?_ | refine bdrewN ?_ _))
set_option maxRecDepth 100000 in
set_option maxHeartbeats 2000000 in
theorem hrd_3 (x : P3) (s d : Int) (p : Pu) (tick : Int) (w : World) (c : P3) (i o k : Int) (m r : Sp.R) (PV : Value → World → Prop) (PVb : Hid (∀ v W W', PV v W → Below W.heap.size W W' → PV v W')) (UV : Value → World → Prop) (h1 : decide (tick ≤ p.2.1) = false) (t1 : 0 ≤ tick) (t2 : tick ≤ 2000) (t3 : 0 ≤ p.2.1) (t4 : p.2.1 ≤ 1000) (PA : Hid (∀ W, Calls Try.prog 59 #[p9w p.1, .int .i64 d] W fun e w' => ∃ v, e = .returned (.tuple #[v, .int .i64 0]) ∧ PV v w' ∧ Below W.heap.size W w')) (SH : Hid (∀ W, Calls Try.prog 60 #[micv x s d, .int .i64 (tick - p.2.1)] W fun e w' => e = .returned (shv c i o k) ∧ Below W.heap.size W w')) (SN : Hid (∀ v W, PV v W → Calls Try.prog 61 #[shv c i o k, v] W fun e w' => ∃ u, e = .returned (.tuple #[u, .int .i64 0]) ∧ UV u w' ∧ Below W.heap.size W w')) (MN : Hid (∀ u W, UV u W → Calls Try.prog 62 #[u] W fun e w' => e = .returned (spr m) ∧ Below W.heap.size W w')) (SC : Hid (∀ W, Calls Try.prog 63 #[spv m.1.1 m.1.2, .int .i64 p.2.2] W fun e w' => e = .returned (spr r) ∧ Below W.heap.size W w')) (z : m.2 = 0) : Calls Try.prog 49 #[micv x s d, puv p, .int .i64 tick] w fun e w' => e = .returned (spr r) ∧ Below w.heap.size w w' := by
  obtain ⟨⟨ma, mb⟩, mc⟩ := m
  have z : mc = 0 := z
  subst z
  dsimp only at *
  have M := Lib.hid (ownMic_alloc (ownMic_alloc (ownMic_new w x s d 44) (pub p 27)) (.cells #[.int .i64 0, .int .i64 0] 52))
  have P := Lib.hid (ownPu_alloc (ownPu_new (w.alloc (micb x s d 44)) p 27) (.cells #[.int .i64 0, .int .i64 0] 52))
  have R := Lib.hid (pair_new ((w.alloc (micb x s d 44)).alloc (pub p 27)) 0 0 52)
  simp only [World.size_alloc] at P R
  go_enter Try.func49, Try.ntmps49
  go_wp2_with fail
  refine (PA.out _).mono ?_
  rintro e w1 ⟨v, rfl, hpv, hb1⟩
  have PV1 := Lib.hid hpv
  clear hpv
  obtain ⟨⟨m0, m1, m2, m3, m4⟩, ml⟩ := ownMic_below M.out hb1
  obtain ⟨⟨d0, d1, d2, d3, d4, d5, d6, d7, d8, d9, d10⟩, dl⟩ := ownPu_below P.out hb1
  go_wp2_with fail
  refine (SH.out _).mono ?_
  rintro e w2 ⟨rfl, hb2⟩
  have PV2 := Lib.hid (PVb.out _ _ _ PV1.out hb2)
  go_wp2_with fail
  refine (SN.out _ _ PV2.out).mono ?_
  rintro e w3 ⟨u, rfl, huv, hb3⟩
  have UV3 := Lib.hid huv
  clear huv m0 m1 m2 m3 m4 ml d0 d1 d2 d3 d4 d5 d6 d7 d8 d9 d10 dl
  obtain ⟨g0, g1, g2, g3, gl⟩ := pair_below (pair_below (pair_below R.out hb1) hb2) hb3
  go_wp2_with fail
  refine (MN.out _ _ UV3.out).mono ?_
  rintro e w4 ⟨rfl, hb4⟩
  obtain ⟨e0, e1, e2, e3, el⟩ := pair_below (pair_below (pair_below (pair_below R.out hb1) hb2) hb3) hb4
  clear g0 g1 g2 g3 gl
  obtain ⟨⟨d0, d1, d2, d3, d4, d5, d6, d7, d8, d9, d10⟩, dl⟩ := ownPu_below (ownPu_below (ownPu_below (ownPu_below P.out hb1) hb2) hb3) hb4
  have E0 := Lib.hid (show Pair w4 (w.heap.size + 1 + 1) 0 0 from ⟨e0, e1, e2, e3, el⟩)
  go_wp2_with fail
  refine (SC.out _).mono ?_
  rintro e w5 ⟨rfl, hb5⟩
  obtain ⟨f0, f1, f2, f3, fl⟩ := pair_below (pair_alloc E0.out (.cells #[.int .i64 ma, .int .i64 mb] 52)) hb5
  clear e0 e1 e2 e3 el d0 d1 d2 d3 d4 d5 d6 d7 d8 d9 d10 dl
  go_wp2
  refine bodyPost_ret (v := spr r) (by rw [results_cell_tmp rfl]; go_simp) rfl ⟨rfl, ?_⟩
  (repeat' (first | exact Below.refl _ _ | refine bstep ?_ hb5 | refine bstep ?_ hb4 | refine bstep ?_ hb3 | refine bstep ?_ hb2 | refine bstep ?_ hb1 | refine Below.setCell ?_ (by simp <;> omega) _ | refine balloc ?_ _ | refine Below.drew ?_ | refine bdrewN ?_ _))
theorem hrd_any (x : P3) (s d : Int) (p : Pu) (tick : Int) (w : World) (hp : pucode p = 0) (hx : BdP 256 x) (s1 : 1 ≤ s) (s2 : s ≤ 16) (d1 : 0 ≤ d) (d2 : d ≤ 3) (t1 : 0 ≤ tick) (t2 : tick ≤ 2000) : Calls Try.prog 49 #[micv x s d, puv p, .int .i64 tick] w fun e w' => e = .returned (spr (hdR x s d p tick)) ∧ Below w.heap.size w w' := by
  obtain ⟨hb, hpc, ⟨a1, a2⟩, _⟩ := pucode_ok hp
  unfold hdR
  by_cases h1 : tick ≤ p.2.1
  · rw [if_pos h1]
    exact hrd_0 x s d p tick w h1
  rw [if_neg h1]
  have hct : ctcode p.1 d = 0 := by
    unfold ctcode
    rw [if_pos hpc, if_pos (rngB_iff.2 ⟨d1, d2⟩)]
  have hlen : (cutP d.toNat p.1).length = ptn d := cutP_len _ _
  have h0 : 0 < ptn d := Nat.pow_pos (by decide)
  have hle : ptn d ≤ 64 := by
    unfold ptn
    have : d.toNat = 0 ∨ d.toNat = 1 ∨ d.toNat = 2 ∨ d.toNat = 3 := by omega
    rcases this with e | e | e | e <;> rw [e] <;> decide
  have PA : Hid (∀ W, Calls Try.prog 59 #[p9w p.1, .int .i64 d] W fun e w' => ∃ v, e = .returned (.tuple #[v, .int .i64 0]) ∧ w'.ownsRow 0 25 9 v (ptn d) (pcs (cutP d.toNat p.1)) ∧ Below W.heap.size W w') := Lib.hid (fun W => (prt_any p.1 d W).mono fun e w' h => by
    obtain ⟨v, k1, k2, k3⟩ := h
    rw [hct] at k1
    rw [if_pos hct, hlen] at k2
    exact ⟨v, k1, own_base9 k2 (Nat.zero_le _), k3⟩)
  have PVb : Hid (∀ v W W', World.ownsRow W 0 25 9 v (ptn d) (pcs (cutP d.toNat p.1)) → Below W.heap.size W W' → World.ownsRow W' 0 25 9 v (ptn d) (pcs (cutP d.toNat p.1))) := Lib.hid (fun v W W' h b => own_below9 h b)
  have scl8 : 1 ≤ scl d ∧ scl d ≤ 8 := by
    unfold scl
    have : d.toNat = 0 ∨ d.toNat = 1 ∨ d.toNat = 2 ∨ d.toNat = 3 := by omega
    rcases this with e | e | e | e <;> rw [e] <;> decide
  have SH := Lib.hid (fun W => shell_any x s d (tick - p.2.1) W hx s1 s2 d1 d2 (by omega) (by omega))
  have SN : Hid (∀ v W, World.ownsRow W 0 25 9 v (ptn d) (pcs (cutP d.toNat p.1)) → Calls Try.prog 61 #[shv (tim (scl d) x) (inn s d (tick - p.2.1)) (out8 s d (tick - p.2.1)) (scl d), v] W fun e w' => ∃ u, e = .returned (.tuple #[u, .int .i64 (gie (shG x s d (tick - p.2.1)) (ptk p.1 d) (ptn d))]) ∧ (gie (shG x s d (tick - p.2.1)) (ptk p.1 d) (ptn d) = 0 → w'.ownsRow 0 52 2 u (ptn d) (svs (gis (shG x s d (tick - p.2.1)) (ptk p.1 d) (ptn d)))) ∧ Below W.heap.size W w') := Lib.hid (fun v W ho => by
    obtain ⟨g, cap, rfl⟩ := own_slice8 ho h0
    refine (spans_row (tim (scl d) x) (inn s d (tick - p.2.1)) (out8 s d (tick - p.2.1)) (scl d) g 0 (ptn d) cap (ptk p.1 d) (shG x s d (tick - p.2.1)) W (rowP_of ho hlen) hle (Lib.hid fun k hk W' => given_any _ _ _ _ (ptk p.1 d k) W' ((ptk_bd hb d1 d2 hk).mono (by decide)) ((tim_bd (K := 8) (by omega) (by omega) hx).mono (by decide)))).mono fun e w' h => ?_
    obtain ⟨u, k1, k2, k3⟩ := h
    exact ⟨u, k1, fun z => own_base9 (k2 z) (Nat.zero_le _), k3⟩)
  have hd : decide (tick ≤ p.2.1) = false := decide_eq_false h1
  by_cases z : gie (shG x s d (tick - p.2.1)) (ptk p.1 d) (ptn d) = 0
  · rw [if_neg (fun c => c z)]
    rw [z] at SN
    have MN : Hid (∀ u W, ((0 : Int) = 0 → World.ownsRow W 0 52 2 u (ptn d) (svs (gis (shG x s d (tick - p.2.1)) (ptk p.1 d) (ptn d)))) → Calls Try.prog 62 #[u] W fun e w' => e = .returned (spr (mnR8 (fun k => ((gis (shG x s d (tick - p.2.1)) (ptk p.1 d) (ptn d)).getD k (0, 0)).1) (fun k => ((gis (shG x s d (tick - p.2.1)) (ptk p.1 d) (ptn d)).getD k (0, 0)).2) (ptn d))) ∧ Below W.heap.size W w') := Lib.hid (fun u W ho => by
      have ho := ho rfl
      obtain ⟨g, cap, rfl⟩ := own_slice8 ho h0
      exact mean8_any g 0 (ptn d) cap _ _ W (row_of8 ho (gis_len _ _ _)) (by omega))
    dsimp only
    generalize mnR8 (fun k => ((gis (shG x s d (tick - p.2.1)) (ptk p.1 d) (ptn d)).getD k (0, 0)).1) (fun k => ((gis (shG x s d (tick - p.2.1)) (ptk p.1 d) (ptn d)).getD k (0, 0)).2) (ptn d) = m at *
    by_cases y : m.2 = 0
    · rw [if_neg (fun c => c y)]
      exact hrd_3 x s d p tick w _ _ _ _ m _ _ PVb _ hd t1 t2 a1 a2 PA SH SN MN (Lib.hid fun W => scale_any m.1.1 m.1.2 p.2.2 W) y
    · rw [if_pos y]
      exact hrd_2 x s d p tick w _ _ _ _ m _ PVb _ hd t1 t2 a1 a2 PA SH SN MN (bne_iff_ne.2 y)
  · rw [if_pos z]
    exact hrd_1 x s d p tick w _ _ _ _ _ _ PVb _ hd t1 t2 a1 a2 PA SH SN (bne_iff_ne.2 z)

end Go.Proofs.Ytlegalibjkeccaa
