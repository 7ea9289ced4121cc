/-
  Fractions in lowest terms, and lists of them in memory; the contracts of minus and leftOf.
-/
import Derived.Test.YtllonfaogbdbnaaCrP2
namespace Go.Proofs.Ytllonfaogbdbnaa
open Go.ChangeShapes Go.WideShapes Go.RowKit
open Cr
theorem ratq_abs {n d : Int} (h : d ≠ 0) : (ratq n d).1.natAbs = n.natAbs / Nat.gcd n.natAbs d.natAbs ∧ (ratq n d).2.natAbs = d.natAbs / Nat.gcd n.natAbs d.natAbs ∧ 1 ≤ (ratq n d).2 := by
  have g1 := gI_pos (n := n) h
  have gn : (gI n d).natAbs = Nat.gcd n.natAbs d.natAbs := by unfold gI; exact Int.natAbs_natCast _
  have gle := Nat.gcd_le_right (n := d.natAbs) n.natAbs (by omega)
  have q1 : 1 ≤ d.natAbs / Nat.gcd n.natAbs d.natAbs := Nat.div_pos gle (by omega)
  by_cases hd : d < 0
  · rw [ratq_neg hd]
    refine ⟨?_, ?_, ?_⟩
    · rw [← gn, ← Int.natAbs_neg (gI n d)]; exact Int.natAbs_tdiv _ _
    · rw [← gn, ← Int.natAbs_neg (gI n d)]; exact Int.natAbs_tdiv _ _
    · show 1 ≤ d.tdiv (-gI n d)
      rw [Int.tdiv_neg, ← Int.neg_tdiv, Int.tdiv_eq_ediv_of_nonneg (by omega)]
      exact Int.le_ediv_of_mul_le (by omega) (by omega)
  · rw [ratq_pos hd]
    refine ⟨?_, ?_, ?_⟩
    · rw [← gn]; exact Int.natAbs_tdiv _ _
    · rw [← gn]; exact Int.natAbs_tdiv _ _
    · show 1 ≤ d.tdiv (gI n d)
      rw [Int.tdiv_eq_ediv_of_nonneg (by omega)]
      exact Int.le_ediv_of_mul_le (by omega) (by omega)
theorem ratq_low {n d : Int} (h : d ≠ 0) : gI (ratq n d).1 (ratq n d).2 = 1 := by
  obtain ⟨h1, h2, _⟩ := ratq_abs (n := n) h
  unfold gI
  rw [h1, h2, Nat.gcd_div_gcd_div_gcd_of_pos_right (by omega)]
  rfl
theorem ratq_zero' {d : Int} (h : d ≠ 0) : ratq 0 d = (0, 1) := by
  have g : gI 0 d = d.natAbs := by
    unfold gI
    rw [show (0 : Int).natAbs = 0 from rfl, Nat.gcd_zero_left]
  by_cases hd : d < 0
  · rw [ratq_neg hd, g, Int.zero_tdiv, show -((d.natAbs : Nat) : Int) = d by omega, Int.tdiv_self h]
  · rw [ratq_pos hd, g, Int.zero_tdiv, show ((d.natAbs : Nat) : Int) = d by omega, Int.tdiv_self h]
theorem ratq_bd2 {n d N E : Int} (h : d ≠ 0) (n1 : -N ≤ n) (n2 : n ≤ N) (d1 : -E ≤ d) (d2 : d ≤ E) : -N ≤ (ratq n d).1 ∧ (ratq n d).1 ≤ N ∧ 1 ≤ (ratq n d).2 ∧ (ratq n d).2 ≤ E := by
  obtain ⟨h1, h2, h3⟩ := ratq_abs (n := n) h
  have a := Nat.div_le_self n.natAbs (Nat.gcd n.natAbs d.natAbs)
  have b := Nat.div_le_self d.natAbs (Nat.gcd n.natAbs d.natAbs)
  omega
theorem gI_sub {p q a : Int} (h : gI a q = 1) : gI (p * q - a) q = 1 := by
  have e : ∀ x y : Int, gI x y = (Int.gcd x y : Nat) := fun _ _ => rfl
  rw [e] at h ⊢
  have d1 := Int.gcd_dvd_left (p * q - a) q
  have d2 := Int.gcd_dvd_right (p * q - a) q
  have d3 : ((Int.gcd (p * q - a) q : Nat) : Int) ∣ a := by
    have := Int.dvd_sub (Int.dvd_mul_of_dvd_right (b := p) d2) d1
    rwa [show p * q - (p * q - a) = a by omega] at this
  have d4 := Int.dvd_coe_gcd d3 d2
  rw [h] at d4
  have := Int.le_of_dvd (by decide) d4
  have g0 : 0 ≤ ((Int.gcd (p * q - a) q : Nat) : Int) := by omega
  rcases Int.lt_or_le 0 ((Int.gcd (p * q - a) q : Nat) : Int) with hp | hz
  · omega
  · have hz : ((Int.gcd (p * q - a) q : Nat) : Int) = 0 := by omega
    rw [hz] at d4
    have := Int.zero_dvd.1 d4
    omega
/-- a whole number less a fraction -/
def mns (p : Int) (r : Int × Int) : Int × Int := (p * r.2 - r.1, r.2)
theorem mns_low {p : Int} {r : Int × Int} (h : gI r.1 r.2 = 1) (hq : 1 ≤ r.2) : ratq (p * r.2 - r.1) r.2 = mns p r := (rat_self hq).2 (gI_sub h)
/-- the element i of the residual times x, by the first k columns, times the minor -/
def lsum (M : List (List Int)) (rows cols : List Int) (i : Int) (x : List Int) (k : Nat) : Int := ps (fun j => bord M rows cols i j * at_ x j) k
theorem lsum_bd {w : World} {A R C : Option Addr} {n m K : Nat} {M : List (List Int)} {rows cols x : List Int} (h : ChS w A n m M R C K rows cols) {i : Int} (hi : 0 ≤ i ∧ i < n) (bx : ∀ k, k < m → -1000 ≤ at_ x k ∧ at_ x k ≤ 1000) {k : Nat} (hk : k ≤ m) :
    -4320000000000000000 ≤ lsum M rows cols i x k ∧ lsum M rows cols i x k ≤ 4320000000000000000 := by
  have b := ps_bd (f := fun j => bord M rows cols i j * at_ x j) (A := 720000000000000000) (n := k) (fun j hj => by
    have h1 := bord6 h (i := i) (j := (j : Int)) hi (by omega)
    have h2 := bx j (by omega)
    exact Cr.mul_bd h1.1 h1.2.1 h2.1 h2.2)
  have := h.cho.hm
  have : (k : Int) ≤ 6 := by omega
  unfold lsum
  omega
theorem lsum_zero {M : List (List Int)} {rows cols x : List Int} {i : Int} : ∀ {k : Nat}, (∀ j, j < k → bord M rows cols i (j : Int) = 0) → lsum M rows cols i x k = 0
  | 0, _ => rfl
  | k + 1, h => by
    show lsum M rows cols i x k + bord M rows cols i (k : Int) * at_ x k = 0
    rw [lsum_zero (k := k) fun j hj => h j (by omega), h k (by omega)]
    simp
/-- the element i of the residual times x -/
def lft (M : List (List Int)) (rows cols : List Int) (i : Int) (x : List Int) : Int × Int := ratq (lsum M rows cols i x (rw_ M 0).length) (detR M rows cols)
theorem lft_bd {w : World} {A R C : Option Addr} {M : List (List Int)} {rows cols x : List Int} (h : ChS w A M.length (rw_ M 0).length M R C rows.length rows cols) (dz : detR M rows cols ≠ 0) {i : Int} (hi : 0 ≤ i ∧ i < M.length) (bx : ∀ k, k < (rw_ M 0).length → -1000 ≤ at_ x k ∧ at_ x k ≤ 1000) :
    -4320000000000000000 ≤ (lft M rows cols i x).1 ∧ (lft M rows cols i x).1 ≤ 4320000000000000000 ∧ 1 ≤ (lft M rows cols i x).2 ∧ (lft M rows cols i x).2 ≤ 1200000000000 := by
  have sb := lsum_bd h hi bx (Nat.le_refl _)
  by_cases z : ∀ j, j < (rw_ M 0).length → bord M rows cols i (j : Int) = 0
  · unfold lft
    rw [lsum_zero z, ratq_zero' dz]
    decide
  · have : ∃ j, j < (rw_ M 0).length ∧ bord M rows cols i (j : Int) ≠ 0 := by
      refine Classical.byContradiction fun c => z fun j hj => ?_
      refine Classical.byContradiction fun d => c ⟨j, hj, d⟩
    obtain ⟨j, hj, nz⟩ := this
    have k5 := (bord6 h (i := i) (j := (j : Int)) hi (by omega)).2.2 nz
    have d5 := (detC6 h).2.2 k5
    exact ratq_bd2 dz sb.1 sb.2 d5.1 d5.2
/-- an element of Fast -/
def fsr (M : List (List Int)) (rows cols : List Int) (i : Nat) (x : List Int) : Int × Int := mns (ip (rw_ M i) x (rw_ M 0).length) (lft M rows cols i x)
def rat_ (l : List (Int × Int)) (k : Nat) : Int × Int := l.getD k (0, 0)
/-- a list of fractions in memory -/
def RLs (w : World) (A : Option Addr) (l : List (Int × Int)) : Prop :=
  ∀ k, k < l.length → ∃ b o, A = some ⟨b, o, none⟩ ∧ b < w.heap.size ∧ w.cell? ⟨b, o + k * 2, none⟩ = some (.int .i64 (rat_ l k).1) ∧ w.cell? ⟨b, o + k * 2 + 1, none⟩ = some (.int .i64 (rat_ l k).2)
theorem rls_in {w w1 : World} {A : Option Addr} {l : List (Int × Int)} (h : RLs w A l) (hb : Below w.heap.size w w1) : RLs w1 A l := fun k hk => by
  obtain ⟨b, o, e, hlt, h0, h1⟩ := h k hk
  exact ⟨b, o, e, Nat.lt_of_lt_of_le hlt hb.size, (hb.cell (p := ⟨b, o + k * 2, none⟩) hlt).trans h0, (hb.cell (p := ⟨b, o + k * 2 + 1, none⟩) hlt).trans h1⟩
theorem rls_nil (w : World) (A : Option Addr) : RLs w A [] := fun k hk => absurd hk (Nat.not_lt_zero k)
/-- the cells of the fractions -/
def rvs (l : List (Int × Int)) : List Value := l.flatMap fun r => [.int .i64 r.1, .int .i64 r.2]
theorem rvs_app (l r : List (Int × Int)) : rvs l ++ rvs r = rvs (l ++ r) := by unfold rvs; rw [List.flatMap_append]
theorem rvs_len : ∀ (l : List (Int × Int)), (rvs l).length = l.length * 2
  | [] => rfl
  | r :: l => by
    have := rvs_len l
    unfold rvs at *
    simp only [List.flatMap_cons, List.length_append, List.length_cons, List.length_nil, this]
    omega
theorem rvs_at : ∀ (l : List (Int × Int)) (k : Nat), k < l.length → (rvs l)[k * 2]? = some (.int .i64 (rat_ l k).1) ∧ (rvs l)[k * 2 + 1]? = some (.int .i64 (rat_ l k).2)
  | [], k, h => absurd h (Nat.not_lt_zero k)
  | r :: l, 0, _ => ⟨rfl, rfl⟩
  | r :: l, k + 1, h => by
    have := rvs_at l k (by simpa using h)
    have e : rvs (r :: l) = .int .i64 r.1 :: .int .i64 r.2 :: rvs l := rfl
    rw [e, show (k + 1) * 2 = k * 2 + 1 + 1 by omega]
    exact this
/-- a list of fractions of the call's own, in blocks from base on -/
abbrev OR (w : World) (base : Nat) (v : Value) (l : List (Int × Int)) : Prop := w.ownsRow base 46 2 v l.length (rvs l)
theorem or_nil (w : World) (base : Nat) : OR w base (.slice none 0 0) [] := World.ownsRow_nil w base _ _
theorem or_slice {w : World} {base : Nat} {v : Value} {l : List (Int × Int)} (h : OR w base v l) : ∃ A c, v = .slice A l.length c := by
  rcases h.2 with ⟨e, e0⟩ | ⟨g, cap, cur, e, hb, _, hl, _⟩
  · exact ⟨none, 0, by rw [e0]; exact e⟩
  · exact ⟨_, cap, e⟩
theorem or_il {w : World} {base : Nat} {A : Option Addr} {n c : Nat} {l : List (Int × Int)} (h : OR w base (.slice A n c) l) : RLs w A l := fun k hk => by
  rcases h.2 with ⟨e, e0⟩ | ⟨g, cap, cur, e, hb, hg, hl, hm, hs, ht⟩
  · omega
  · injection e with e1 e2 e3
    subst e1
    have z := h.cells (g := g) rfl
    have a0 := z (k * 2) _ (rvs_at l k hk).1
    have a1 := z (k * 2 + 1) _ (rvs_at l k hk).2
    have ea : ∀ j, (⟨g, 0, none⟩ : Addr).add j = ⟨g, 0 + j, none⟩ := fun j => by
      unfold Addr.add
      split
      · rename_i e; subst e; rfl
      · rfl
    rw [ea] at a0 a1
    exact ⟨g, 0, rfl, (Array.getElem?_eq_some_iff.1 hg).1, a0, by rw [Nat.add_assoc]; exact a1⟩
theorem or_below {w w1 : World} {base B : Nat} {v : Value} {l : List (Int × Int)} (h : OR w base v l) (hb : Below w.heap.size w w1) (hB : B ≤ base) : OR w1 B v l := by
  refine ⟨h.1, ?_⟩
  rcases h.2 with hn | ⟨g, cap, cur, rfl, hg, hgg, rest⟩
  · exact .inl hn
  · exact .inr ⟨g, cap, cur, rfl, by omega, by rw [hb.block g (Array.getElem?_eq_some_iff.1 hgg).1]; exact hgg, rest⟩
theorem infoR : (Try.prog.info? 46).map (fun i => (i.zero, i.size, i.bytes)) = some (some (.agg #[.int .i64 0, .int .i64 0]), 2, 16) := by kernel_rfl
theorem infoR' : ∃ i, Try.prog.info? 46 = some i ∧ i.zero = some (.agg #[.int .i64 0, .int .i64 0]) ∧ i.size = 2 ∧ i.bytes = 16 := by
  have h := infoR
  cases e : Try.prog.info? 46 with
  | none => rw [e] at h; cases h
  | some i => rw [e] at h; simp at h; exact ⟨i, rfl, h.1, h.2.1, h.2.2⟩
/-- an append of one fraction to a list of the call's own -/
theorem appR {w : World} (base : Nat) (ty : TypeId) (v : Value) (xs : List (Int × Int)) (hown : OR w base v xs) (hbase : base ≤ w.heap.size) (ad : Addr) (c : Nat) (r : Int × Int) (h : ∀ j u, (rvs [r])[j]? = some u → w.cell? (ad.add j) = some u) (hn : xs.length ≤ 100000) :
    ∃ A' c' w', (Builtin.append_ #[50, 50] ty #[v, .slice (some ad) 1 c]).run Try.prog w = .ok (.slice A' (xs.length + 1) c') w' ∧ OR w' base (.slice A' (xs.length + 1) c') (xs ++ [r]) ∧ w.grownBy w' v.ownBlock := by
  obtain ⟨i, hi, z1, z2, z3⟩ := infoR'
  have hu : Try.prog.underlying 50 = some (.slice 46) := Try.underlying50
  obtain ⟨v', w', h1, h2, h3, _, _⟩ := run_append_own_at (P := Try.prog) w base 50 ty 46 i _ 2 16 hu hi z1 z2 z3 rfl (by decide) v xs.length (rvs xs) hown ad 1 c (rvs [r]) rfl h (by intro u hu; simp [rvs] at hu; rcases hu with rfl | rfl <;> rfl) (by unfold maxLen; omega) (by omega) hbase
  have h2 : OR w' base v' (xs ++ [r]) := by
    show w'.ownsRow base 46 2 v' (xs ++ [r]).length (rvs (xs ++ [r]))
    rw [List.length_append, ← rvs_app]; exact h2
  obtain ⟨A', c', rfl⟩ := or_slice h2
  rw [List.length_append] at h1 h2
  exact ⟨A', c', w', h1, h2, h3⟩
theorem rone_new (w : World) (r : Int × Int) : ∀ j u, (rvs [r])[j]? = some u → (w.alloc (rtc r)).cell? ((⟨w.heap.size, 0, none⟩ : Addr).add j) = some u := by
  intro j u hu
  match j, hu with
  | 0, hu =>
    have : u = .int .i64 r.1 := by simp [rvs] at hu; exact hu.symm
    subst this
    show (w.alloc (rtc r)).cell? ⟨w.heap.size, 0, none⟩ = _
    go_simp
  | 1, hu =>
    have : u = .int .i64 r.2 := by simp [rvs] at hu; exact hu.symm
    subst this
    show (w.alloc (rtc r)).cell? ⟨w.heap.size, 1, none⟩ = _
    go_simp
theorem wpR {ops : Array Oper} {rest : List Oper} {o : Oper} {a : Act} {w : World} {Q : Exit → Act → World → Prop}
    (hg : o.guard = none) (s x : Operand) (hop : o.op = Op.call { callee := Callee.builtin Builtin.append, args := #[s, x], argTypes := #[50, 50] })
    (base : Nat) (v : Value) (xs : List (Int × Int)) (hs : a.eval s = v) (hown : OR w base v xs) (hbase : base ≤ w.heap.size) (ad : Addr) (c : Nat) (r : Int × Int) (hx : a.eval x = .slice (some ad) 1 c) (h : ∀ j u, (rvs [r])[j]? = some u → w.cell? (ad.add j) = some u) (hn : xs.length ≤ 100000)
    (L : Nat) (hL : xs.length + 1 = L)
    (hK : ∀ A' c' w', OR w' base (.slice A' L c') (xs ++ [r]) → w.grownBy w' v.ownBlock → wpList Try.prog ops Q rest (a.put o.dst (.slice A' L c')) w') :
    wpList Try.prog ops Q (o :: rest) a w := by
  subst hL
  obtain ⟨A', c', w', h1, h2, h3⟩ := appR base o.type v xs hown hbase ad c r h hn
  exact plainA hg s x _ hop _ _ _ _ hs hx h1 (hK A' c' w' h2 h3)
theorem stepR {ops : Array Oper} {o : Oper} {a : Act} {w : World} {K : Act → World → Prop} {Q : Exit → Act → World → Prop} {E : Prop}
    (hg : o.guard = none) (s x : Operand) (hop : o.op = Op.call { callee := Callee.builtin Builtin.append, args := #[s, x], argTypes := #[50, 50] })
    (base : Nat) (v : Value) (xs : List (Int × Int)) (hs : a.eval s = v) (hown : OR w base v xs) (hbase : base ≤ w.heap.size) (ad : Addr) (c : Nat) (r : Int × Int) (hx : a.eval x = .slice (some ad) 1 c) (h : ∀ j u, (rvs [r])[j]? = some u → w.cell? (ad.add j) = some u) (hn : xs.length ≤ 100000)
    (L : Nat) (hL : xs.length + 1 = L)
    (hK : ∀ A' c' w', OR w' base (.slice A' L c') (xs ++ [r]) → w.grownBy w' v.ownBlock → K (a.put o.dst (.slice A' L c')) w') :
    if Region.wanted o (yielded ops a.tmps) = true then Oper.wp Try.prog o a w K Q else E := by
  subst hL
  obtain ⟨A', c', w', h1, h2, h3⟩ := appR base o.type v xs hown hbase ad c r h hn
  exact stepA hg s x _ hop _ _ _ _ hs hx h1 (hK A' c' w' h2 h3)
theorem minus_any (n : Int) (r : Int × Int) (w : World) (h1 : -9000000000000000000 ≤ n * r.2) (h2 : n * r.2 ≤ 9000000000000000000) (h3 : -9000000000000000000 ≤ n * r.2 - r.1) (h4 : n * r.2 - r.1 ≤ 9000000000000000000) :
    Calls Try.prog 46 #[.int .i64 n, rtv r] w fun e w' => e = .returned (rtv (mns n r)) ∧ Below w.heap.size w w' := by
  obtain ⟨p, q⟩ := r
  have h1 : -9000000000000000000 ≤ n * q := h1
  have h2 : n * q ≤ 9000000000000000000 := h2
  have h3 : -9000000000000000000 ≤ n * q - p := h3
  have h4 : n * q - p ≤ 9000000000000000000 := h4
  go_enter Try.func46, Try.ntmps46
  go_wp2
  refine bodyPost_ret (v := rtv (n * q - p, q)) (by rw [results_cellF rfl]; go_simp) rfl ⟨rfl, ?_⟩
  (repeat' (first | exact Below.refl _ _ | refine Below.setCell ?_ (by simp <;> omega) _ | refine balloc ?_ _ | refine Below.drew ?_ | refine bdrewN ?_ _))
set_option maxHeartbeats 2000000 in
theorem left_any (A R C X : Option Addr) (c cr cc cx : Nat) (M : List (List Int)) (rows cols x : List Int) (i : Nat) (w : World) (h : ChS w A M.length (rw_ M 0).length M R C rows.length rows cols) (dz : detR M rows cols ≠ 0) (hi : i < M.length) (hx : IL w X x) (nx : x.length = (rw_ M 0).length) (bx : ∀ k, k < (rw_ M 0).length → -1000 ≤ at_ x k ∧ at_ x k ≤ 1000) :
    Calls Try.prog 64 #[chv A M.length c R rows.length cr C rows.length cc (detR M rows cols), .int .i64 (i : Int), .slice X (rw_ M 0).length cx] w fun e w' => e = .returned (rtv (lft M rows cols i x)) ∧ Below w.heap.size w w' := by
  have D6 := detC6 h
  have HC := Lib.hid h.cho
  have HS := Lib.hid h
  have m1 := h.cho.hm
  have S0 := Lib.hid (ws5_new w A M.length c R rows.length cr C rows.length cc (detR M rows cols))
  have BO := Lib.hid (fun W (B : Below w.heap.size w W) (j : Nat) (hj : j < (rw_ M 0).length) => bord_any A R C c cr cc M.length (rw_ M 0).length rows.length (detR M rows cols) M rows cols (i : Int) (j : Int) W (cho_in HC.out B) (by omega) (by omega))
  have BB := Lib.hid (fun (j : Nat) (hj : j < (rw_ M 0).length) => bord6 HS.out (i := (i : Int)) (j := (j : Int)) (by omega) (by omega))
  have LB := Lib.hid (fun k (hk : k ≤ (rw_ M 0).length) => lsum_bd HS.out (i := (i : Int)) (by omega) bx hk)
  have LS := Lib.hid (fun k => (show lsum M rows cols i x (k + 1) = lsum M rows cols i x k + bord M rows cols i k * at_ x k from rfl))
  have lb := LB.out (rw_ M 0).length (Nat.le_refl _)
  have QU := Lib.hid (fun W => quo_any (lsum M rows cols i x (rw_ M 0).length) (detR M rows cols) W dz (by omega) (by omega) (by omega) (by omega))
  obtain ⟨rr, hrr⟩ : ∃ rr, ratq (lsum M rows cols i x (rw_ M 0).length) (detR M rows cols) = rr := ⟨_, rfl⟩
  rw [show lft M rows cols i x = rr from hrr]
  rw [hrr] at QU
  have mm1 : ((rw_ M 0).length : Int) ≤ 6 := by omega
  have HX := Lib.hid hx
  have NX := Lib.hid nx
  have BX := Lib.hid bx
  clear h dz D6 lb hrr hx nx bx
  obtain ⟨q0, q1, q2, q3, r0, r1, r2, r3, _, l0, l1⟩ := ws5_s S0.out
  go_enter Try.func64, Try.ntmps64
  go_wp2_with fail
  clear q0 q1 q2 q3 r0 r1 r2 r3 l0 l1
  go_loopw [7, 12] (fun sv kv wr => ∃ k : Nat, k ≤ (rw_ M 0).length ∧ kv = .int .i64 k ∧ sv = .int .i64 (lsum M rows cols i x k) ∧ WS w A M.length c R rows.length cr C rows.length cc (detR M rows cols) wr) (fun _ kv _ => (rw_ M 0).length - (intOf kv).toNat)
  case atStart => exact ⟨0, Nat.zero_le _, rfl, rfl, S0.out⟩
  case round =>
    obtain ⟨k, hk, rfl, rfl, hS⟩ := hrel
    have HSt := Lib.hid hS
    clear hS
    obtain ⟨q0, q1, q2, q3, r0, r1, r2, r3, _, l0, l1⟩ := ws5_s HSt.out
    by_cases hlt : k < (rw_ M 0).length
    · have hk1 : (k : Int) < ((rw_ M 0).length : Int) := by omega
      have hk0 : 0 ≤ (k : Int) := by omega
      obtain ⟨b2, o2, rfl, hb2, hc2⟩ := il_in HX.out (ws5_bel HSt.out) k (by rw [NX.out]; exact hlt)
      have BOk := Lib.hid (fun W B => BO.out W B k hlt)
      have bb := BB.out k hlt
      have l1' := LB.out k hk
      have l2' := LB.out (k + 1) hlt
      have LSk := Lib.hid (LS.out k)
      rw [LSk.out] at l2'
      have xb := BX.out k hlt
      have pb := Cr.mul_bd bb.1 bb.2.1 xb.1 xb.2
      generalize lsum M rows cols i x k = p at *
      generalize bord M rows cols i (k : Int) = y at *
      generalize at_ x k = z at *
      obtain ⟨b1, b2, _⟩ := bb
      obtain ⟨l11, l12⟩ := l1'
      obtain ⟨l21, l22⟩ := l2'
      obtain ⟨pb1, pb2⟩ := pb
      have pb1 : -720000000000000000 ≤ y * z := pb1
      have pb2 : y * z ≤ 720000000000000000 := pb2
      clear xb
      go_wp2_with fail
      with_reducible refine (BOk.out _ (ws5_bel HSt.out)).mono ?_
      rintro e w3 ⟨rfl, hb⟩
      have HS3 := Lib.hid (ws5_below HSt.out hb)
      clear hb q0 q1 q2 q3 r0 r1 r2 r3 l0 l1
      go_wp2_with fail
      go_roundw
      case rel => exact ⟨k + 1, by omega, by go_num, by rw [LSk.out], HS3.out⟩
      case measure => simp [intOf]; omega
    · obtain rfl : k = (rw_ M 0).length := by omega
      clear BO BB LB LS HC HS S0
      generalize lsum M rows cols i x (rw_ M 0).length = y at *
      generalize detR M rows cols = d at *
      go_wp2_with fail
      with_reducible refine (QU.out _).mono ?_
      rintro e w5 ⟨rfl, hb⟩
      have HS3 := Lib.hid (ws5_below HSt.out hb)
      clear hb q0 q1 q2 q3 r0 r1 r2 r3 l0 l1
      obtain ⟨q0, q1, q2, q3, r0, r1, r2, r3, _, l0, l1⟩ := ws5_s HS3.out
      go_wp2_with fail
      refine bodyPost_ret (v := rtv rr) (by rw [results_cellF rfl]; go_simp) rfl ⟨rfl, ?_⟩
      have hB := ws5_bel HS3.out
      (repeat' (first | exact Below.refl _ _ | refine bstep ?_ hB | refine Below.setCell ?_ (by simp <;> omega) _ | refine balloc ?_ _ | refine Below.drew ?_ | refine bdrewN ?_ _))

end Go.Proofs.Ytllonfaogbdbnaa
