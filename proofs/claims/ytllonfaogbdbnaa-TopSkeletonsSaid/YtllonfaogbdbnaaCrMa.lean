/-
  Lists of fractions, Fast, Off, the bound of products (one text of eight).
-/
import Derived.Test.YtllonfaogbdbnaaCrR1
import Derived.Test.YtllonfaogbdbnaaCrTr
import Derived.Test.YtllonfaogbdbnaaCrP2
namespace Go.Proofs.Ytllonfaogbdbnaa
open Go.ChangeShapes Go.WideShapes Go.RowKit
open Cr
/-- the first rows, the first numbers -/
def tkM (M : List (List Int)) (k : Nat) : List (List Int) := M.take k
def tkI (l : List Int) (k : Nat) : List Int := l.take k
theorem tkM_next {M : List (List Int)} {k : Nat} (h : k < M.length) : tkM M (k + 1) = tkM M k ++ [rw_ M k] := by
  unfold tkM
  rw [List.take_succ_eq_append_getElem h]
  have e : rw_ M k = M[k] := by show M.getD k [] = _; simp [List.getD, h]
  rw [e]
theorem tkI_next {l : List Int} {k : Nat} (h : k < l.length) : tkI l (k + 1) = tkI l k ++ [at_ l k] := take_next h
theorem tkM_le (M : List (List Int)) (k : Nat) : (tkM M k).length ≤ k := by unfold tkM; rw [List.length_take]; omega
theorem tkI_le (l : List Int) (k : Nat) : (tkI l k).length ≤ k := by unfold tkI; rw [List.length_take]; omega
theorem tkM_all {M : List (List Int)} {k : Nat} (h : M.length = k) : tkM M k = M := List.take_of_length_le (by omega)
theorem tkI_all {l : List Int} {k : Nat} (h : l.length = k) : tkI l k = l := List.take_of_length_le (by omega)
end Go.Proofs.Ytllonfaogbdbnaa
namespace Go.Proofs.Ytllonfaogbdbnaa
open Go.ChangeShapes Go.WideShapes Go.RowKit
open Cr
theorem allG_base {f : Nat → Nat → Int} {m : Nat} {b : Int} : ∀ {n : Nat}, b ≤ allG f m n b
  | 0 => Int.le_refl _
  | n + 1 => Int.le_trans (allG_base (n := n)) (rowG_ge (f := f n) (m := m) (j := 0)).1
theorem rowG_at {f : Nat → Int} {b : Int} : ∀ {m : Nat}, rowG f m b = b ∨ ∃ j, j < m ∧ rowG f m b = f j
  | 0 => .inl rfl
  | m + 1 => by
    unfold rowG mx
    split
    · exact .inr ⟨m, by omega, rfl⟩
    · rcases rowG_at (f := f) (b := b) (m := m) with e | ⟨j, hj, e⟩
      · exact .inl e
      · exact .inr ⟨j, by omega, e⟩
theorem allG_at {f : Nat → Nat → Int} {m : Nat} {b : Int} : ∀ {n : Nat}, allG f m n b = b ∨ ∃ i j, i < n ∧ j < m ∧ allG f m n b = f i j
  | 0 => .inl rfl
  | n + 1 => by
    rcases rowG_at (f := f n) (b := allG f m n b) (m := m) with e | ⟨j, hj, e⟩
    · rcases allG_at (f := f) (m := m) (b := b) (n := n) with e' | ⟨i, j, hi, hj, e'⟩
      · exact .inl (by unfold allG; rw [e, e'])
      · exact .inr ⟨i, j, by omega, hj, by unfold allG; rw [e, e']⟩
    · exact .inr ⟨n, j, by omega, hj, by unfold allG; exact e⟩
theorem gv_at {M : List (List Int)} {n m q : Nat} : gv M n m q (-1) = -1 ∨ ∃ r c, r ∈ setsN n q ∧ c ∈ setsN m q ∧ gv M n m q (-1) = absI (detR M r c) := by
  rcases allG_at (f := fa M n m q) (m := (setsN m q).length) (b := -1) (n := (setsN n q).length) with e | ⟨i, j, hi, hj, e⟩
  · exact .inl e
  · exact .inr ⟨_, _, rw_mem6 hi, rw_mem6 hj, e⟩
theorem tr_gv {M : List (List Int)} (hv : vcode M = 0) (q : Nat) : gv (tr M) (rw_ M 0).length M.length q (-1) = gv M M.length (rw_ M 0).length q (-1) := by
  obtain ⟨n, m, s, n1, n6, m1, m6⟩ := sq_of hv
  obtain rfl : M.length = n := s.len
  obtain rfl : (rw_ M 0).length = m := rw_len s (by omega)
  apply Int.le_antisymm
  · rcases gv_at (M := tr M) (n := (rw_ M 0).length) (m := M.length) (q := q) with e | ⟨r, c, hr, hc, e⟩
    · rw [e]; exact allG_base
    · obtain ⟨l1, s1⟩ := sets_mem m6 hr
      obtain ⟨l2, s2⟩ := sets_mem n6 hc
      rw [e, tr_det (under_of s2).1 (under_of s1).1 (by omega)]
      exact gv_ge hc hr
  · rcases gv_at (M := M) (n := M.length) (m := (rw_ M 0).length) (q := q) with e | ⟨r, c, hr, hc, e⟩
    · rw [e]; exact allG_base
    · obtain ⟨l1, s1⟩ := sets_mem n6 hr
      obtain ⟨l2, s2⟩ := sets_mem m6 hc
      rw [e, ← tr_det (under_of s1).1 (under_of s2).1 (by omega)]
      exact gv_ge hc hr
theorem tr_rk {M : List (List Int)} (hv : vcode M = 0) : ∀ k, rk (tr M) (rw_ M 0).length M.length k = rk M M.length (rw_ M 0).length k
  | 0 => rfl
  | k + 1 => by
    unfold rk
    rw [tr_gv hv, tr_rk hv k]
theorem sd_comm (n m : Nat) : sd n m = sd m n := by unfold sd; split <;> split <;> omega
theorem tr_rkc {M : List (List Int)} (hv : vcode M = 0) : rkc (tr M) = rkc M := by
  rw [rkc_0 hv, rkc_0 (tr_vcode hv), tr_len, tr_zero hv, tr_rk hv, sd_comm]
/-- the block and the room of a slice -/
def rB : Value → Nat
  | .slice (some a) _ _ => a.block
  | _ => 0
def cB : Value → Nat
  | .slice _ _ c => c
  | _ => 0
/-- a matrix in memory that can be written -/
def WT (w0 : World) (g m n : Nat) (r cR : Nat → Nat) (wr : World) : Prop :=
  Below w0.heap.size w0 wr ∧ ∀ x, x < m → wr.cell? ⟨g, x, none⟩ = some (.slice (some ⟨r x, 0, none⟩) n (cR x)) ∧ w0.heap.size ≤ r x ∧ r x ≠ g ∧ ∀ y, y < n → (∃ u, wr.cell? ⟨r x, y, none⟩ = some u) ∧ wr.frozen? ⟨r x, y, none⟩ = false
theorem wt_store {w0 : World} {g m n : Nat} {r cR : Nat → Nat} {wr : World} (h : WT w0 g m n r cR wr) {x : Nat} (hx : x < m) (y : Nat) (v : Value) : WT w0 g m n r cR (wr.setCell ⟨r x, y, none⟩ v) := by
  obtain ⟨hb, h1⟩ := h
  obtain ⟨x1, x2, x3, x4⟩ := h1 x hx
  refine ⟨hb.setCell x2 v, fun x' hx' => ?_⟩
  obtain ⟨y1, y2, y3, y4⟩ := h1 x' hx'
  refine ⟨?_, y2, y3, fun y' hy' => ⟨?_, ?_⟩⟩
  · rw [World.cell?_setCell_far _ _ _ _ x3]; exact y1
  · obtain ⟨u, hu⟩ := (y4 y' hy').1
    by_cases e : (⟨r x, y, none⟩ : Addr) = ⟨r x', y', none⟩
    · rw [e]; exact ⟨_, World.cell?_setCell_same _ _ _ hu⟩
    · exact ⟨u, by rw [World.cell?_setCell_other (h := e)]; exact hu⟩
  · rw [World.frozen?_setCell]; exact (y4 y' hy').2
theorem wt_in {w0 : World} {g m n : Nat} {r cR : Nat → Nat} {wr w2 : World} (h : WT w0 g m n r cR wr) (hb : Below wr.heap.size wr w2) : WT w0 g m n r cR w2 := by
  obtain ⟨h0, h1⟩ := h
  refine ⟨bstep h0 hb, fun x hx => ?_⟩
  obtain ⟨y1, y2, y3, y4⟩ := h1 x hx
  refine ⟨(hb.cell (World.block_lt_of_cell? _ _ y1)).trans y1, y2, y3, fun y hy => ?_⟩
  obtain ⟨⟨u, hu⟩, hf⟩ := y4 y hy
  exact ⟨⟨u, (hb.cell (World.block_lt_of_cell? _ _ hu)).trans hu⟩, (hb.frozen (World.block_lt_of_cell? _ _ hu)).trans hf⟩
theorem wt_tn {w0 wi : World} {S : List (List Int)} {n : Nat} {T : Nat → Value} (h : Tn w0 wi S (fun _ => n) T) (hn : 0 < n) (hr : ∀ i, i < S.length → (rw_ S i).length = n) :
    WT w0 w0.heap.size S.length n (fun x => rB (T x)) (fun x => cB (T x)) wi := by
  refine ⟨h.bel, fun x hx => ?_⟩
  have own := h.own x hx
  have top := h.top.cell hx
  have len : ((rw_ S x).take n).length = n := by rw [List.length_take, hr x hx]; omega
  rcases oi_form own with ⟨g, c, e, hl, hb⟩ | ⟨_, e⟩
  · rw [len] at e
    rw [e] at top own
    have e1 : rB (T x) = g := by rw [e]; rfl
    have e2 : cB (T x) = c := by rw [e]; rfl
    show wi.cell? _ = some (.slice (some ⟨rB (T x), 0, none⟩) n (cB (T x))) ∧ w0.heap.size ≤ rB (T x) ∧ rB (T x) ≠ w0.heap.size ∧ ∀ y, y < n → (∃ u, wi.cell? ⟨rB (T x), y, none⟩ = some u) ∧ wi.frozen? ⟨rB (T x), y, none⟩ = false
    rw [e1, e2]
    refine ⟨top, by omega, by omega, fun y hy => ⟨?_, ?_⟩⟩
    · have il := oi_il own
      obtain ⟨b, o, he, _, hc⟩ := il y (by rw [len]; exact hy)
      simp only [Option.some.injEq, Addr.mk.injEq, and_true] at he
      obtain ⟨rfl, rfl⟩ := he
      rw [Nat.zero_add] at hc
      exact ⟨_, hc⟩
    · have own' : wi.ownsRow (w0.heap.size + 1) 3 1 (.slice (some ⟨g, 0, none⟩) n c) ((rw_ S x).take n).length (vals ((rw_ S x).take n)) := own
      rw [len] at own'
      exact own'.frozenAt y
  · rw [e] at len; simp at len; omega

end Go.Proofs.Ytllonfaogbdbnaa
namespace Go.Proofs.Ytllonfaogbdbnaa
open Go.ChangeShapes Go.WideShapes Go.RowKit
open Cr
theorem ratq_abs {n d : Int} (h : d ≠ 0) : (ratq n d).1.natAbs = n.natAbs / Nat.gcd n.natAbs d.natAbs ∧ (ratq n d).2.natAbs = d.natAbs / Nat.gcd n.natAbs d.natAbs ∧ 1 ≤ (ratq n d).2 := by
  have g1 := gI_pos (n := n) h
  have gn : (gI n d).natAbs = Nat.gcd n.natAbs d.natAbs := by unfold gI; exact Int.natAbs_natCast _
  have gle := Nat.gcd_le_right (n := d.natAbs) n.natAbs (by omega)
  have q1 : 1 ≤ d.natAbs / Nat.gcd n.natAbs d.natAbs := Nat.div_pos gle (by omega)
  by_cases hd : d < 0
  · rw [ratq_neg hd]
    refine ⟨?_, ?_, ?_⟩
    · rw [← gn, ← Int.natAbs_neg (gI n d)]; exact Int.natAbs_tdiv _ _
    · rw [← gn, ← Int.natAbs_neg (gI n d)]; exact Int.natAbs_tdiv _ _
    · show 1 ≤ d.tdiv (-gI n d)
      rw [Int.tdiv_neg, ← Int.neg_tdiv, Int.tdiv_eq_ediv_of_nonneg (by omega)]
      exact Int.le_ediv_of_mul_le (by omega) (by omega)
  · rw [ratq_pos hd]
    refine ⟨?_, ?_, ?_⟩
    · rw [← gn]; exact Int.natAbs_tdiv _ _
    · rw [← gn]; exact Int.natAbs_tdiv _ _
    · show 1 ≤ d.tdiv (gI n d)
      rw [Int.tdiv_eq_ediv_of_nonneg (by omega)]
      exact Int.le_ediv_of_mul_le (by omega) (by omega)
theorem ratq_low {n d : Int} (h : d ≠ 0) : gI (ratq n d).1 (ratq n d).2 = 1 := by
  obtain ⟨h1, h2, _⟩ := ratq_abs (n := n) h
  unfold gI
  rw [h1, h2, Nat.gcd_div_gcd_div_gcd_of_pos_right (by omega)]
  rfl
theorem ratq_zero' {d : Int} (h : d ≠ 0) : ratq 0 d = (0, 1) := by
  have g : gI 0 d = d.natAbs := by
    unfold gI
    rw [show (0 : Int).natAbs = 0 from rfl, Nat.gcd_zero_left]
  by_cases hd : d < 0
  · rw [ratq_neg hd, g, Int.zero_tdiv, show -((d.natAbs : Nat) : Int) = d by omega, Int.tdiv_self h]
  · rw [ratq_pos hd, g, Int.zero_tdiv, show ((d.natAbs : Nat) : Int) = d by omega, Int.tdiv_self h]
theorem ratq_bd2 {n d N E : Int} (h : d ≠ 0) (n1 : -N ≤ n) (n2 : n ≤ N) (d1 : -E ≤ d) (d2 : d ≤ E) : -N ≤ (ratq n d).1 ∧ (ratq n d).1 ≤ N ∧ 1 ≤ (ratq n d).2 ∧ (ratq n d).2 ≤ E := by
  obtain ⟨h1, h2, h3⟩ := ratq_abs (n := n) h
  have a := Nat.div_le_self n.natAbs (Nat.gcd n.natAbs d.natAbs)
  have b := Nat.div_le_self d.natAbs (Nat.gcd n.natAbs d.natAbs)
  omega
theorem gI_sub {p q a : Int} (h : gI a q = 1) : gI (p * q - a) q = 1 := by
  have e : ∀ x y : Int, gI x y = (Int.gcd x y : Nat) := fun _ _ => rfl
  rw [e] at h ⊢
  have d1 := Int.gcd_dvd_left (p * q - a) q
  have d2 := Int.gcd_dvd_right (p * q - a) q
  have d3 : ((Int.gcd (p * q - a) q : Nat) : Int) ∣ a := by
    have := Int.dvd_sub (Int.dvd_mul_of_dvd_right (b := p) d2) d1
    rwa [show p * q - (p * q - a) = a by omega] at this
  have d4 := Int.dvd_coe_gcd d3 d2
  rw [h] at d4
  have := Int.le_of_dvd (by decide) d4
  have g0 : 0 ≤ ((Int.gcd (p * q - a) q : Nat) : Int) := by omega
  rcases Int.lt_or_le 0 ((Int.gcd (p * q - a) q : Nat) : Int) with hp | hz
  · omega
  · have hz : ((Int.gcd (p * q - a) q : Nat) : Int) = 0 := by omega
    rw [hz] at d4
    have := Int.zero_dvd.1 d4
    omega
/-- a whole number less a fraction -/
def mns (p : Int) (r : Int × Int) : Int × Int := (p * r.2 - r.1, r.2)
theorem mns_low {p : Int} {r : Int × Int} (h : gI r.1 r.2 = 1) (hq : 1 ≤ r.2) : ratq (p * r.2 - r.1) r.2 = mns p r := (rat_self hq).2 (gI_sub h)
/-- the element i of the residual times x, by the first k columns, times the minor -/
def lsum (M : List (List Int)) (rows cols : List Int) (i : Int) (x : List Int) (k : Nat) : Int := ps (fun j => bord M rows cols i j * at_ x j) k
theorem lsum_bd {w : World} {A R C : Option Addr} {n m K : Nat} {M : List (List Int)} {rows cols x : List Int} (h : ChS w A n m M R C K rows cols) {i : Int} (hi : 0 ≤ i ∧ i < n) (bx : ∀ k, k < m → -1000 ≤ at_ x k ∧ at_ x k ≤ 1000) {k : Nat} (hk : k ≤ m) :
    -4320000000000000000 ≤ lsum M rows cols i x k ∧ lsum M rows cols i x k ≤ 4320000000000000000 := by
  have b := ps_bd (f := fun j => bord M rows cols i j * at_ x j) (A := 720000000000000000) (n := k) (fun j hj => by
    have h1 := bord6 h (i := i) (j := (j : Int)) hi (by omega)
    have h2 := bx j (by omega)
    exact Cr.mul_bd h1.1 h1.2.1 h2.1 h2.2)
  have := h.cho.hm
  have : (k : Int) ≤ 6 := by omega
  unfold lsum
  omega
theorem lsum_zero {M : List (List Int)} {rows cols x : List Int} {i : Int} : ∀ {k : Nat}, (∀ j, j < k → bord M rows cols i (j : Int) = 0) → lsum M rows cols i x k = 0
  | 0, _ => rfl
  | k + 1, h => by
    show lsum M rows cols i x k + bord M rows cols i (k : Int) * at_ x k = 0
    rw [lsum_zero (k := k) fun j hj => h j (by omega), h k (by omega)]
    simp
/-- the element i of the residual times x -/
def lft (M : List (List Int)) (rows cols : List Int) (i : Int) (x : List Int) : Int × Int := ratq (lsum M rows cols i x (rw_ M 0).length) (detR M rows cols)
theorem lft_bd {w : World} {A R C : Option Addr} {M : List (List Int)} {rows cols x : List Int} (h : ChS w A M.length (rw_ M 0).length M R C rows.length rows cols) (dz : detR M rows cols ≠ 0) {i : Int} (hi : 0 ≤ i ∧ i < M.length) (bx : ∀ k, k < (rw_ M 0).length → -1000 ≤ at_ x k ∧ at_ x k ≤ 1000) :
    -4320000000000000000 ≤ (lft M rows cols i x).1 ∧ (lft M rows cols i x).1 ≤ 4320000000000000000 ∧ 1 ≤ (lft M rows cols i x).2 ∧ (lft M rows cols i x).2 ≤ 1200000000000 := by
  have sb := lsum_bd h hi bx (Nat.le_refl _)
  by_cases z : ∀ j, j < (rw_ M 0).length → bord M rows cols i (j : Int) = 0
  · unfold lft
    rw [lsum_zero z, ratq_zero' dz]
    decide
  · have : ∃ j, j < (rw_ M 0).length ∧ bord M rows cols i (j : Int) ≠ 0 := by
      refine Classical.byContradiction fun c => z fun j hj => ?_
      refine Classical.byContradiction fun d => c ⟨j, hj, d⟩
    obtain ⟨j, hj, nz⟩ := this
    have k5 := (bord6 h (i := i) (j := (j : Int)) hi (by omega)).2.2 nz
    have d5 := (detC6 h).2.2 k5
    exact ratq_bd2 dz sb.1 sb.2 d5.1 d5.2
/-- an element of Fast -/
def fsr (M : List (List Int)) (rows cols : List Int) (i : Nat) (x : List Int) : Int × Int := mns (ip (rw_ M i) x (rw_ M 0).length) (lft M rows cols i x)
def rat_ (l : List (Int × Int)) (k : Nat) : Int × Int := l.getD k (0, 0)
/-- a list of fractions in memory -/
def RLs (w : World) (A : Option Addr) (l : List (Int × Int)) : Prop :=
  ∀ k, k < l.length → ∃ b o, A = some ⟨b, o, none⟩ ∧ b < w.heap.size ∧ w.cell? ⟨b, o + k * 2, none⟩ = some (.int .i64 (rat_ l k).1) ∧ w.cell? ⟨b, o + k * 2 + 1, none⟩ = some (.int .i64 (rat_ l k).2)
theorem rls_in {w w1 : World} {A : Option Addr} {l : List (Int × Int)} (h : RLs w A l) (hb : Below w.heap.size w w1) : RLs w1 A l := fun k hk => by
  obtain ⟨b, o, e, hlt, h0, h1⟩ := h k hk
  exact ⟨b, o, e, Nat.lt_of_lt_of_le hlt hb.size, (hb.cell (p := ⟨b, o + k * 2, none⟩) hlt).trans h0, (hb.cell (p := ⟨b, o + k * 2 + 1, none⟩) hlt).trans h1⟩
theorem rls_nil (w : World) (A : Option Addr) : RLs w A [] := fun k hk => absurd hk (Nat.not_lt_zero k)
/-- the cells of the fractions -/
def rvs (l : List (Int × Int)) : List Value := l.flatMap fun r => [.int .i64 r.1, .int .i64 r.2]
theorem rvs_app (l r : List (Int × Int)) : rvs l ++ rvs r = rvs (l ++ r) := by unfold rvs; rw [List.flatMap_append]
theorem rvs_len : ∀ (l : List (Int × Int)), (rvs l).length = l.length * 2
  | [] => rfl
  | r :: l => by
    have := rvs_len l
    unfold rvs at *
    simp only [List.flatMap_cons, List.length_append, List.length_cons, List.length_nil, this]
    omega
theorem rvs_at : ∀ (l : List (Int × Int)) (k : Nat), k < l.length → (rvs l)[k * 2]? = some (.int .i64 (rat_ l k).1) ∧ (rvs l)[k * 2 + 1]? = some (.int .i64 (rat_ l k).2)
  | [], k, h => absurd h (Nat.not_lt_zero k)
  | r :: l, 0, _ => ⟨rfl, rfl⟩
  | r :: l, k + 1, h => by
    have := rvs_at l k (by simpa using h)
    have e : rvs (r :: l) = .int .i64 r.1 :: .int .i64 r.2 :: rvs l := rfl
    rw [e, show (k + 1) * 2 = k * 2 + 1 + 1 by omega]
    exact this
/-- a list of fractions of the call's own, in blocks from base on -/
abbrev OR (w : World) (base : Nat) (v : Value) (l : List (Int × Int)) : Prop := w.ownsRow base 46 2 v l.length (rvs l)
theorem or_nil (w : World) (base : Nat) : OR w base (.slice none 0 0) [] := World.ownsRow_nil w base _ _
theorem or_slice {w : World} {base : Nat} {v : Value} {l : List (Int × Int)} (h : OR w base v l) : ∃ A c, v = .slice A l.length c := by
  rcases h.2 with ⟨e, e0⟩ | ⟨g, cap, cur, e, hb, _, hl, _⟩
  · exact ⟨none, 0, by rw [e0]; exact e⟩
  · exact ⟨_, cap, e⟩
theorem or_il {w : World} {base : Nat} {A : Option Addr} {n c : Nat} {l : List (Int × Int)} (h : OR w base (.slice A n c) l) : RLs w A l := fun k hk => by
  rcases h.2 with ⟨e, e0⟩ | ⟨g, cap, cur, e, hb, hg, hl, hm, hs, ht⟩
  · omega
  · injection e with e1 e2 e3
    subst e1
    have z := h.cells (g := g) rfl
    have a0 := z (k * 2) _ (rvs_at l k hk).1
    have a1 := z (k * 2 + 1) _ (rvs_at l k hk).2
    have ea : ∀ j, (⟨g, 0, none⟩ : Addr).add j = ⟨g, 0 + j, none⟩ := fun j => by
      unfold Addr.add
      split
      · rename_i e; subst e; rfl
      · rfl
    rw [ea] at a0 a1
    exact ⟨g, 0, rfl, (Array.getElem?_eq_some_iff.1 hg).1, a0, by rw [Nat.add_assoc]; exact a1⟩
theorem or_below {w w1 : World} {base B : Nat} {v : Value} {l : List (Int × Int)} (h : OR w base v l) (hb : Below w.heap.size w w1) (hB : B ≤ base) : OR w1 B v l := by
  refine ⟨h.1, ?_⟩
  rcases h.2 with hn | ⟨g, cap, cur, rfl, hg, hgg, rest⟩
  · exact .inl hn
  · exact .inr ⟨g, cap, cur, rfl, by omega, by rw [hb.block g (Array.getElem?_eq_some_iff.1 hgg).1]; exact hgg, rest⟩
theorem infoR : (Try.prog.info? 46).map (fun i => (i.zero, i.size, i.bytes)) = some (some (.agg #[.int .i64 0, .int .i64 0]), 2, 16) := by kernel_rfl
theorem infoR' : ∃ i, Try.prog.info? 46 = some i ∧ i.zero = some (.agg #[.int .i64 0, .int .i64 0]) ∧ i.size = 2 ∧ i.bytes = 16 := by
  have h := infoR
  cases e : Try.prog.info? 46 with
  | none => rw [e] at h; cases h
  | some i => rw [e] at h; simp at h; exact ⟨i, rfl, h.1, h.2.1, h.2.2⟩
/-- an append of one fraction to a list of the call's own -/
theorem appR {w : World} (base : Nat) (ty : TypeId) (v : Value) (xs : List (Int × Int)) (hown : OR w base v xs) (hbase : base ≤ w.heap.size) (ad : Addr) (c : Nat) (r : Int × Int) (h : ∀ j u, (rvs [r])[j]? = some u → w.cell? (ad.add j) = some u) (hn : xs.length ≤ 100000) :
    ∃ A' c' w', (Builtin.append_ #[50, 50] ty #[v, .slice (some ad) 1 c]).run Try.prog w = .ok (.slice A' (xs.length + 1) c') w' ∧ OR w' base (.slice A' (xs.length + 1) c') (xs ++ [r]) ∧ w.grownBy w' v.ownBlock := by
  obtain ⟨i, hi, z1, z2, z3⟩ := infoR'
  have hu : Try.prog.underlying 50 = some (.slice 46) := Try.underlying50
  obtain ⟨v', w', h1, h2, h3, _, _⟩ := run_append_own_at (P := Try.prog) w base 50 ty 46 i _ 2 16 hu hi z1 z2 z3 rfl (by decide) v xs.length (rvs xs) hown ad 1 c (rvs [r]) rfl h (by intro u hu; simp [rvs] at hu; rcases hu with rfl | rfl <;> rfl) (by unfold maxLen; omega) (by omega) hbase
  have h2 : OR w' base v' (xs ++ [r]) := by
    show w'.ownsRow base 46 2 v' (xs ++ [r]).length (rvs (xs ++ [r]))
    rw [List.length_append, ← rvs_app]; exact h2
  obtain ⟨A', c', rfl⟩ := or_slice h2
  rw [List.length_append] at h1 h2
  exact ⟨A', c', w', h1, h2, h3⟩
theorem rone_new (w : World) (r : Int × Int) : ∀ j u, (rvs [r])[j]? = some u → (w.alloc (rtc r)).cell? ((⟨w.heap.size, 0, none⟩ : Addr).add j) = some u := by
  intro j u hu
  match j, hu with
  | 0, hu =>
    have : u = .int .i64 r.1 := by simp [rvs] at hu; exact hu.symm
    subst this
    show (w.alloc (rtc r)).cell? ⟨w.heap.size, 0, none⟩ = _
    go_simp
  | 1, hu =>
    have : u = .int .i64 r.2 := by simp [rvs] at hu; exact hu.symm
    subst this
    show (w.alloc (rtc r)).cell? ⟨w.heap.size, 1, none⟩ = _
    go_simp
theorem wpR {ops : Array Oper} {rest : List Oper} {o : Oper} {a : Act} {w : World} {Q : Exit → Act → World → Prop}
    (hg : o.guard = none) (s x : Operand) (hop : o.op = Op.call { callee := Callee.builtin Builtin.append, args := #[s, x], argTypes := #[50, 50] })
    (base : Nat) (v : Value) (xs : List (Int × Int)) (hs : a.eval s = v) (hown : OR w base v xs) (hbase : base ≤ w.heap.size) (ad : Addr) (c : Nat) (r : Int × Int) (hx : a.eval x = .slice (some ad) 1 c) (h : ∀ j u, (rvs [r])[j]? = some u → w.cell? (ad.add j) = some u) (hn : xs.length ≤ 100000)
    (L : Nat) (hL : xs.length + 1 = L)
    (hK : ∀ A' c' w', OR w' base (.slice A' L c') (xs ++ [r]) → w.grownBy w' v.ownBlock → wpList Try.prog ops Q rest (a.put o.dst (.slice A' L c')) w') :
    wpList Try.prog ops Q (o :: rest) a w := by
  subst hL
  obtain ⟨A', c', w', h1, h2, h3⟩ := appR base o.type v xs hown hbase ad c r h hn
  exact plainA hg s x _ hop _ _ _ _ hs hx h1 (hK A' c' w' h2 h3)
theorem stepR {ops : Array Oper} {o : Oper} {a : Act} {w : World} {K : Act → World → Prop} {Q : Exit → Act → World → Prop} {E : Prop}
    (hg : o.guard = none) (s x : Operand) (hop : o.op = Op.call { callee := Callee.builtin Builtin.append, args := #[s, x], argTypes := #[50, 50] })
    (base : Nat) (v : Value) (xs : List (Int × Int)) (hs : a.eval s = v) (hown : OR w base v xs) (hbase : base ≤ w.heap.size) (ad : Addr) (c : Nat) (r : Int × Int) (hx : a.eval x = .slice (some ad) 1 c) (h : ∀ j u, (rvs [r])[j]? = some u → w.cell? (ad.add j) = some u) (hn : xs.length ≤ 100000)
    (L : Nat) (hL : xs.length + 1 = L)
    (hK : ∀ A' c' w', OR w' base (.slice A' L c') (xs ++ [r]) → w.grownBy w' v.ownBlock → K (a.put o.dst (.slice A' L c')) w') :
    if Region.wanted o (yielded ops a.tmps) = true then Oper.wp Try.prog o a w K Q else E := by
  subst hL
  obtain ⟨A', c', w', h1, h2, h3⟩ := appR base o.type v xs hown hbase ad c r h hn
  exact stepA hg s x _ hop _ _ _ _ hs hx h1 (hK A' c' w' h2 h3)
theorem minus_any (n : Int) (r : Int × Int) (w : World) (h1 : -9000000000000000000 ≤ n * r.2) (h2 : n * r.2 ≤ 9000000000000000000) (h3 : -9000000000000000000 ≤ n * r.2 - r.1) (h4 : n * r.2 - r.1 ≤ 9000000000000000000) :
    Calls Try.prog 46 #[.int .i64 n, rtv r] w fun e w' => e = .returned (rtv (mns n r)) ∧ Below w.heap.size w w' := by
  obtain ⟨p, q⟩ := r
  have h1 : -9000000000000000000 ≤ n * q := h1
  have h2 : n * q ≤ 9000000000000000000 := h2
  have h3 : -9000000000000000000 ≤ n * q - p := h3
  have h4 : n * q - p ≤ 9000000000000000000 := h4
  go_enter Try.func46, Try.ntmps46
  go_wp2
  refine bodyPost_ret (v := rtv (n * q - p, q)) (by rw [results_cellF rfl]; go_simp) rfl ⟨rfl, ?_⟩
  (repeat' (first | exact Below.refl _ _ | refine Below.setCell ?_ (by simp <;> omega) _ | refine balloc ?_ _ | refine Below.drew ?_ | refine bdrewN ?_ _))
set_option maxHeartbeats 2000000 in
theorem left_any (A R C X : Option Addr) (c cr cc cx : Nat) (M : List (List Int)) (rows cols x : List Int) (i : Nat) (w : World) (h : ChS w A M.length (rw_ M 0).length M R C rows.length rows cols) (dz : detR M rows cols ≠ 0) (hi : i < M.length) (hx : IL w X x) (nx : x.length = (rw_ M 0).length) (bx : ∀ k, k < (rw_ M 0).length → -1000 ≤ at_ x k ∧ at_ x k ≤ 1000) :
    Calls Try.prog 64 #[chv A M.length c R rows.length cr C rows.length cc (detR M rows cols), .int .i64 (i : Int), .slice X (rw_ M 0).length cx] w fun e w' => e = .returned (rtv (lft M rows cols i x)) ∧ Below w.heap.size w w' := by
  have D6 := detC6 h
  have HC := Lib.hid h.cho
  have HS := Lib.hid h
  have m1 := h.cho.hm
  have S0 := Lib.hid (ws5_new w A M.length c R rows.length cr C rows.length cc (detR M rows cols))
  have BO := Lib.hid (fun W (B : Below w.heap.size w W) (j : Nat) (hj : j < (rw_ M 0).length) => bord_any A R C c cr cc M.length (rw_ M 0).length rows.length (detR M rows cols) M rows cols (i : Int) (j : Int) W (cho_in HC.out B) (by omega) (by omega))
  have BB := Lib.hid (fun (j : Nat) (hj : j < (rw_ M 0).length) => bord6 HS.out (i := (i : Int)) (j := (j : Int)) (by omega) (by omega))
  have LB := Lib.hid (fun k (hk : k ≤ (rw_ M 0).length) => lsum_bd HS.out (i := (i : Int)) (by omega) bx hk)
  have LS := Lib.hid (fun k => (show lsum M rows cols i x (k + 1) = lsum M rows cols i x k + bord M rows cols i k * at_ x k from rfl))
  have lb := LB.out (rw_ M 0).length (Nat.le_refl _)
  have QU := Lib.hid (fun W => quo_any (lsum M rows cols i x (rw_ M 0).length) (detR M rows cols) W dz (by omega) (by omega) (by omega) (by omega))
  obtain ⟨rr, hrr⟩ : ∃ rr, ratq (lsum M rows cols i x (rw_ M 0).length) (detR M rows cols) = rr := ⟨_, rfl⟩
  rw [show lft M rows cols i x = rr from hrr]
  rw [hrr] at QU
  have mm1 : ((rw_ M 0).length : Int) ≤ 6 := by omega
  have HX := Lib.hid hx
  have NX := Lib.hid nx
  have BX := Lib.hid bx
  clear h dz D6 lb hrr hx nx bx
  obtain ⟨q0, q1, q2, q3, r0, r1, r2, r3, _, l0, l1⟩ := ws5_s S0.out
  go_enter Try.func64, Try.ntmps64
  go_wp2_with fail
  clear q0 q1 q2 q3 r0 r1 r2 r3 l0 l1
  go_loopw [7, 12] (fun sv kv wr => ∃ k : Nat, k ≤ (rw_ M 0).length ∧ kv = .int .i64 k ∧ sv = .int .i64 (lsum M rows cols i x k) ∧ WS w A M.length c R rows.length cr C rows.length cc (detR M rows cols) wr) (fun _ kv _ => (rw_ M 0).length - (intOf kv).toNat)
  case atStart => exact ⟨0, Nat.zero_le _, rfl, rfl, S0.out⟩
  case round =>
    obtain ⟨k, hk, rfl, rfl, hS⟩ := hrel
    have HSt := Lib.hid hS
    clear hS
    obtain ⟨q0, q1, q2, q3, r0, r1, r2, r3, _, l0, l1⟩ := ws5_s HSt.out
    by_cases hlt : k < (rw_ M 0).length
    · have hk1 : (k : Int) < ((rw_ M 0).length : Int) := by omega
      have hk0 : 0 ≤ (k : Int) := by omega
      obtain ⟨b2, o2, rfl, hb2, hc2⟩ := il_in HX.out (ws5_bel HSt.out) k (by rw [NX.out]; exact hlt)
      have BOk := Lib.hid (fun W B => BO.out W B k hlt)
      have bb := BB.out k hlt
      have l1' := LB.out k hk
      have l2' := LB.out (k + 1) hlt
      have LSk := Lib.hid (LS.out k)
      rw [LSk.out] at l2'
      have xb := BX.out k hlt
      have pb := Cr.mul_bd bb.1 bb.2.1 xb.1 xb.2
      generalize lsum M rows cols i x k = p at *
      generalize bord M rows cols i (k : Int) = y at *
      generalize at_ x k = z at *
      obtain ⟨b1, b2, _⟩ := bb
      obtain ⟨l11, l12⟩ := l1'
      obtain ⟨l21, l22⟩ := l2'
      obtain ⟨pb1, pb2⟩ := pb
      have pb1 : -720000000000000000 ≤ y * z := pb1
      have pb2 : y * z ≤ 720000000000000000 := pb2
      clear xb
      go_wp2_with fail
      with_reducible refine (BOk.out _ (ws5_bel HSt.out)).mono ?_
      rintro e w3 ⟨rfl, hb⟩
      have HS3 := Lib.hid (ws5_below HSt.out hb)
      clear hb q0 q1 q2 q3 r0 r1 r2 r3 l0 l1
      go_wp2_with fail
      go_roundw
      case rel => exact ⟨k + 1, by omega, by go_num, by rw [LSk.out], HS3.out⟩
      case measure => simp [intOf]; omega
    · obtain rfl : k = (rw_ M 0).length := by omega
      clear BO BB LB LS HC HS S0
      generalize lsum M rows cols i x (rw_ M 0).length = y at *
      generalize detR M rows cols = d at *
      go_wp2_with fail
      with_reducible refine (QU.out _).mono ?_
      rintro e w5 ⟨rfl, hb⟩
      have HS3 := Lib.hid (ws5_below HSt.out hb)
      clear hb q0 q1 q2 q3 r0 r1 r2 r3 l0 l1
      obtain ⟨q0, q1, q2, q3, r0, r1, r2, r3, _, l0, l1⟩ := ws5_s HS3.out
      go_wp2_with fail
      refine bodyPost_ret (v := rtv rr) (by rw [results_cellF rfl]; go_simp) rfl ⟨rfl, ?_⟩
      have hB := ws5_bel HS3.out
      (repeat' (first | exact Below.refl _ _ | refine bstep ?_ hB | refine Below.setCell ?_ (by simp <;> omega) _ | refine balloc ?_ _ | refine Below.drew ?_ | refine bdrewN ?_ _))

end Go.Proofs.Ytllonfaogbdbnaa
namespace Go.Proofs.Ytllonfaogbdbnaa
open Go.ChangeShapes Go.WideShapes Go.RowKit
open Cr
/-- the error of a matrix, a choice and x -/
def fcd (M : List (List Int)) (rows cols x : List Int) : Int := if vcode M = 0 then (if fitB M x && chB M rows cols then (if detR M rows cols = 0 then 11 else 0) else 1) else vcode M
def fsL (M : List (List Int)) (rows cols x : List Int) : List (Int × Int) := (List.range M.length).map fun i => fsr M rows cols i x
def fL (M : List (List Int)) (rows cols x : List Int) : List (Int × Int) := if fcd M rows cols x = 0 then fsL M rows cols x else []
theorem fsL_len (M : List (List Int)) (rows cols x : List Int) : (fsL M rows cols x).length = M.length := by unfold fsL; simp
theorem fsL_at (M : List (List Int)) (rows cols x : List Int) {i : Nat} (h : i < M.length) : rat_ (fsL M rows cols x) i = fsr M rows cols i x := by unfold fsL rat_; simp [List.getD, h]
theorem fL_ne {M : List (List Int)} {rows cols x : List Int} {e : Int} (h : fcd M rows cols x = e) (n : e ≠ 0) : fL M rows cols x = [] := by unfold fL; rw [h, if_neg n]
theorem fL_ok {M : List (List Int)} {rows cols x : List Int} (h : fcd M rows cols x = 0) : fL M rows cols x = fsL M rows cols x := by unfold fL; rw [h, if_pos rfl]
theorem fcd_v {M : List (List Int)} {rows cols x : List Int} (h : vcode M ≠ 0) : fcd M rows cols x = vcode M := if_neg h
theorem fcd_f {M : List (List Int)} {rows cols x : List Int} (h : vcode M = 0) (f : fitB M x = false) : fcd M rows cols x = 1 := by unfold fcd; rw [if_pos h, f]; rfl
theorem fcd_c {M : List (List Int)} {rows cols x : List Int} (h : vcode M = 0) (c : chB M rows cols = false) : fcd M rows cols x = 1 := by unfold fcd; rw [if_pos h, c]; simp
theorem fcd_z {M : List (List Int)} {rows cols x : List Int} (h : vcode M = 0) (f : fitB M x = true) (c : chB M rows cols = true) (d : detR M rows cols = 0) : fcd M rows cols x = 11 := by unfold fcd; rw [if_pos h, f, c, if_pos d]; rfl
theorem fcd_0 {M : List (List Int)} {rows cols x : List Int} (h : vcode M = 0) (f : fitB M x = true) (c : chB M rows cols = true) (d : detR M rows cols ≠ 0) : fcd M rows cols x = 0 := by unfold fcd; rw [if_pos h, f, c, if_neg d]; rfl
theorem rtake_next {l : List (Int × Int)} {k : Nat} (h : k < l.length) : l.take (k + 1) = l.take k ++ [rat_ l k] := by
  rw [List.take_succ_eq_append_getElem h]
  unfold rat_
  simp [List.getD, h]
theorem chs_in {w w1 : World} {A R C : Option Addr} {n m K : Nat} {M : List (List Int)} {rows cols : List Int} (h : ChS w A n m M R C K rows cols) (hb : Below w.heap.size w w1) : ChS w1 A n m M R C K rows cols := ⟨cho_in h.cho hb, h.sr, h.sc⟩
theorem dvz_err {M : List (List Int)} {rows cols : List Int} (z : (dvz M rows cols).2 ≠ 0) {A R C : Option Addr} {c cr cc : Nat} {W : World} (h : Arg W A M R C rows cols) :
    Calls Try.prog 45 #[.slice A M.length c, .slice R rows.length cr, .slice C cols.length cc] W fun e w' => e = .returned (.tuple #[chv none 0 0 none 0 0 none 0 0 0, .int .i64 (dvz M rows cols).2]) ∧ Below W.heap.size W w' := by
  unfold dvz at z ⊢
  by_cases k : kcode M rows cols = 0
  · rw [if_pos k] at z ⊢
    by_cases dz : detR M rows cols = 0
    · rw [if_pos dz]
      exact choose_zero A R C c cr cc M rows cols W h k dz
    · exact absurd (by rw [if_neg dz]) z
  · rw [if_neg k]
    exact choose_err A R C c cr cc M rows cols W h k
/-- an argument that is a choice and a list -/
structure ArX (w : World) (A : Option Addr) (M : List (List Int)) (R C X : Option Addr) (rows cols x : List Int) : Prop where
  arg : Arg w A M R C rows cols
  xI : IL w X x
  nx : x.length ≤ 1000
theorem arx_in {w w1 : World} {A R C X : Option Addr} {M : List (List Int)} {rows cols x : List Int} (h : ArX w A M R C X rows cols x) (hb : Below w.heap.size w w1) : ArX w1 A M R C X rows cols x := ⟨arg_in h.arg hb, il_in h.xI hb, h.nx⟩
theorem dvz_v {M : List (List Int)} {rows cols : List Int} (v : vcode M = 0) : (chB M rows cols = false → (dvz M rows cols).2 = 1) ∧ (chB M rows cols = true → detR M rows cols = 0 → (dvz M rows cols).2 = 11) ∧ (chB M rows cols = true → detR M rows cols ≠ 0 → (dvz M rows cols).2 = 0) := by
  refine ⟨fun c => ?_, fun c d => ?_, fun c d => ?_⟩ <;> unfold dvz
  · rw [kcode_bad v c]; rfl
  · rw [kcode_good v c, if_pos rfl, if_pos d]
  · rw [kcode_good v c, if_pos rfl, if_neg d]
/-- a choice in the block q -/
def WQ (q : Nat) (A : Option Addr) (n c : Nat) (R : Option Addr) (K cr : Nat) (C : Option Addr) (K' cc : Nat) (d : Int) (w1 : World) : Prop := w1.cell? ⟨q, 0, none⟩ = some (.slice A n c) ∧ w1.cell? ⟨q, 1, none⟩ = some (.slice R K cr) ∧ w1.cell? ⟨q, 2, none⟩ = some (.slice C K' cc) ∧ w1.cell? ⟨q, 3, none⟩ = some (.int .i64 d) ∧ q < w1.heap.size
theorem wq_s {q : Nat} {A : Option Addr} {n c : Nat} {R : Option Addr} {K cr : Nat} {C : Option Addr} {K' cc : Nat} {d : Int} {w1 : World} (h : WQ q A n c R K cr C K' cc d w1) : w1.cell? ⟨q, 0, none⟩ = some (.slice A n c) ∧ w1.cell? ⟨q, 1, none⟩ = some (.slice R K cr) ∧ w1.cell? ⟨q, 2, none⟩ = some (.slice C K' cc) ∧ w1.cell? ⟨q, 3, none⟩ = some (.int .i64 d) ∧ q < w1.heap.size := h
theorem wq_below {q : Nat} {A : Option Addr} {n c : Nat} {R : Option Addr} {K cr : Nat} {C : Option Addr} {K' cc : Nat} {d : Int} {w1 w2 : World} (h : WQ q A n c R K cr C K' cc d w1) (hb : Below w1.heap.size w1 w2) : WQ q A n c R K cr C K' cc d w2 := by
  obtain ⟨h0, h1, h2, h3, h4⟩ := h
  exact ⟨(hb.cell (p := ⟨q, 0, none⟩) h4).trans h0, (hb.cell (p := ⟨q, 1, none⟩) h4).trans h1, (hb.cell (p := ⟨q, 2, none⟩) h4).trans h2, (hb.cell (p := ⟨q, 3, none⟩) h4).trans h3, Nat.lt_of_lt_of_le h4 hb.size⟩
set_option maxHeartbeats 4000000 in
theorem fast_any (A R C X : Option Addr) (c cr cc cx : Nat) (M : List (List Int)) (rows cols x : List Int) (w : World) (h : ArX w A M R C X rows cols x) : Calls Try.prog 25 #[.slice A M.length c, .slice R rows.length cr, .slice C cols.length cc, .slice X x.length cx] w fun e w' => ∃ A' c', e = .returned (.tuple #[.slice A' (fL M rows cols x).length c', .int .i64 (fcd M rows cols x)]) ∧ RLs w' A' (fL M rows cols x) ∧ Below w.heap.size w w' := by
  have PR := Lib.hid (prodP_any A X c cx M x w h.arg.mat h.arg.len h.arg.wid h.xI h.nx)
  by_cases pc : pcode M x = 0
  · have hv : vcode M = 0 := by
      refine Classical.byContradiction fun z => ?_
      rw [(pcode_v (x := x) z).1] at pc
      exact z pc
    have hf : fitB M x = true := by
      cases e : fitB M x with
      | true => rfl
      | false => rw [(pcode_1 hv e).1] at pc; cases pc
    rw [(pcode_0 hv hf).2, pc] at PR
    by_cases z : (dvz M rows cols).2 = 0
    · obtain ⟨k, dz, _⟩ := dvz_ok z
      have ho := chs_of h.arg k
      have hl := (cho_of h.arg k).2
      have f0 : fcd M rows cols x = 0 := fcd_0 hv hf (kcode_cases k).2 dz
      rw [fL_ok f0, f0]
      obtain ⟨fx, bx⟩ := fitB_of hf
      have CH := Lib.hid (fun W (B : Below w.heap.size w W) => choose_ok A R C c cr cc M rows cols W (arg_in h.arg B) k dz)
      rw [hl] at CH ⊢
      have LE := Lib.hid (fun W (B : Below w.heap.size w W) i (hi : i < M.length) => left_any A R C X c cr cc cx M rows cols x i W (chs_in ho B) dz hi (il_in h.xI B) fx (fun k hk => bx k (by omega)))
      rw [← fx] at LE
      have FL := Lib.hid (fsL_len M rows cols x)
      have FA := Lib.hid (fun i (hi : i < M.length) => fsL_at M rows cols x hi)
      have PLN := Lib.hid (prL_len M x)
      have PA := Lib.hid (fun i (hi : i < M.length) => prL_at M x hi)
      have MB := Lib.hid (fun i (hi : i < M.length) W => (show Calls Try.prog 46 #[.int .i64 (at_ (prL M x) i), rtv (lft M rows cols (i : Int) x)] W fun e w' => e = .returned (rtv (rat_ (fsL M rows cols x) i)) ∧ Below W.heap.size W w' from by
        rw [fsL_at M rows cols x hi, prL_at M x hi]
        have hb := lft_bd ho dz (i := (i : Int)) (x := x) (by omega) (fun k hk => bx k (by omega))
        have ib := ip_bd (r := rw_ M i) (x := x) (n := (rw_ M 0).length) (fun k hk => ho.cho.sq.at hi hk) (fun k hk => bx k (by omega)) ho.cho.hm (Nat.le_refl _)
        have pb := Cr.mul_bd ib.1 ib.2 (show -1200000000000 ≤ (lft M rows cols (i : Int) x).2 by omega) hb.2.2.2
        have pb1 : -720000000000000000 ≤ ip (rw_ M i) x (rw_ M 0).length * (lft M rows cols (i : Int) x).2 := pb.1
        have pb2 : ip (rw_ M i) x (rw_ M 0).length * (lft M rows cols (i : Int) x).2 ≤ 720000000000000000 := pb.2
        exact minus_any _ _ W (by omega) (by omega) (by omega) (by omega)))
      have nn : (M.length : Int) ≤ 6 := by have := ho.cho.hn; omega
      rw [FL.out]
      rw [PLN.out] at PR
      clear h pc hv hf z k dz ho hl f0 fx bx
      generalize prL M x = P at *
      generalize fsL M rows cols x = S at *
      generalize detR M rows cols = d at *
      generalize rows.length = K at *
      generalize x.length = nx at *
      go_enter Try.func25, Try.ntmps25
      go_wp2_with fail
      with_reducible refine PR.out.mono ?_
      rintro e w2 ⟨AP, cp, rfl, hP, hb⟩
      have HB := Lib.hid hb
      have HP := Lib.hid hP
      clear hb hP
      go_wp2_with fail
      with_reducible refine (CH.out _ HB.out).mono ?_
      rintro e w3 ⟨rfl, hb⟩
      have HB3 := Lib.hid (balloc (bstep HB.out hb) (chb A M.length c R K cr C K cc d))
      have HP3 := Lib.hid (il_in (il_in HP.out hb) (alloc_below w3 (chb A M.length c R K cr C K cc d)))
      have Q3 := Lib.hid (show WQ w3.heap.size A M.length c R K cr C K cc d (w3.alloc (chb A M.length c R K cr C K cc d)) from ⟨by go_simp, by go_simp, by go_simp, by go_simp, by simp⟩)
      clear hb HB HP CH PR
      go_wp2_with fail
      generalize w3.alloc (chb A M.length c R K cr C K cc d) = W0 at *
      generalize w3.heap.size = q at *
      go_loopw [13, 37] (fun pv kv wr => ∃ k A' c', k ≤ M.length ∧ kv = .int .i64 (k : Int) ∧ pv = .slice A' k c' ∧ OR wr W0.heap.size (.slice A' k c') (S.take k) ∧ Below W0.heap.size W0 wr) (fun _ kv _ => M.length - (intOf kv).toNat)
      case atStart => exact ⟨0, none, 0, Nat.zero_le _, rfl, rfl, by rw [List.take_zero]; exact or_nil _ _, Below.refl _ _⟩
      case round =>
        obtain ⟨k, A2, c2, hk, rfl, rfl, ho, B⟩ := hrel
        have HO := Lib.hid ho
        have HBk := Lib.hid B
        by_cases hlt : k < M.length
        · have hk1 : (k : Int) < (M.length : Int) := by omega
          have hk0 : 0 ≤ (k : Int) := by omega
          obtain ⟨bp, op, rfl, hbp, hcp⟩ := il_in HP3.out B k (by rw [PLN.out]; exact hlt)
          have LEk := Lib.hid (LE.out wr (bstep HB3.out B) k hlt)
          have MBk := Lib.hid (MB.out k hlt)
          have Qk := Lib.hid (wq_below Q3.out B)
          obtain ⟨q0, q1, q2, q3, q4⟩ := wq_s Qk.out
          have TN := Lib.hid (rtake_next (l := S) (k := k) (by rw [FL.out]; exact hlt))
          have TL := Lib.hid (show (S.take k).length = k by rw [List.length_take, FL.out]; omega)
          generalize lft M rows cols (k : Int) x = lf at *
          generalize at_ P k = y at *
          generalize rat_ S k = z at *
          obtain ⟨lf1, lf2⟩ := lf
          clear ho B
          go_wp2_with fail
          with_reducible refine LEk.out.mono ?_
          rintro e w4 ⟨rfl, hb⟩
          have HB4 := Lib.hid (bstep HBk.out hb)
          have HO4 := Lib.hid (or_below HO.out hb (Nat.le_refl _))
          clear hb q0 q1 q2 q3 q4
          go_wp2_with fail
          with_reducible refine (MBk.out _).mono ?_
          rintro e w5 ⟨rfl, hb⟩
          have HB5 := Lib.hid (bstep HB4.out hb)
          have HO5 := Lib.hid (or_below HO4.out hb (Nat.le_refl _))
          clear hb
          go_wp2_with (at_builtin; refine wpR rfl (.tmp 42) (.tmp 49) rfl W0.heap.size (.slice A2 k c2) (S.take k) rfl (World.ownsRow.alloc (HO5.out) _) (by have := HB5.out.size; simp; omega) ⟨w5.heap.size, 0, none⟩ 1 z rfl (rone_new _ _) (by rw [TL.out]; omega) (k + 1) (by rw [TL.out]) ?_; intro A6 c6 w6 ho hg; have HO6 := Lib.hid ho; have HB6 := Lib.hid (below_grown (balloc HB5.out _) hg (by have := HB5.out.size; simp; omega) (fun g hg => (HO5.out.lt g hg).1)); clear ho hg)
          go_roundw
          case rel => exact ⟨k + 1, A6, c6, by omega, by go_num, rfl, by rw [TN.out]; exact HO6.out, HB6.out⟩
          case measure => simp [intOf]; omega
        · obtain rfl : k = M.length := by omega
          have e3 : S.take M.length = S := by rw [← FL.out]; exact List.take_of_length_le (Nat.le_refl _)
          rw [e3] at ho
          go_wp2_with fail
          go_ret2
          exact ⟨A2, c2, rfl, or_il ho, bstep HB3.out B⟩
    · have f1 : fcd M rows cols x = (dvz M rows cols).2 := by
        have V := dvz_v (rows := rows) (cols := cols) hv
        cases c : chB M rows cols with
        | false => rw [fcd_c hv c, V.1 c]
        | true =>
          by_cases d : detR M rows cols = 0
          · rw [fcd_z hv hf c d, V.2.1 c d]
          · exact absurd (V.2.2 c d) z
      rw [fL_ne f1 z, f1]
      have CH := Lib.hid (fun W (B : Below w.heap.size w W) => dvz_err z (c := c) (cr := cr) (cc := cc) (arg_in h.arg B))
      clear h pc hv hf f1
      generalize (dvz M rows cols).2 = e at *
      generalize (prL M x).length = np at *
      have t1 : (e != 0) = true := by simp [z]
      have t2 : (e == 0) = false := by simp [z]
      clear z
      go_enter Try.func25, Try.ntmps25
      go_wp2_with fail
      with_reducible refine PR.out.mono ?_
      rintro e w2 ⟨AP, cp, rfl, hP, hb⟩
      have HB := Lib.hid hb
      clear hb hP
      go_wp2_with fail
      with_reducible refine (CH.out _ HB.out).mono ?_
      rintro e w3 ⟨rfl, hb⟩
      have HB3 := Lib.hid (balloc (bstep HB.out hb) (chb none 0 0 none 0 0 none 0 0 0))
      clear hb
      go_wp2_with fail
      go_ret2
      exact ⟨none, 0, rfl, rls_nil _ _, HB3.out⟩
  · have f1 : fcd M rows cols x = pcode M x := by
      by_cases hv : vcode M = 0
      · cases e : fitB M x with
        | true => exact absurd (pcode_0 hv e).1 pc
        | false => rw [fcd_f hv e, (pcode_1 hv e).1]
      · rw [fcd_v hv, (pcode_v hv).1]
    rw [fL_ne f1 pc, f1]
    have e0 : pL M x = [] := by unfold pL; rw [if_neg pc]
    rw [e0] at PR
    clear h f1 e0
    generalize pcode M x = e at *
    have t1 : (e != 0) = true := by simp [pc]
    have t2 : (e == 0) = false := by simp [pc]
    clear pc
    go_enter Try.func25, Try.ntmps25
    go_wp2_with fail
    with_reducible refine PR.out.mono ?_
    rintro e w2 ⟨AP, cp, rfl, hP, hb⟩
    have HB := Lib.hid hb
    clear hb hP
    go_wp2_with fail
    go_ret2
    exact ⟨none, 0, rfl, rls_nil _ _, HB.out⟩

end Go.Proofs.Ytllonfaogbdbnaa
namespace Go.Proofs.Ytllonfaogbdbnaa
open Go.ChangeShapes Go.WideShapes Go.RowKit
open Cr
/-- what applied answers -/
def apz (M : List (List Int)) (rows cols x : List Int) : Int × Int := if fcd M rows cols x = 0 then (detR M rows cols, 0) else (0, fcd M rows cols x)
theorem apz_e {M : List (List Int)} {rows cols x : List Int} {e : Int} (h : fcd M rows cols x = e) (n : e ≠ 0) : apz M rows cols x = (0, e) := by unfold apz; rw [h, if_neg n]
theorem apz_0 {M : List (List Int)} {rows cols x : List Int} (h : fcd M rows cols x = 0) : apz M rows cols x = (detR M rows cols, 0) := by unfold apz; rw [h, if_pos rfl]
def FS (w : World) (b o k : Nat) (y : Int) (w1 : World) : Prop := w1.cell? ⟨b, o + k, none⟩ = some (.int .i64 y) ∧ Below w.heap.size w w1 ∧ b < w1.heap.size
theorem fs_s {w : World} {b o k : Nat} {y : Int} {w1 : World} (h : FS w b o k y w1) : w1.cell? ⟨b, o + k, none⟩ = some (.int .i64 y) ∧ Below w.heap.size w w1 ∧ b < w1.heap.size := h
theorem fs_of {w : World} {b o k : Nat} {y : Int} {w1 : World} (h : w1.cell? ⟨b, o + k, none⟩ = some (.int .i64 y) ∧ Below w.heap.size w w1 ∧ b < w1.heap.size) : FS w b o k y w1 := h
theorem fs_drew {w : World} {b o k : Nat} {y : Int} {w1 : World} (h : FS w b o k y w1) : FS w b o k y w1.drew := by
  obtain ⟨h0, hB, b0⟩ := h
  exact ⟨h0, Below.drew hB, b0⟩
theorem fs_drewN {w : World} {b o k : Nat} {y : Int} {w1 : World} (h : FS w b o k y w1) (kk : Nat) : FS w b o k y (w1.drewN kk) := by
  obtain ⟨h0, hB, b0⟩ := h
  exact ⟨h0, bdrewN hB kk, b0⟩
theorem fs_bel {w : World} {b o k : Nat} {y : Int} {w1 : World} (h : FS w b o k y w1) : Below w.heap.size w w1 := by
  obtain ⟨h0, hB, b0⟩ := h
  exact hB
theorem fs_below {w : World} {b o k : Nat} {y : Int} {w1 w2 : World} (h : FS w b o k y w1) (hb : Below w1.heap.size w1 w2) : FS w b o k y w2 := by
  obtain ⟨h0, hB, b0⟩ := h
  exact ⟨(hb.cell (p := ⟨b, o + k, none⟩) b0).trans h0, bstep hB hb, Nat.lt_of_lt_of_le b0 hb.size⟩
theorem lft_low {M : List (List Int)} {rows cols x : List Int} {i : Int} (dz : detR M rows cols ≠ 0) : gI (lft M rows cols i x).1 (lft M rows cols i x).2 = 1 := ratq_low dz
def FQ (w : World) (q : Nat) (l1 l2 : Int) (w1 : World) : Prop := w1.cell? ⟨q, 0, none⟩ = some (.int .i64 l1) ∧ w1.cell? ⟨q, 1, none⟩ = some (.int .i64 l2) ∧ Below w.heap.size w w1 ∧ q < w1.heap.size
theorem fq_s {w : World} {q : Nat} {l1 l2 : Int} {w1 : World} (h : FQ w q l1 l2 w1) : w1.cell? ⟨q, 0, none⟩ = some (.int .i64 l1) ∧ w1.cell? ⟨q, 1, none⟩ = some (.int .i64 l2) ∧ Below w.heap.size w w1 ∧ q < w1.heap.size := h
theorem fq_of {w : World} {q : Nat} {l1 l2 : Int} {w1 : World} (h : w1.cell? ⟨q, 0, none⟩ = some (.int .i64 l1) ∧ w1.cell? ⟨q, 1, none⟩ = some (.int .i64 l2) ∧ Below w.heap.size w w1 ∧ q < w1.heap.size) : FQ w q l1 l2 w1 := h
theorem fq_drew {w : World} {q : Nat} {l1 l2 : Int} {w1 : World} (h : FQ w q l1 l2 w1) : FQ w q l1 l2 w1.drew := by
  obtain ⟨h0, h1, hB, b0⟩ := h
  exact ⟨h0, h1, Below.drew hB, b0⟩
theorem fq_drewN {w : World} {q : Nat} {l1 l2 : Int} {w1 : World} (h : FQ w q l1 l2 w1) (kk : Nat) : FQ w q l1 l2 (w1.drewN kk) := by
  obtain ⟨h0, h1, hB, b0⟩ := h
  exact ⟨h0, h1, bdrewN hB kk, b0⟩
theorem fq_bel {w : World} {q : Nat} {l1 l2 : Int} {w1 : World} (h : FQ w q l1 l2 w1) : Below w.heap.size w w1 := by
  obtain ⟨h0, h1, hB, b0⟩ := h
  exact hB
theorem fq_below {w : World} {q : Nat} {l1 l2 : Int} {w1 w2 : World} (h : FQ w q l1 l2 w1) (hb : Below w1.heap.size w1 w2) : FQ w q l1 l2 w2 := by
  obtain ⟨h0, h1, hB, b0⟩ := h
  exact ⟨(hb.cell (p := ⟨q, 0, none⟩) b0).trans h0, (hb.cell (p := ⟨q, 1, none⟩) b0).trans h1, bstep hB hb, Nat.lt_of_lt_of_le b0 hb.size⟩
theorem fq_grown {w w1 w2 : World} {q : Nat} {l1 l2 : Int} {r : Option Nat} {o : Obj} (h : FQ w q l1 l2 w1) (hg : (w1.alloc o).grownBy w2 r) (B : Below w.heap.size w w2) (ne : r ≠ some q) : FQ w q l1 l2 w2 := by
  obtain ⟨h0, h1, _, h3⟩ := h
  have hs := hg.size
  have c : ∀ j v, w1.cell? ⟨q, j, none⟩ = some v → w2.cell? ⟨q, j, none⟩ = some v := fun j v hv => (World.grownBy.cell_far hg ⟨q, j, none⟩ (by simp; omega) ne.symm).trans ((World.cell?_alloc_lt _ _ _ h3).trans hv)
  exact ⟨c _ _ h0, c _ _ h1, B, by simp at hs; omega⟩
theorem fq_alloc {w w1 : World} {l1 l2 : Int} (B : Below w.heap.size w w1) : FQ w w1.heap.size l1 l2 (w1.alloc (rtc (l1, l2))) := ⟨by go_simp, by go_simp, balloc B _, by simp⟩
end Go.Proofs.Ytllonfaogbdbnaa
namespace Go.Proofs.Ytllonfaogbdbnaa
open Go.ChangeShapes Go.WideShapes Go.RowKit
open Cr
theorem gI_scale {g a b : Int} (hg : 0 < g) : gI (g * a) (g * b) = g * gI a b := by
  unfold gI
  rw [Int.natAbs_mul, Int.natAbs_mul, Nat.gcd_mul_left, Int.natCast_mul]
  congr 1
  omega
theorem ratq_scale {g a b : Int} (hg : 0 < g) (hb : 0 < b) : ratq (g * a) (g * b) = ratq a b := by
  have h : 0 < g * b := Int.mul_pos hg hb
  rw [ratq_pos (by omega), ratq_pos (by omega), gI_scale hg, Int.mul_tdiv_mul_of_pos _ _ hg, Int.mul_tdiv_mul_of_pos _ _ hg]
theorem ratq_parts {n d : Int} (hd : 0 < d) : n = gI n d * (ratq n d).1 ∧ d = gI n d * (ratq n d).2 ∧ 0 < gI n d := by
  rw [ratq_pos (by omega)]
  have e : gI n d = (Int.gcd n d : Nat) := rfl
  have d1 := Int.gcd_dvd_left n d
  have d2 := Int.gcd_dvd_right n d
  rw [← e] at d1 d2
  have g1 := gI_pos (n := n) (d := d) (by omega)
  exact ⟨(Int.mul_tdiv_cancel' d1).symm, (Int.mul_tdiv_cancel' d2).symm, by omega⟩
/-- the sum of the absolute values -/
def asum (x : List Int) (k : Nat) : Int := ps (fun j => absI (at_ x j)) k
theorem asum_bd {x : List Int} {m : Nat} (bx : ∀ k, k < m → -1000 ≤ at_ x k ∧ at_ x k ≤ 1000) : ∀ {k : Nat}, k ≤ m → 0 ≤ asum x k ∧ asum x k ≤ 1000 * k
  | 0, _ => by show (0 : Int) ≤ 0 ∧ (0 : Int) ≤ 1000 * ((0 : Nat) : Int); decide
  | k + 1, hk => by
    have h := asum_bd bx (k := k) (by omega)
    have b := absI_bd (bx k (by omega)).1 (bx k (by omega)).2
    show 0 ≤ asum x k + absI (at_ x k) ∧ asum x k + absI (at_ x k) ≤ 1000 * ((k + 1 : Nat) : Int)
    omega
/-- what Off answers -/
def offd (M : List (List Int)) (rows cols x : List Int) : (Int × Int) × Int := if fcd M rows cols x = 0 then (ratq (wst M rows cols * asum x (rw_ M 0).length) (absI (detR M rows cols)), 0) else ((0, 0), fcd M rows cols x)
theorem offd_e {M : List (List Int)} {rows cols x : List Int} {e : Int} (h : fcd M rows cols x = e) (n : e ≠ 0) : offd M rows cols x = ((0, 0), e) := by unfold offd; rw [h, if_neg n]
theorem offd_0 {M : List (List Int)} {rows cols x : List Int} (h : fcd M rows cols x = 0) : offd M rows cols x = (ratq (wst M rows cols * asum x (rw_ M 0).length) (absI (detR M rows cols)), 0) := by unfold offd; rw [if_pos h]
theorem off_eq {M : List (List Int)} {rows cols : List Int} (dz : detR M rows cols ≠ 0) (s : Int) : ratq ((ratq (wst M rows cols) (absI (detR M rows cols))).1 * s) (ratq (wst M rows cols) (absI (detR M rows cols))).2 = ratq (wst M rows cols * s) (absI (detR M rows cols)) := by
  have ad : 0 < absI (detR M rows cols) := by unfold absI; split <;> omega
  obtain ⟨h1, h2, h3⟩ := ratq_parts (n := wst M rows cols) ad
  have h4 := (ratq_abs (n := wst M rows cols) (d := absI (detR M rows cols)) (by omega)).2.2
  generalize ratq (wst M rows cols) (absI (detR M rows cols)) = r at *
  generalize gI (wst M rows cols) (absI (detR M rows cols)) = g at *
  rw [h1, h2, Int.mul_assoc, ratq_scale h3 (by omega)]
theorem wrs_0 {M : List (List Int)} {rows cols : List Int} (h : (dvz M rows cols).2 = 0) : wrs M rows cols = (ratq (wst M rows cols) (absI (detR M rows cols)), 0) := if_pos h
end Go.Proofs.Ytllonfaogbdbnaa
namespace Go.Proofs.Ytllonfaogbdbnaa
open Go.ChangeShapes Go.WideShapes Go.RowKit
open Cr
set_option maxHeartbeats 1000000 in
theorem same_rats (A B : Option Addr) (c d : Nat) (l : List (Int × Int)) (w : World) (hA : RLs w A l) (hB : RLs w B l) (hn : l.length ≤ 1000) : Calls Try.prog 19 #[.slice A l.length c, .slice B l.length d] w fun e w' => e = .returned (.bool true) ∧ Below w.heap.size w w' := by
  have HA := Lib.hid hA
  have HB := Lib.hid hB
  obtain ⟨n, hnn⟩ : ∃ n, l.length = n := ⟨_, rfl⟩
  rw [hnn] at hn ⊢
  have NN := Lib.hid hnn
  have hn' : (n : Int) ≤ 1000 := by omega
  clear hA hB hnn
  go_enter Try.func19, Try.ntmps19
  go_wp2
  go_loopw [5] (fun kv wr => ∃ k : Nat, k ≤ n ∧ kv = .int .i64 k ∧ Below w.heap.size w wr) (fun kv _ => n - (intOf kv).toNat)
  case atStart => exact ⟨0, Nat.zero_le _, rfl, Below.refl _ _⟩
  case round =>
    obtain ⟨k, hk, rfl, Bw⟩ := hrel
    by_cases hlt : k < n
    · have hk1 : (k : Int) < (n : Int) := by omega
      have hk0 : 0 ≤ (k : Int) := by omega
      obtain ⟨b1, o1, rfl, hb1, hc1, hd1⟩ := rls_in HA.out Bw k (by rw [NN.out]; exact hlt)
      obtain ⟨b2, o2, rfl, hb2, hc2, hd2⟩ := rls_in HB.out Bw k (by rw [NN.out]; exact hlt)
      have BW := Lib.hid Bw
      generalize (rat_ l k).1 = y at *
      generalize (rat_ l k).2 = z at *
      clear Bw
      go_wp2_with fail
      go_quiet (fail)
      go_wp2_with fail
      go_roundw
      case rel => exact ⟨k + 1, by omega, by go_num, bdrewN BW.out _⟩
      case measure => simp [intOf]; omega
    · obtain rfl : k = n := by omega
      go_wp2
      go_ret
      exact ⟨rfl, Bw⟩
theorem prL_sm (M : List (List Int)) (x : List Int) (h : M.length ≤ 20) : (pL M x).length ≤ 1000 := by
  unfold pL; split
  · rw [prL_len]; omega
  · simp
theorem fL_sm (M : List (List Int)) (rows cols x : List Int) (h : M.length ≤ 20) : (fL M rows cols x).length ≤ 1000 := by
  unfold fL; split
  · rw [fsL_len]; omega
  · simp
def KW (w : World) (R : Option Addr) (k cr : Nat) (C : Option Addr) (l cc : Nat) (X : Option Addr) (m cx : Nat) (w1 : World) : Prop := w1.cell? ⟨w.heap.size, 0, none⟩ = some (.slice R k cr) ∧ w1.cell? ⟨w.heap.size, 1, none⟩ = some (.slice C l cc) ∧ w1.cell? ⟨w.heap.size, 2, none⟩ = some (.slice X m cx) ∧ Below w.heap.size w w1 ∧ w.heap.size < w1.heap.size
theorem kw_s {w : World} {R : Option Addr} {k cr : Nat} {C : Option Addr} {l cc : Nat} {X : Option Addr} {m cx : Nat} {w1 : World} (h : KW w R k cr C l cc X m cx w1) : w1.cell? ⟨w.heap.size, 0, none⟩ = some (.slice R k cr) ∧ w1.cell? ⟨w.heap.size, 1, none⟩ = some (.slice C l cc) ∧ w1.cell? ⟨w.heap.size, 2, none⟩ = some (.slice X m cx) ∧ Below w.heap.size w w1 ∧ w.heap.size < w1.heap.size := h
theorem kw_of {w : World} {R : Option Addr} {k cr : Nat} {C : Option Addr} {l cc : Nat} {X : Option Addr} {m cx : Nat} {w1 : World} (h : w1.cell? ⟨w.heap.size, 0, none⟩ = some (.slice R k cr) ∧ w1.cell? ⟨w.heap.size, 1, none⟩ = some (.slice C l cc) ∧ w1.cell? ⟨w.heap.size, 2, none⟩ = some (.slice X m cx) ∧ Below w.heap.size w w1 ∧ w.heap.size < w1.heap.size) : KW w R k cr C l cc X m cx w1 := h
theorem kw_drew {w : World} {R : Option Addr} {k cr : Nat} {C : Option Addr} {l cc : Nat} {X : Option Addr} {m cx : Nat} {w1 : World} (h : KW w R k cr C l cc X m cx w1) : KW w R k cr C l cc X m cx w1.drew := by
  obtain ⟨h0, h1, h2, hB, b0⟩ := h
  exact ⟨h0, h1, h2, Below.drew hB, b0⟩
theorem kw_drewN {w : World} {R : Option Addr} {k cr : Nat} {C : Option Addr} {l cc : Nat} {X : Option Addr} {m cx : Nat} {w1 : World} (h : KW w R k cr C l cc X m cx w1) (kk : Nat) : KW w R k cr C l cc X m cx (w1.drewN kk) := by
  obtain ⟨h0, h1, h2, hB, b0⟩ := h
  exact ⟨h0, h1, h2, bdrewN hB kk, b0⟩
theorem kw_bel {w : World} {R : Option Addr} {k cr : Nat} {C : Option Addr} {l cc : Nat} {X : Option Addr} {m cx : Nat} {w1 : World} (h : KW w R k cr C l cc X m cx w1) : Below w.heap.size w w1 := by
  obtain ⟨h0, h1, h2, hB, b0⟩ := h
  exact hB
theorem kw_below {w : World} {R : Option Addr} {k cr : Nat} {C : Option Addr} {l cc : Nat} {X : Option Addr} {m cx : Nat} {w1 w2 : World} (h : KW w R k cr C l cc X m cx w1) (hb : Below w1.heap.size w1 w2) : KW w R k cr C l cc X m cx w2 := by
  obtain ⟨h0, h1, h2, hB, b0⟩ := h
  exact ⟨(hb.cell (p := ⟨w.heap.size, 0, none⟩) b0).trans h0, (hb.cell (p := ⟨w.heap.size, 1, none⟩) b0).trans h1, (hb.cell (p := ⟨w.heap.size, 2, none⟩) b0).trans h2, bstep hB hb, Nat.lt_of_lt_of_le b0 hb.size⟩
theorem kw_new (w : World) (R : Option Addr) (k cr : Nat) (C : Option Addr) (l cc : Nat) (X : Option Addr) (m cx : Nat) : KW w R k cr C l cc X m cx (w.alloc (.cells #[.slice R k cr, .slice C l cc, .slice X m cx] 54)) := ⟨by go_simp, by go_simp, by go_simp, balloc (Below.refl _ _) _, by simp⟩
end Go.Proofs.Ytllonfaogbdbnaa
namespace Go.Proofs.Ytllonfaogbdbnaa
open Go.ChangeShapes Go.WideShapes Go.RowKit
open Cr
theorem hl_le {a b : Nat} : (a / 18446744073709551616 < b / 18446744073709551616 → a ≤ b) ∧ (b / 18446744073709551616 < a / 18446744073709551616 → ¬ a ≤ b) ∧ (a / 18446744073709551616 = b / 18446744073709551616 → (a ≤ b ↔ a % 18446744073709551616 ≤ b % 18446744073709551616)) := by
  refine ⟨fun h => by omega, fun h => by omega, fun h => by omega⟩
theorem absI_natAbs (x : Int) : absI x = (x.natAbs : Int) := by unfold absI; split <;> omega
theorem absI_mul (x y : Int) : absI (x * y) = absI x * absI y := by
  rw [absI_natAbs, absI_natAbs, absI_natAbs, Int.natAbs_mul, Int.natCast_mul]
theorem absI_add (x y : Int) : absI (x + y) ≤ absI x + absI y := by
  rw [absI_natAbs, absI_natAbs, absI_natAbs]; omega
/-- the sum is no greater than the greatest residual times the sum of the absolute values -/
theorem lsum_le {M : List (List Int)} {rows cols x : List Int} {i : Nat} (hi : i < M.length) : ∀ {k : Nat}, k ≤ (rw_ M 0).length → absI (lsum M rows cols (i : Int) x k) ≤ wst M rows cols * asum x k
  | 0, _ => by
    show absI 0 ≤ wst M rows cols * 0
    rw [Int.mul_zero]; decide
  | k + 1, hk => by
    have h := lsum_le (rows := rows) (cols := cols) (x := x) hi (k := k) (by omega)
    have w := wsr_ge M rows cols (rw_ M 0).length (j := k) (by omega) (n := M.length) (i := i) hi
    have w : absI (bord M rows cols (i : Int) (k : Int)) ≤ wst M rows cols := w
    show absI (lsum M rows cols (i : Int) x k + bord M rows cols (i : Int) (k : Int) * at_ x k) ≤ wst M rows cols * (asum x k + absI (at_ x k))
    have a := absI_add (lsum M rows cols (i : Int) x k) (bord M rows cols (i : Int) (k : Int) * at_ x k)
    rw [absI_mul] at a
    have m := Int.mul_le_mul_of_nonneg_right w (absI_nn (at_ x k))
    rw [Int.mul_add]
    omega
theorem ratq_cross {n d : Int} (h : d ≠ 0) : absI (ratq n d).1 * absI d = absI n * (ratq n d).2 := by
  obtain ⟨h1, h2, h3⟩ := ratq_abs (n := n) h
  have g := Nat.gcd_dvd_left n.natAbs d.natAbs
  have g' := Nat.gcd_dvd_right n.natAbs d.natAbs
  have e2 : (ratq n d).2 = ((ratq n d).2.natAbs : Int) := by omega
  rw [e2, absI_natAbs, absI_natAbs, absI_natAbs, h1, h2]
  rw [← Int.natCast_mul, ← Int.natCast_mul]
  congr 1
  generalize Nat.gcd n.natAbs d.natAbs = k at *
  obtain ⟨a, ha⟩ := g
  obtain ⟨b, hb⟩ := g'
  rw [ha, hb]
  rcases Nat.eq_zero_or_pos k with hk | hk
  · subst hk; simp
  · rw [Nat.mul_div_cancel_left _ hk, Nat.mul_div_cancel_left _ hk]
    rw [← Nat.mul_assoc, Nat.mul_comm a k]
/-- the element of the residual times x is at most Off -/
theorem off_le {M : List (List Int)} {rows cols x : List Int} {i : Nat} (hi : i < M.length) (dz : detR M rows cols ≠ 0) :
    absI (lft M rows cols (i : Int) x).1 * (ratq (wst M rows cols * asum x (rw_ M 0).length) (absI (detR M rows cols))).2 ≤ (ratq (wst M rows cols * asum x (rw_ M 0).length) (absI (detR M rows cols))).1 * (lft M rows cols (i : Int) x).2 := by
  have L := lsum_le (rows := rows) (cols := cols) (x := x) hi (Nat.le_refl _)
  have ad : 0 < absI (detR M rows cols) := by unfold absI; split <;> omega
  have c1 := ratq_cross (n := lsum M rows cols (i : Int) x (rw_ M 0).length) dz
  have c2 := ratq_parts (n := wst M rows cols * asum x (rw_ M 0).length) ad
  have p1 := (ratq_abs (n := lsum M rows cols (i : Int) x (rw_ M 0).length) dz).2.2
  have p2 := (ratq_abs (n := wst M rows cols * asum x (rw_ M 0).length) (d := absI (detR M rows cols)) (by omega)).2.2
  show absI (ratq (lsum M rows cols (i : Int) x (rw_ M 0).length) (detR M rows cols)).1 * _ ≤ _ * (ratq (lsum M rows cols (i : Int) x (rw_ M 0).length) (detR M rows cols)).2
  generalize ratq (lsum M rows cols (i : Int) x (rw_ M 0).length) (detR M rows cols) = r at *
  generalize absI (lsum M rows cols (i : Int) x (rw_ M 0).length) = s at *
  generalize wst M rows cols * asum x (rw_ M 0).length = t at *
  generalize absI (detR M rows cols) = D at *
  obtain ⟨c2, c3, c4⟩ := c2
  generalize gI t D = g at *
  generalize ratq t D = o at *
  generalize absI r.1 = a at *
  -- a * D = s * r.2, t = g * o.1, D = g * o.2, s ≤ t
  have h1 : a * (g * o.2) ≤ (g * o.1) * r.2 := by
    rw [← c3, ← c2, c1]
    exact Int.mul_le_mul_of_nonneg_right L (by omega)
  have h2 : g * (a * o.2) ≤ g * (o.1 * r.2) := by
    have e1 : a * (g * o.2) = g * (a * o.2) := by grind
    have e2 : (g * o.1) * r.2 = g * (o.1 * r.2) := by grind
    omega
  exact Int.le_of_mul_le_mul_left h2 c4
theorem at_chosen {M : List (List Int)} {rows cols x : List Int} {k : Nat} (hk : k < rows.length) (dz : detR M rows cols ≠ 0) : lft M rows cols (at_ rows k) x = (0, 1) := by
  have z : ∀ j, j < (rw_ M 0).length → bord M rows cols (at_ rows k) (j : Int) = 0 := fun j _ => bord_1 (cont_hit hk rfl)
  unfold lft
  rw [lsum_zero z, ratq_zero' dz]

end Go.Proofs.Ytllonfaogbdbnaa
