/-
  The document's Mutual.
-/
import Derived.Test.YtjigcgpcglfjfaaFg50
namespace Go.Proofs.Ytjigcgpcglfjfaa
open Go.ChangeShapes Go.WideShapes Go.RowKit
open Sh
theorem step_own9 {P : Program} {ops : Array Oper} {o : Oper} {a : Act} {w : World} {K : Act → World → Prop} {Q : Exit → Act → World → Prop} {E : Prop} (hg : o.guard = none) (s x : Operand) (t : TypeId)
    (ho : o.op = .call { callee := .builtin .append, args := #[s, x], argTypes := #[t, t] })
    (base : Nat) (e : TypeId) (i : TypeInfo) (z : Value) (size bytes : Nat) (ht : P.underlying t = some (.slice e)) (hi : P.info? e = some i) (hz : i.zero = some z)
    (hsize : i.size = size) (hby : i.bytes = bytes) (hzs : z.cells.size = size) (hsz : 0 < size)
    (v : Value) (n : Nat) (xs : List Value) (hs : a.eval s = v) (hown : w.ownsRow base e size v n xs)
    (ad : Addr) (m c : Nat) (hx : a.eval x = .slice (some ad) m c) (news : List Value) (hnews : ∀ j u, news[j]? = some u → w.cell? (ad.add j) = some u) (hl : news.length = m * size) (h1 : ∀ u ∈ news, u.oneCell' = true)
    (h63 : n + m ≤ maxLen) (hbytes : (n + m) * bytes ≤ 140737488355328) (hbase : base ≤ w.heap.size)
    (h : ∀ v' w', w'.ownsRow base e size v' (n + m) (xs ++ news) → w.grownBy w' v.ownBlock → K (a.put o.dst v') w') : if Region.wanted o (yielded ops a.tmps) = true then Oper.wp P o a w K Q else E := by
  have hw : Region.wanted o (yielded ops a.tmps) = true := by simp [Region.wanted, hg]
  rw [if_pos hw]
  exact wp_append_own w s x t ho base e i z size bytes ht hi hz hsize hby hzs hsz v n xs hs hown ad m c news hx hl hnews h1 h63 hbytes hbase fun v' w' h2 h3 _ => h v' w' h2 h3
theorem balloc2 {M : Nat} {w w1 : World} (h : Below M w w1) (o : Obj) (hM : M ≤ w1.heap.size) : Below M w (w1.alloc o) := h.alloc hM o
/-- what a panel's parts are seen as, and the mean of it -/
def mutG (t : P9) (D : Int) (q : P9) : Sp.R := (vSee t D q (rmF t D), 0)
def mutL (t u : P9) (D : Int) : List (Int × Int) := gis (mutG t D) (ptk u D) (ptn D)
def mutF (t u : P9) (D : Int) : Sp.R := if prc t u D = 0 then mnR8 (fun k => ((mutL t u D).getD k (0, 0)).1) (fun k => ((mutL t u D).getD k (0, 0)).2) (ptn D) else ((0, 0), prc t u D)
theorem mu_keep {w w2 X : World} {a b c x y z : P3} {g off n k : Nat} {L : Nat → P9} {q : P9} (T : TwP w a b c x y z w2) (R : RowP w2 g off n L) (hk : k < n) (hq : L k = q) (hb : Below w2.heap.size w2 X) : X.cell? ⟨w.heap.size, 0, none⟩ = some (.int .i64 a.1) ∧ X.cell? ⟨w.heap.size, 1, none⟩ = some (.int .i64 a.2.1) ∧ X.cell? ⟨w.heap.size, 2, none⟩ = some (.int .i64 a.2.2) ∧ X.cell? ⟨w.heap.size, 3, none⟩ = some (.int .i64 b.1) ∧ X.cell? ⟨w.heap.size, 4, none⟩ = some (.int .i64 b.2.1) ∧ X.cell? ⟨w.heap.size, 5, none⟩ = some (.int .i64 b.2.2) ∧ X.cell? ⟨w.heap.size, 6, none⟩ = some (.int .i64 c.1) ∧ X.cell? ⟨w.heap.size, 7, none⟩ = some (.int .i64 c.2.1) ∧ X.cell? ⟨w.heap.size, 8, none⟩ = some (.int .i64 c.2.2) ∧ X.cell? ⟨g, off + k * 9, none⟩ = some (.int .i64 q.1.1) ∧ X.cell? ⟨g, off + k * 9 + 1, none⟩ = some (.int .i64 q.1.2.1) ∧ X.cell? ⟨g, off + k * 9 + 1 + 1, none⟩ = some (.int .i64 q.1.2.2) ∧ X.cell? ⟨g, off + k * 9 + 1 + 1 + 1, none⟩ = some (.int .i64 q.2.1.1) ∧ X.cell? ⟨g, off + k * 9 + 1 + 1 + 1 + 1, none⟩ = some (.int .i64 q.2.1.2.1) ∧ X.cell? ⟨g, off + k * 9 + 1 + 1 + 1 + 1 + 1, none⟩ = some (.int .i64 q.2.1.2.2) ∧ X.cell? ⟨g, off + k * 9 + 1 + 1 + 1 + 1 + 1 + 1, none⟩ = some (.int .i64 q.2.2.1) ∧ X.cell? ⟨g, off + k * 9 + 1 + 1 + 1 + 1 + 1 + 1 + 1, none⟩ = some (.int .i64 q.2.2.2.1) ∧ X.cell? ⟨g, off + k * 9 + 1 + 1 + 1 + 1 + 1 + 1 + 1 + 1, none⟩ = some (.int .i64 q.2.2.2.2) := by
  obtain ⟨⟨k0, k1, k2, k3, k4, k5, k6, k7, k8, k9⟩, _⟩ := twp_below T hb
  have r := (rowP_in R hb R.1).2 k hk
  rw [hq] at r
  exact ⟨k0, k1, k2, k3, k4, k5, k6, k7, k8, r⟩
set_option maxRecDepth 100000 in
set_option maxHeartbeats 4000000 in
theorem rmut_no (t u : P9) (D pc : Int) (w : World) (V : Hid (∀ W, Calls Try.prog 71 #[p9v t, p9v u, .int .i64 D] W fun e w' => e = .returned (.int .i64 pc) ∧ Below W.heap.size W w')) (zz : (pc != 0) = true) : Calls Try.prog 29 #[p9v t, p9v u, .int .i64 D] w fun e w' => e = .returned (spr ((0, 0), pc)) ∧ Below w.heap.size w w' := by
  obtain ⟨a, b, c⟩ := t
  obtain ⟨x, y, z⟩ := u
  have T0 := Lib.hid (twp_new w a b c x y z)
  obtain ⟨⟨k0, k1, k2, k3, k4, k5, k6, k7, k8⟩, u0, u1, u2, u3, u4, u5, u6, u7, u8⟩ : ((((w.alloc (pnc a b c 25)).alloc (pnc x y z 25)).alloc (.cells #[.int .i64 0, .int .i64 0] 35)).cell? ⟨w.heap.size, 0, none⟩ = some (.int .i64 a.1) ∧ (((w.alloc (pnc a b c 25)).alloc (pnc x y z 25)).alloc (.cells #[.int .i64 0, .int .i64 0] 35)).cell? ⟨w.heap.size, 1, none⟩ = some (.int .i64 a.2.1) ∧ (((w.alloc (pnc a b c 25)).alloc (pnc x y z 25)).alloc (.cells #[.int .i64 0, .int .i64 0] 35)).cell? ⟨w.heap.size, 2, none⟩ = some (.int .i64 a.2.2) ∧ (((w.alloc (pnc a b c 25)).alloc (pnc x y z 25)).alloc (.cells #[.int .i64 0, .int .i64 0] 35)).cell? ⟨w.heap.size, 3, none⟩ = some (.int .i64 b.1) ∧ (((w.alloc (pnc a b c 25)).alloc (pnc x y z 25)).alloc (.cells #[.int .i64 0, .int .i64 0] 35)).cell? ⟨w.heap.size, 4, none⟩ = some (.int .i64 b.2.1) ∧ (((w.alloc (pnc a b c 25)).alloc (pnc x y z 25)).alloc (.cells #[.int .i64 0, .int .i64 0] 35)).cell? ⟨w.heap.size, 5, none⟩ = some (.int .i64 b.2.2) ∧ (((w.alloc (pnc a b c 25)).alloc (pnc x y z 25)).alloc (.cells #[.int .i64 0, .int .i64 0] 35)).cell? ⟨w.heap.size, 6, none⟩ = some (.int .i64 c.1) ∧ (((w.alloc (pnc a b c 25)).alloc (pnc x y z 25)).alloc (.cells #[.int .i64 0, .int .i64 0] 35)).cell? ⟨w.heap.size, 7, none⟩ = some (.int .i64 c.2.1) ∧ (((w.alloc (pnc a b c 25)).alloc (pnc x y z 25)).alloc (.cells #[.int .i64 0, .int .i64 0] 35)).cell? ⟨w.heap.size, 8, none⟩ = some (.int .i64 c.2.2)) ∧ (((w.alloc (pnc a b c 25)).alloc (pnc x y z 25)).alloc (.cells #[.int .i64 0, .int .i64 0] 35)).cell? ⟨w.heap.size + 1, 0, none⟩ = some (.int .i64 x.1) ∧ (((w.alloc (pnc a b c 25)).alloc (pnc x y z 25)).alloc (.cells #[.int .i64 0, .int .i64 0] 35)).cell? ⟨w.heap.size + 1, 1, none⟩ = some (.int .i64 x.2.1) ∧ (((w.alloc (pnc a b c 25)).alloc (pnc x y z 25)).alloc (.cells #[.int .i64 0, .int .i64 0] 35)).cell? ⟨w.heap.size + 1, 2, none⟩ = some (.int .i64 x.2.2) ∧ (((w.alloc (pnc a b c 25)).alloc (pnc x y z 25)).alloc (.cells #[.int .i64 0, .int .i64 0] 35)).cell? ⟨w.heap.size + 1, 3, none⟩ = some (.int .i64 y.1) ∧ (((w.alloc (pnc a b c 25)).alloc (pnc x y z 25)).alloc (.cells #[.int .i64 0, .int .i64 0] 35)).cell? ⟨w.heap.size + 1, 4, none⟩ = some (.int .i64 y.2.1) ∧ (((w.alloc (pnc a b c 25)).alloc (pnc x y z 25)).alloc (.cells #[.int .i64 0, .int .i64 0] 35)).cell? ⟨w.heap.size + 1, 5, none⟩ = some (.int .i64 y.2.2) ∧ (((w.alloc (pnc a b c 25)).alloc (pnc x y z 25)).alloc (.cells #[.int .i64 0, .int .i64 0] 35)).cell? ⟨w.heap.size + 1, 6, none⟩ = some (.int .i64 z.1) ∧ (((w.alloc (pnc a b c 25)).alloc (pnc x y z 25)).alloc (.cells #[.int .i64 0, .int .i64 0] 35)).cell? ⟨w.heap.size + 1, 7, none⟩ = some (.int .i64 z.2.1) ∧ (((w.alloc (pnc a b c 25)).alloc (pnc x y z 25)).alloc (.cells #[.int .i64 0, .int .i64 0] 35)).cell? ⟨w.heap.size + 1, 8, none⟩ = some (.int .i64 z.2.2) := by
    obtain ⟨h0, h1, h2, h3, h4, h5, h6, h7, h8, h9⟩ := twp_cells T0.out
    exact ⟨⟨h0, h1, h2, h3, h4, h5, h6, h7, h8⟩, h9⟩
  go_enter Try.func29, Try.ntmps29
  go_wp2_with fail
  refine (V.out _).mono ?_
  rintro e w1 ⟨rfl, hb1⟩
  clear k0 k1 k2 k3 k4 k5 k6 k7 k8 u0 u1 u2 u3 u4 u5 u6 u7 u8
  have T1 := Lib.hid (twp_below T0.out hb1)
  clear T0 hb1
  obtain ⟨o0, o1, o2, o3, o4⟩ := T1.out.2.2.1
  go_wp2
  refine bodyPost_ret (v := spr ((0, 0), pc)) (by rw [results_cell_tmp rfl]; go_simp) rfl ⟨rfl, ?_⟩
  have hB := T1.out.2.2.2
  (repeat' (first | with_reducible exact hB | (with_reducible refine Below.setCell ?_ (by simp <;> omega) _)))
set_option maxRecDepth 100000 in
set_option maxHeartbeats 4000000 in
theorem rmut_yes (t u : P9) (D : Int) (n : Nat) (G : P9 → Sp.R) (L : Nat → P9) (res : Sp.R) (w : World) (n0 : 0 < n) (n1 : n ≤ 64) (V : Hid (∀ W, Calls Try.prog 71 #[p9v t, p9v u, .int .i64 D] W fun e w' => e = .returned (.int .i64 0) ∧ Below W.heap.size W w'))
    (CC : Hid (∀ W, Calls Try.prog 48 #[p9v u, .int .i64 D] W fun e w' => ∃ g off cap, e = .returned (.slice (some ⟨g, off, none⟩) n cap) ∧ RowP w' g off n L ∧ Below W.heap.size W w'))
    (S' : Hid (∀ k, k < n → ∀ W, Calls Try.prog 72 #[p9v t, .int .i64 D, p9v (L k)] W fun e w' => e = .returned (.agg #[.int .i64 (G (L k)).1.1, .int .i64 (G (L k)).1.2]) ∧ Below W.heap.size W w'))
    (M' : Hid (∀ W base v, W.ownsRow base 35 2 v n (svs (gis G L n)) → Calls Try.prog 75 #[v] W fun e w' => e = .returned (spr res) ∧ Below W.heap.size W w')) : Calls Try.prog 29 #[p9v t, p9v u, .int .i64 D] w fun e w' => e = .returned (spr res) ∧ Below w.heap.size w w' := by
  obtain ⟨i0, hi, hz0, hz1, hz2⟩ := info_parts infoSp8
  have HI := Lib.hid hi
  have HZ0 := Lib.hid hz0
  have HZ1 := Lib.hid hz1
  have HZ2 := Lib.hid hz2
  clear hi hz0 hz1 hz2
  obtain ⟨a, b, c⟩ := t
  obtain ⟨x, y, z⟩ := u
  have T0 := Lib.hid (twp_new w a b c x y z)
  obtain ⟨⟨k0, k1, k2, k3, k4, k5, k6, k7, k8⟩, u0, u1, u2, u3, u4, u5, u6, u7, u8⟩ : ((((w.alloc (pnc a b c 25)).alloc (pnc x y z 25)).alloc (.cells #[.int .i64 0, .int .i64 0] 35)).cell? ⟨w.heap.size, 0, none⟩ = some (.int .i64 a.1) ∧ (((w.alloc (pnc a b c 25)).alloc (pnc x y z 25)).alloc (.cells #[.int .i64 0, .int .i64 0] 35)).cell? ⟨w.heap.size, 1, none⟩ = some (.int .i64 a.2.1) ∧ (((w.alloc (pnc a b c 25)).alloc (pnc x y z 25)).alloc (.cells #[.int .i64 0, .int .i64 0] 35)).cell? ⟨w.heap.size, 2, none⟩ = some (.int .i64 a.2.2) ∧ (((w.alloc (pnc a b c 25)).alloc (pnc x y z 25)).alloc (.cells #[.int .i64 0, .int .i64 0] 35)).cell? ⟨w.heap.size, 3, none⟩ = some (.int .i64 b.1) ∧ (((w.alloc (pnc a b c 25)).alloc (pnc x y z 25)).alloc (.cells #[.int .i64 0, .int .i64 0] 35)).cell? ⟨w.heap.size, 4, none⟩ = some (.int .i64 b.2.1) ∧ (((w.alloc (pnc a b c 25)).alloc (pnc x y z 25)).alloc (.cells #[.int .i64 0, .int .i64 0] 35)).cell? ⟨w.heap.size, 5, none⟩ = some (.int .i64 b.2.2) ∧ (((w.alloc (pnc a b c 25)).alloc (pnc x y z 25)).alloc (.cells #[.int .i64 0, .int .i64 0] 35)).cell? ⟨w.heap.size, 6, none⟩ = some (.int .i64 c.1) ∧ (((w.alloc (pnc a b c 25)).alloc (pnc x y z 25)).alloc (.cells #[.int .i64 0, .int .i64 0] 35)).cell? ⟨w.heap.size, 7, none⟩ = some (.int .i64 c.2.1) ∧ (((w.alloc (pnc a b c 25)).alloc (pnc x y z 25)).alloc (.cells #[.int .i64 0, .int .i64 0] 35)).cell? ⟨w.heap.size, 8, none⟩ = some (.int .i64 c.2.2)) ∧ (((w.alloc (pnc a b c 25)).alloc (pnc x y z 25)).alloc (.cells #[.int .i64 0, .int .i64 0] 35)).cell? ⟨w.heap.size + 1, 0, none⟩ = some (.int .i64 x.1) ∧ (((w.alloc (pnc a b c 25)).alloc (pnc x y z 25)).alloc (.cells #[.int .i64 0, .int .i64 0] 35)).cell? ⟨w.heap.size + 1, 1, none⟩ = some (.int .i64 x.2.1) ∧ (((w.alloc (pnc a b c 25)).alloc (pnc x y z 25)).alloc (.cells #[.int .i64 0, .int .i64 0] 35)).cell? ⟨w.heap.size + 1, 2, none⟩ = some (.int .i64 x.2.2) ∧ (((w.alloc (pnc a b c 25)).alloc (pnc x y z 25)).alloc (.cells #[.int .i64 0, .int .i64 0] 35)).cell? ⟨w.heap.size + 1, 3, none⟩ = some (.int .i64 y.1) ∧ (((w.alloc (pnc a b c 25)).alloc (pnc x y z 25)).alloc (.cells #[.int .i64 0, .int .i64 0] 35)).cell? ⟨w.heap.size + 1, 4, none⟩ = some (.int .i64 y.2.1) ∧ (((w.alloc (pnc a b c 25)).alloc (pnc x y z 25)).alloc (.cells #[.int .i64 0, .int .i64 0] 35)).cell? ⟨w.heap.size + 1, 5, none⟩ = some (.int .i64 y.2.2) ∧ (((w.alloc (pnc a b c 25)).alloc (pnc x y z 25)).alloc (.cells #[.int .i64 0, .int .i64 0] 35)).cell? ⟨w.heap.size + 1, 6, none⟩ = some (.int .i64 z.1) ∧ (((w.alloc (pnc a b c 25)).alloc (pnc x y z 25)).alloc (.cells #[.int .i64 0, .int .i64 0] 35)).cell? ⟨w.heap.size + 1, 7, none⟩ = some (.int .i64 z.2.1) ∧ (((w.alloc (pnc a b c 25)).alloc (pnc x y z 25)).alloc (.cells #[.int .i64 0, .int .i64 0] 35)).cell? ⟨w.heap.size + 1, 8, none⟩ = some (.int .i64 z.2.2) := by
    obtain ⟨h0, h1, h2, h3, h4, h5, h6, h7, h8, h9⟩ := twp_cells T0.out
    exact ⟨⟨h0, h1, h2, h3, h4, h5, h6, h7, h8⟩, h9⟩
  go_enter Try.func29, Try.ntmps29
  go_wp2_with fail
  refine (V.out _).mono ?_
  rintro e w1 ⟨rfl, hb1⟩
  clear k0 k1 k2 k3 k4 k5 k6 k7 k8 u0 u1 u2 u3 u4 u5 u6 u7 u8
  have T1 := Lib.hid (twp_below T0.out hb1)
  clear T0 hb1
  obtain ⟨u0, u1, u2, u3, u4, u5, u6, u7, u8, u9⟩ := T1.out.2.1
  go_wp2_with fail
  refine (CC.out _).mono ?_
  rintro e w2 ⟨g, off, cap, rfl, hrow, hb2⟩
  have T2 := Lib.hid (twp_below T1.out hb2)
  have R2 := Lib.hid hrow
  clear T1 hb2 hrow u0 u1 u2 u3 u4 u5 u6 u7 u8 u9
  go_wp2_with fail
  go_loopw [9, 11] (fun sv kv wr => ∃ k : Nat, k ≤ n ∧ kv = .int .i64 k ∧ wr.ownsRow w2.heap.size 35 2 sv k (svs (gis G L k)) ∧ Below w2.heap.size w2 wr) (fun _ kv _ => n - (intOf kv).toNat)
  case atStart => exact ⟨0, Nat.zero_le _, rfl, World.ownsRow_nil _ _ _ _, Below.refl _ _⟩
  case round =>
    obtain ⟨k, hk, rfl, hrow, hbb⟩ := hrel
    have ROW := Lib.hid hrow
    have B3 := Lib.hid hbb
    clear hrow hbb
    by_cases hlt : k < n
    · have hk1 : (k : Int) < (n : Int) := by omega
      have hk0 : 0 ≤ (k : Int) := by omega
      have SK := S'.out k hlt
      have GS := Lib.hid (show gis G L (k + 1) = gis G L k ++ [(G (L k)).1] from rfl)
      obtain ⟨q, hq⟩ : ∃ q, L k = q := ⟨_, rfl⟩
      have KEEP := Lib.hid (fun (X : World) (hb : Below w2.heap.size w2 X) => mu_keep T2.out R2.out hlt hq hb)
      rw [hq] at SK GS
      obtain ⟨⟨⟨p, r⟩, pr2⟩, hgr⟩ : ∃ gr, G q = gr := ⟨_, rfl⟩
      rw [hgr] at SK GS
      have SA : Hid (∀ W, Calls Try.prog 72 #[pnv a b c, .int .i64 D, p9w q] W fun e w' => e = .returned (.agg #[.int .i64 p, .int .i64 r]) ∧ Below W.heap.size W w') := Lib.hid SK
      have sz2 := B3.out.size
      have b0 := Lib.hid (show Below w2.heap.size w2 wr.drew from Below.drew B3.out)
      have rz0 := Lib.hid (show wr.drew.ownsRow w2.heap.size 35 2 _ k (svs (gis G L k)) from ROW.out)
      clear SK hq hgr
      go_wp2_with fail
      go_region_held3 (fun w' => w'.cell? ⟨w.heap.size, 0, none⟩ = some (.int .i64 a.1) ∧ w'.cell? ⟨w.heap.size, 1, none⟩ = some (.int .i64 a.2.1) ∧ w'.cell? ⟨w.heap.size, 2, none⟩ = some (.int .i64 a.2.2) ∧ w'.cell? ⟨w.heap.size, 3, none⟩ = some (.int .i64 b.1) ∧ w'.cell? ⟨w.heap.size, 4, none⟩ = some (.int .i64 b.2.1) ∧ w'.cell? ⟨w.heap.size, 5, none⟩ = some (.int .i64 b.2.2) ∧ w'.cell? ⟨w.heap.size, 6, none⟩ = some (.int .i64 c.1) ∧ w'.cell? ⟨w.heap.size, 7, none⟩ = some (.int .i64 c.2.1) ∧ w'.cell? ⟨w.heap.size, 8, none⟩ = some (.int .i64 c.2.2) ∧ w'.cell? ⟨g, off + k * 9, none⟩ = some (.int .i64 q.1.1) ∧ w'.cell? ⟨g, off + k * 9 + 1, none⟩ = some (.int .i64 q.1.2.1) ∧ w'.cell? ⟨g, off + k * 9 + 1 + 1, none⟩ = some (.int .i64 q.1.2.2) ∧ w'.cell? ⟨g, off + k * 9 + 1 + 1 + 1, none⟩ = some (.int .i64 q.2.1.1) ∧ w'.cell? ⟨g, off + k * 9 + 1 + 1 + 1 + 1, none⟩ = some (.int .i64 q.2.1.2.1) ∧ w'.cell? ⟨g, off + k * 9 + 1 + 1 + 1 + 1 + 1, none⟩ = some (.int .i64 q.2.1.2.2) ∧ w'.cell? ⟨g, off + k * 9 + 1 + 1 + 1 + 1 + 1 + 1, none⟩ = some (.int .i64 q.2.2.1) ∧ w'.cell? ⟨g, off + k * 9 + 1 + 1 + 1 + 1 + 1 + 1 + 1, none⟩ = some (.int .i64 q.2.2.2.1) ∧ w'.cell? ⟨g, off + k * 9 + 1 + 1 + 1 + 1 + 1 + 1 + 1 + 1, none⟩ = some (.int .i64 q.2.2.2.2))
        (first | (with_reducible exact KEEP.out _ b0.out) | (with_reducible exact KEEP.out _ b1.out) | (with_reducible exact KEEP.out _ b2.out) | (with_reducible exact KEEP.out _ b5.out) | fail)
        (first | (go_at_call 72; (with_reducible refine (SA.out _).mono ?_); rintro e v1 ⟨rfl, hv1⟩; have b1 := Lib.hid (b0.out.trans (hv1.mono sz2)); have b2 := Lib.hid (balloc2 b1.out (.cells #[.int .i64 p, .int .i64 r] 35) (Nat.le_trans sz2 hv1.size)); have rz1 := Lib.hid (own_below9 rz0.out hv1); have sz3 := Nat.le_trans sz2 hv1.size) | (refine step_own9 rfl (.tmp 29) (.tmp 37) 106 rfl w2.heap.size 35 i0 (.agg #[.int .i64 0, .int .i64 0]) 2 16 Try.underlying106 HI.out HZ0.out HZ1.out HZ2.out rfl (by decide) _ k (svs (gis G L k)) (by simp [Act.eval]) (World.ownsRow.alloc rz1.out _) ⟨v1.heap.size, 0, none⟩ 1 1 (by simp [Act.eval]) [.int .i64 p, .int .i64 r] (sp2_new _ _ _ _) rfl (by intro u hu; simp at hu; rcases hu with rfl | rfl <;> rfl) (by unfold maxLen; omega) (by omega) (by simp; omega) ?_; intro v' w5 hown' hgrow; have OW5 := Lib.hid hown'; have b5 := Lib.hid (b2.out.grown hgrow (by simp; omega) (fun gg hg => (rz1.out.lt gg hg).1)); clear hown' hgrow) | fail)
      all_goals
        go_wp2
        go_roundw
        case rel => exact ⟨k + 1, by omega, by go_num, by rw [GS.out, ← svs_snoc]; exact OW5.out, b5.out⟩
        case measure => simp [intOf]; omega
    · obtain rfl : k = n := by omega
      have T3 := Lib.hid (twp_below T2.out B3.out)
      go_wp2_with fail
      refine (M'.out _ _ _ ROW.out).mono ?_
      rintro e w6 ⟨rfl, hb6⟩
      have T4 := twp_below T3.out hb6
      have hB := T4.2.2.2
      obtain ⟨o0, o1, o2, o3, o4⟩ := T4.2.2.1
      clear T3 T2 T4
      go_wp2
      refine bodyPost_ret (v := spr res) (by rw [results_cell_tmp rfl]; go_simp) rfl ⟨rfl, ?_⟩
      (repeat' (first | with_reducible exact hB | (with_reducible refine Below.setCell ?_ (by simp <;> omega) _)))
theorem rmut_any (t u : P9) (D : Int) (w : World) : Calls Try.prog 29 #[p9v t, p9v u, .int .i64 D] w fun e w' => e = .returned (spr (mutF t u D)) ∧ Below w.heap.size w w' := by
  have C1 := fun W => rpr_any t u D W
  unfold mutF
  by_cases h : prc t u D = 0
  · rw [if_pos h]
    rw [h] at C1
    obtain ⟨ht, hu, d0, d2⟩ := prc_ok h
    have d3 : D ≤ 3 := by omega
    have hU := pcode_ok9 hu
    obtain ⟨n0, n1⟩ := ptn_vals d0 d3
    exact rmut_yes t u D (ptn D) (mutG t D) (ptk u D) _ w n0 n1 (Lib.hid C1)
      (Lib.hid fun W => (rcut_any D.toNat D u W (by omega) (by omega) hU).mono (by
        rintro e w' ⟨v, rfl, ho, hb⟩
        obtain ⟨g, off, cap, rfl, hr⟩ := rparts_row ho
        exact ⟨g, off, cap, rfl, hr, hb⟩))
      (Lib.hid fun k hk W => rsee_any t (ptk u D k) D W ht (ptk_bd9 hU d0 d3 hk) d0 d3)
      (Lib.hid fun W base v ho => by
        rcases ho.2 with ⟨_, h'⟩ | ⟨g, cap, cur, rfl, _⟩
        · omega
        · exact rmean8_any g 0 (ptn D) cap _ _ W (row_of8 ho (gis_len _ _ _)) (by omega))
  · rw [if_neg h]
    exact rmut_no t u D _ w (Lib.hid C1) (bne_iff_ne.2 h)

end Go.Proofs.Ytjigcgpcglfjfaa
