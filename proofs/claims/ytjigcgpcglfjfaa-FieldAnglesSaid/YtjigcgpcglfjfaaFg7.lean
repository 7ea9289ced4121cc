/-
  The contract of field.partGroups: the parts of a panel, each as a group.
-/
import Derived.RangeFuncBox
import Derived.RangeFuncCalls
import Derived.Maps.AppendAt
import Derived.Stop.RegionWithIn
import Derived.Test.YtjigcgpcglfjfaaFg6
import Derived.Test.YtjigcgpcglfjfaaFg7a
namespace Go.Proofs.Ytjigcgpcglfjfaa
open Go.ChangeShapes Go.WideShapes Go.RowKit
open Sh
open Go.Shelf
attribute [local go_sem] Oper.semAt_some
theorem tim_one (a : P3) : tim 1 a = a := by
  obtain ⟨x, y, z⟩ := a
  unfold tim
  simp
theorem ptb_in {W W1 : World} {N g : Nat} {t : P9} (h : PtB W g t) (hb : Below N W W1) (hg : g < N) : PtB W1 g t := (hb.block g hg).trans h
theorem ptb_grown {W W1 : World} {r : Option Nat} {g : Nat} {t : P9} (h : PtB W g t) (hg : W.grownBy W1 r) (hr : ∀ q, r = some q → ∃ o : Obj, W.heap[q]? = some o ∧ o.isCells = false) : PtB W1 g t := by
  refine (hg.block g (ptb_lt h) (fun e => ?_)).trans h
  obtain ⟨o, h1, h2⟩ := hr g e.symm
  rw [show W.heap[g]? = _ from h] at h1
  cases h1; cases h2
/-- the cells of groups -/
def gcs1 (g : Nat × P9) : List Value := [.slice (some ⟨g.1, 0, none⟩) 3 3, .int .i64 (loN (P3F g.2) 3).1, .int .i64 (loN (P3F g.2) 3).2.1, .int .i64 (loN (P3F g.2) 3).2.2, .int .i64 (hiN (P3F g.2) 3).1, .int .i64 (hiN (P3F g.2) 3).2.1, .int .i64 (hiN (P3F g.2) 3).2.2]
def gcs (l : List (Nat × P9)) : List Value := l.flatMap gcs1
theorem gcs_snoc (l : List (Nat × P9)) (g : Nat × P9) : gcs l ++ gcs1 g = gcs (l ++ [g]) := by simp [gcs]
theorem infoG7 : (Try.prog.info? 101).map (fun i => (i.zero, i.size, i.bytes)) = some (some (.agg #[.slice none 0 0, .int .i64 0, .int .i64 0, .int .i64 0, .int .i64 0, .int .i64 0, .int .i64 0]), 7, 72) := by kernel_rfl
def ge7 (b : Nat) (lo hi : P3) : List Value := [.slice (some ⟨b, 0, none⟩) 3 3, .int .i64 lo.1, .int .i64 lo.2.1, .int .i64 lo.2.2, .int .i64 hi.1, .int .i64 hi.2.1, .int .i64 hi.2.2]
theorem ge7_new (w : World) (b : Nat) (lo hi : P3) (ty : TypeId) : ∀ j u, (ge7 b lo hi)[j]? = some u → (w.alloc (.cells #[.slice (some ⟨b, 0, none⟩) 3 3, .int .i64 lo.1, .int .i64 lo.2.1, .int .i64 lo.2.2, .int .i64 hi.1, .int .i64 hi.2.1, .int .i64 hi.2.2] ty)).cell? ((⟨w.heap.size, 0, none⟩ : Addr).add j) = some u := by
  intro j u hu
  have hlt : j < 7 := by
    have := (List.getElem?_eq_some_iff.1 hu).1
    simpa [ge7] using this
  have : j = 0 ∨ j = 1 ∨ j = 2 ∨ j = 3 ∨ j = 4 ∨ j = 5 ∨ j = 6 := by omega
  rcases this with rfl | rfl | rfl | rfl | rfl | rfl | rfl <;> (simp [ge7] at hu; subst hu; simp only [Addr.add]; go_simp)
theorem ge7_one (b : Nat) (lo hi : P3) : ∀ u ∈ ge7 b lo hi, u.oneCell' = true := by
  intro u h
  simp only [ge7, List.mem_cons, List.not_mem_nil, or_false] at h
  rcases h with h | h | h | h | h | h | h <;> (subst h; rfl)
theorem appG_run (w : World) (base : Nat) (v : Value) (k : Nat) (xs : List Value) (hown : w.ownsRow base 101 7 v k xs) (hbase : base ≤ w.heap.size) (hk : k ≤ 1000) (b : Nat) (lo hi : P3) (ty : TypeId) :
    ∃ v' w', (Builtin.append_ #[94, 94] 94 #[v, .slice (some ⟨w.heap.size, 0, none⟩) 1 1]).run Try.prog (w.alloc (.cells #[.slice (some ⟨b, 0, none⟩) 3 3, .int .i64 lo.1, .int .i64 lo.2.1, .int .i64 lo.2.2, .int .i64 hi.1, .int .i64 hi.2.1, .int .i64 hi.2.2] ty)) = .ok v' w' ∧ w'.ownsRow base 101 7 v' (k + 1) (xs ++ ge7 b lo hi) ∧ (w.alloc (.cells #[.slice (some ⟨b, 0, none⟩) 3 3, .int .i64 lo.1, .int .i64 lo.2.1, .int .i64 lo.2.2, .int .i64 hi.1, .int .i64 hi.2.1, .int .i64 hi.2.2] ty)).grownBy w' v.ownBlock := by
  obtain ⟨i0, hi0, z1, z2, z3⟩ := info_parts infoG7
  have hu : Try.prog.underlying 94 = some (.slice 101) := Try.underlying94
  obtain ⟨v', w', h1, h2, h3, _⟩ := run_append_own (P := Try.prog) (w.alloc (.cells #[.slice (some ⟨b, 0, none⟩) 3 3, .int .i64 lo.1, .int .i64 lo.2.1, .int .i64 lo.2.2, .int .i64 hi.1, .int .i64 hi.2.1, .int .i64 hi.2.2] ty)) base 94 94 101 i0 (.agg #[.slice none 0 0, .int .i64 0, .int .i64 0, .int .i64 0, .int .i64 0, .int .i64 0, .int .i64 0]) 7 72 hu hi0 z1 z2 z3 rfl (by decide) v k xs (hown.alloc _) ⟨w.heap.size, 0, none⟩ 1 1 (ge7 b lo hi) rfl (ge7_new w b lo hi ty) (ge7_one b lo hi) (by unfold maxLen; omega) (by omega) (by simp; omega)
  exact ⟨v', w', h1, h2, h3⟩
/-- one more group: all that a round's append gives -/
theorem pg_step (N : Nat) (W w2 : World) (v : Value) (k : Nat) (xs : List Value) (hv : Boxed W (N + 1) 94 v) (hrow : W.ownsRow N 101 7 v k xs) (hN : N ≤ W.heap.size) (hk : k ≤ 1000) (hb : Below W.heap.size W w2) (b : Nat) (lo hi : P3) :
    w2.cell? ⟨N + 1, 0, none⟩ = some v ∧ N + 1 < w2.heap.size ∧ ∃ g' cap' w3, (Builtin.append_ #[94, 94] 94 #[v, .slice (some ⟨w2.heap.size, 0, none⟩) 1 1]).run Try.prog (w2.alloc (.cells #[.slice (some ⟨b, 0, none⟩) 3 3, .int .i64 lo.1, .int .i64 lo.2.1, .int .i64 lo.2.2, .int .i64 hi.1, .int .i64 hi.2.1, .int .i64 hi.2.2] 101)) = .ok (.slice (some ⟨g', 0, none⟩) (k + 1) cap') w3 ∧
      w3.cell? ⟨N + 1, 0, none⟩ = some v ∧ w3.frozen? ⟨N + 1, 0, none⟩ = false ∧ Boxed (w3.setCell ⟨N + 1, 0, none⟩ (.slice (some ⟨g', 0, none⟩) (k + 1) cap')) (N + 1) 94 (.slice (some ⟨g', 0, none⟩) (k + 1) cap') ∧
      (w3.setCell ⟨N + 1, 0, none⟩ (.slice (some ⟨g', 0, none⟩) (k + 1) cap')).ownsRow N 101 7 (.slice (some ⟨g', 0, none⟩) (k + 1) cap') (k + 1) (xs ++ ge7 b lo hi) ∧
      KeepsOthers w2 (w3.setCell ⟨N + 1, 0, none⟩ (.slice (some ⟨g', 0, none⟩) (k + 1) cap')) ∧ Below N w2 (w3.setCell ⟨N + 1, 0, none⟩ (.slice (some ⟨g', 0, none⟩) (k + 1) cap')) ∧
      ∀ q t, PtB w2 q t → PtB (w3.setCell ⟨N + 1, 0, none⟩ (.slice (some ⟨g', 0, none⟩) (k + 1) cap')) q t := by
  have hv2 : Boxed w2 (N + 1) 94 v := (hb.block _ hv.lt).trans hv
  have hr2 : w2.ownsRow N 101 7 v k xs := hrow.kept (below_grown9 hb) (by cases v.ownBlock <;> simp)
  have hs := hb.size
  obtain ⟨v', w3, hrun, hown', hgrow⟩ := appG_run w2 N v k xs hr2 (by omega) hk b lo hi 101
  obtain ⟨g', cap', rfl⟩ := ownsRow_succ hown'
  obtain ⟨hv3, hv4, hr4, hk4, hb4⟩ := hv2.appended (by decide) hr2 (by omega) (Nat.le_succ _) hown' hgrow
  refine ⟨hv2.cell, hv2.lt, g', cap', w3, hrun, hv3.cell, hv3.frozen, hv4, hr4, hk4, hb4, fun q t h => ?_⟩
  have h1 : PtB (w2.alloc (.cells #[.slice (some ⟨b, 0, none⟩) 3 3, .int .i64 lo.1, .int .i64 lo.2.1, .int .i64 lo.2.2, .int .i64 hi.1, .int .i64 hi.2.1, .int .i64 hi.2.2] 101)) q t := ptb_below h ((Below.refl _ _).alloc (Nat.le_refl _) _)
  have h2 : PtB w3 q t := by
    refine (hgrow.block q (ptb_lt h1) (fun e => ?_)).trans h1
    rcases hr2.2 with ⟨rfl, _⟩ | ⟨g, cap, cur, rfl, _, hgb, _⟩
    · cases e
    · have eg : q = g := by simpa [Value.ownBlock] using e
      subst eg
      have h' : w2.heap[q]? = _ := h
      rw [hgb] at h'
      simp at h'
  refine ptb_set h2 (fun e => ?_)
  subst e
  have h' : w3.heap[N + 1]? = _ := h2
  rw [show w3.heap[N + 1]? = _ from hv3] at h'
  simp at h'
theorem stepG {F : Fence} {n : Nat} {P : Program} {ops : Array Oper} {o : Oper} {a : Act} {w : World} {K : Act → World → Prop} {Q : Exit → Act → World → Prop} {E : Prop}
    (hg : o.guard = none) (s x : Operand) (t : TypeId) (hop : o.op = Op.call { callee := Callee.builtin Builtin.append, args := #[s, x], argTypes := #[t, t] })
    (vs vx v : Value) (w' : World) (hs : a.eval s = vs) (hx : a.eval x = vx) (hrun : (Builtin.append_ #[t, t] o.type #[vs, vx]).run P w = .ok v w') (hK : K (a.put o.dst v) w') :
    if Region.wanted o (yielded ops a.tmps) = true then Oper.wpIn F n P o a w K Q else E := by
  have hw : Region.wanted o (yielded ops a.tmps) = true := by simp [Region.wanted, hg]
  rw [if_pos hw]
  have hsem : (o.semAt F.round a.eval).run P w = .ok (.value v) w' := by
    cases F.round <;> simp [Oper.semAt, execOp, hop, resolve, invoke, builtin, hs, hx, hrun, Result.andThen]
  refine ⟨fun f h => ?_, ?_⟩
  · simp [Oper.about, hop, resolve, Target.leads] at h
  · rw [hsem]
    exact hK
/-- what the loop has: the groups of the parts so far -/
def GsI (base L : Nat) (pre : List T5) (W : World) : Prop := ∃ gs : List (Nat × P9), gs.map Prod.snd = pre.map Subtype.val ∧ (∃ v, Boxed W L 94 v ∧ W.ownsRow base 101 7 v gs.length (gcs gs) ∧ True) ∧ ∀ g, g ∈ gs → PtB W g.1 g.2
theorem gsi_own (base L B : Nat) : OwnFrom B (GsI base L) := by
  rintro pre W W' row ⟨gs, h1, h2, h3⟩ hg hr
  exact ⟨gs, h1, holdsRow_own (β := Unit) base L 94 101 7 (fun _ => gs.length) (fun _ => gcs gs) (fun _ _ => True) () W W' row h2 hg (fun r e => (hr r e).2), fun g hgs => ptb_grown (h3 g hgs) hg (fun r e => (hr r e).2)⟩
/-- the end of a round -/
theorem pg_end {N B : Nat} {w W w2 W4 : World} {v' : Value} {gs : List (Nat × P9)} {pre : List T5} {g : Nat} {t : P9} {ht : BdT 512 t} {lo hi : P3} {a : Act}
    (hgs : gs.map Prod.snd = pre.map Subtype.val) (hbW : Below W.heap.size W w2) (hB : Below N w W) (hN : N ≤ W.heap.size) (hpt : ∀ q, q ∈ gs → PtB W q.1 q.2) (hpb : PtB w2 g t) (hlo : loN (P3F t) 3 = lo) (hhi : hiN (P3F t) 3 = hi)
    (hv4 : Boxed W4 (N + 1) 94 v') (hr4 : W4.ownsRow N 101 7 v' (gs.length + 1) (gcs gs ++ ge7 g lo hi)) (hk4 : KeepsOthers w2 W4) (hb4 : Below N w2 W4) (hp4 : ∀ q t, PtB w2 q t → PtB W4 q t) :
    ownPostG B (Below N) (fun pre W => GsI N (N + 1) pre W ∧ Below N w W) (fun _ _ _ => False) (pre ++ [⟨t, ht⟩]) W .normal a W4 := by
  have e : gcs1 (g, t) = ge7 g lo hi := by simp only [gcs1, ge7, hlo, hhi]
  refine ⟨((KeepsOthers.of_grownBy (below_grown9 hbW) (fun j o e => by cases e)).trans hk4).from _, (hbW.mono hN).trans hb4, ⟨gs ++ [(g, t)], by rw [List.map_append, List.map_append, hgs]; rfl, ⟨_, hv4, by rw [List.length_append, ← gcs_snoc, e]; exact hr4, trivial⟩, fun q hq => ?_⟩, (hB.trans (hbW.mono hN)).trans hb4⟩
  rcases List.mem_append.1 hq with h | h
  · exact hp4 _ _ (ptb_below (hpt q h) hbW)
  · simp at h
    subst h
    exact hp4 _ _ hpb
set_option maxRecDepth 100000 in
set_option maxHeartbeats 4000000 in
theorem pgroups_in (n : Nat) (hn : 3 ≤ n) (a b c : P3) (D : Int) (w : World) (hB : BdT 64 (a, b, c)) (h0 : 0 ≤ D) (h3 : D ≤ 3) :
    CallsIn Fence.wide n Try.prog 106 #[pnv a b c, .int .i64 D] w fun e W' => ∃ v gs, e = .returned v ∧ gs.map Prod.snd = cutP D.toNat (a, b, c) ∧ W'.ownsRow w.heap.size 101 7 v gs.length (gcs gs) ∧ (∀ g, g ∈ gs → PtB W' g.1 g.2) ∧ Below w.heap.size w W' := by
  have h1 : 1 ≤ n := by omega
  have hd : D.toNat = 0 ∨ D.toNat = 1 ∨ D.toNat = 2 ∨ D.toNat = 3 := by omega
  have PTC := Lib.hid (fun (m : Nat) (W : World) => (callsIn_wide (n := m)).2 (parts_any (a, b, c) D W))
  obtain ⟨i0, hi, hz0, hz1, hz2⟩ := info_parts infoG7
  refine callsIn_of_wp_marks Try.func106 rfl trivial ?_ rfl
  simp only [Try.ntmps106, List.size_toArray, List.length_cons, List.length_nil, Nat.reduceAdd, Nat.reduceSub, Array.replicate_succ, Array.replicate_zero, List.push_toArray, List.append_toArray, List.nil_append, List.cons_append]
  gi_wp2_with (refine ⟨trivial, ?_⟩; gi_at_call 45; refine (PTC.out _ _).mono ?_; rintro e W2 ⟨rfl, rfl⟩)
  obtain ⟨W0, hW0⟩ : ∃ W0, ((w.alloc (pnc a b c 25)).alloc (.cells #[.slice none 0 0] 94)) = W0 := ⟨_, rfl⟩
  have s0 : W0.heap.size = w.heap.size + 1 + 1 := by rw [← hW0]; simp
  have B0 : Below w.heap.size w W0 := by rw [← hW0]; exact ((Below.refl _ w).alloc (Nat.le_refl _) _).alloc (by simp) _
  have bO : Boxed W0 (w.heap.size + 1) 94 (.slice none 0 0) := by
    rw [← hW0]
    have := Boxed.new (w.alloc (pnc a b c 25)) 94 (.slice none 0 0)
    rwa [World.size_alloc] at this
  have P1 := pan_alloc (pan_new W0 a b c 25) (.cells #[.int .i64 D] 3)
  have c1 : ((W0.alloc (pnc a b c 25)).alloc (.cells #[.int .i64 D] 3)).cell? ⟨w.heap.size + 1 + 1 + 1, 0, none⟩ = some (.int .i64 D) := by rw [← s0]; go_simp
  have bO1 := (bO.alloc (pnc a b c 25)).alloc (.cells #[.int .i64 D] 3)
  have B1 : Below w.heap.size w ((W0.alloc (pnc a b c 25)).alloc (.cells #[.int .i64 D] 3)) := (B0.alloc B0.size _).alloc (by simp; omega) _
  have s1 : ((W0.alloc (pnc a b c 25)).alloc (.cells #[.int .i64 D] 3)).heap.size = w.heap.size + 1 + 1 + 1 + 1 := by simp [s0]
  rw [hW0]
  rw [s0] at P1
  generalize (W0.alloc (pnc a b c 25)).alloc (.cells #[.int .i64 D] 3) = W1 at *
  clear hW0 bO B0
  have hseq := parts_stopsM (n - 1) D.toNat D 64 (a, b, c) w.heap.size (w.heap.size + 1 + 1) (w.heap.size + 1 + 1 + 1) W1 (by omega) (by omega) hB (by rcases hd with e | e | e | e <;> rw [e] <;> decide) (by omega) P1 c1 (by omega)
  refine wpIn_rangeFunc_ownH rfl h1 (gf := 99) (lb := #[.pointer (some ⟨w.heap.size + 1 + 1, 0, none⟩), .pointer (some ⟨w.heap.size + 1 + 1 + 1, 0, none⟩)]) rfl trivial (enters_of Try.func99 (by kernel_rfl) rfl) hseq belowK_t (belowK_b (by omega)) (Below.refl _ W1) (fun _ => rfl)
    (fun pre W => GsI w.heap.size (w.heap.size + 1) pre W ∧ Below w.heap.size w W)
    (fun _ _ _ => False)
    (OwnFrom.and (gsi_own _ _ _) (ownFrom_below (Nat.le_refl _) (by omega)))
    (fun _ _ _ _ _ hs _ _ => hs)
    ⟨⟨[], rfl, ⟨_, bO1, World.ownsRow_nil _ _ _ _, trivial⟩, by simp⟩, B1⟩
    (fun x a' W => ∃ Bx, w.heap.size + 1 < Bx ∧ BxP W Bx x.1 ∧ a' = { tmps := #[pnv a b c, .int .i64 D, .pointer (some ⟨w.heap.size, 0, none⟩), undef, .slice none 0 0, .pointer (some ⟨w.heap.size + 1, 0, none⟩), .pointer (some ⟨Bx, 0, none⟩), pnv a b c, .int .i64 D, .func (.func 99) #[] #[.pointer (some ⟨w.heap.size + 1 + 1, 0, none⟩), .pointer (some ⟨w.heap.size + 1 + 1 + 1, 0, none⟩)], p9v x.1, undef, undef, undef, undef, undef, undef], defers := [] })
    (fun x a' => by
      rintro _ X Y row ⟨Bx, hx, hb, rfl⟩ hg hr
      exact ⟨Bx, hx, bxp_own Bx x.1 () X Y row hb hg (fun r e => (hr r e).2), rfl⟩) ?assign ?body ?done ?stop
  case assign =>
    rintro l pre x W K ⟨hG, hB⟩ hK
    have hL : w.heap.size + 1 < W.heap.size := by obtain ⟨_, _, ⟨_, h, _⟩, _⟩ := hG; exact h.lt
    gi_wp2
    exact hK _ _ ((KeepsOthers.alloc _ _).from _) ((Below.refl _ W).alloc hB.size _) ⟨(gsi_own _ _ 0).alloc _ hG, hB.alloc hB.size _⟩ ⟨W.heap.size, hL, World.alloc_heap_new W _, rfl⟩
  case body =>
    rintro l pre x a' W hl ⟨r, hr⟩ ⟨⟨gs, hgs, ⟨v, hv, hrow, _⟩, hpt⟩, hB⟩ ⟨Bx, hBx, hX, rfl⟩ hlt
    have hc := hv.cell
    obtain ⟨⟨xa, xb, xc⟩, hx5⟩ := x
    have x0 : Pan W Bx xa xb xc := by
      have hX' : W.heap[Bx]? = _ := hX
      refine ⟨?_, ?_, ?_, ?_, ?_, ?_, ?_, ?_, ?_, (Array.getElem?_eq_some_iff.1 hX').1⟩ <;> simp [World.cell?, hX']
    obtain ⟨c0, c1, c2, c3, c4, c5, c6, c7, c8, cl⟩ := x0
    have CC := Lib.hid (fun (m : Nat) (W : World) => (callsIn_wide (n := m)).2 (corners_any xa xb xc 1 W (by rw [tim_one]; exact hx5.1.mono (by decide)) (by rw [tim_one]; exact hx5.2.1.mono (by decide)) (by rw [tim_one]; exact hx5.2.2.mono (by decide))))
    simp only [tim_one] at CC
    generalize hlo : loN (P3F (xa, xb, xc)) 3 = lo at *
    generalize hhi : hiN (P3F (xa, xb, xc)) 3 = hi' at *
    gi_wp2_with fail
    have hk9 : gs.length ≤ 1000 := by
      have e1 : gs.length = pre.length := by have := congrArg List.length hgs; simpa using this
      have e2 : pre.length < 4 ^ 3 := Nat.lt_of_lt_of_le hlt (Nat.pow_le_pow_right (by decide) (by omega))
      have e3 : (4 : Nat) ^ 3 = 64 := rfl
      omega
    have ST := Lib.hid (fun (w2 : World) (hb : Below W.heap.size W w2) (b : Nat) => pg_step w.heap.size W w2 v gs.length (gcs gs) hv hrow hB.size hk9 hb b lo hi')
    refine wpIn_region_any (by kernel_rfl) ?_
    change wpAnyIn _ _ _ _ _ _ _ _ _ (World.drew _)
    refine wpAnyIn_ready (rs := [0, 1]) (by kernel_rfl) (by simp) ?_
    refine AllReadyIn.cons rfl (fun K hK => ?_) ?_
    · go_simp
      refine hK _ _ ?_; clear hK K
      refine wpAnyIn_ready (rs := [1]) (by kernel_rfl) (by simp) ?_
      refine AllReadyIn.cons rfl (fun K hK => ?_) AllReadyIn.nil
      go_simp
      refine hK _ _ ?_; clear hK K
      refine wpAnyIn_ready (rs := [2]) (by kernel_rfl) (by simp) ?_
      refine AllReadyIn.cons rfl (fun K hK => ?_) AllReadyIn.nil
      go_simp
      refine ⟨trivial, fun h => (by cases (show false = true from h)), ?_⟩; gi_at_call 70; refine ((CC.out _ _).inRound l).mono ?_; rintro e w2 ⟨g, rfl, hg, hpb, hb2⟩; obtain ⟨hc2, hl2, g', cap', w3, hrun, hc3, hf3, hv4, hr4, hk4, hb4, hp4⟩ := ST.out w2 (Below.trans (Below.drew (Below.refl W.heap.size W)) hb2) g; have ne2 : ¬ (w2.heap.size = w.heap.size + 1) := (by omega)
      dsimp only
      refine hK _ _ ?_; clear hK K
      refine wpAnyIn_ready (rs := [3]) (by kernel_rfl) (by simp) ?_
      refine AllReadyIn.cons rfl (fun K hK => ?_) AllReadyIn.nil
      go_simp
      refine hK _ _ ?_; clear hK K
      refine wpAnyIn_ready (rs := [4]) (by kernel_rfl) (by simp) ?_
      refine AllReadyIn.cons rfl (fun K hK => ?_) AllReadyIn.nil
      refine stepG rfl (.tmp 11) (.tmp 14) 94 rfl v (.slice (some ⟨w2.heap.size, 0, none⟩) 1 1) (.slice (some ⟨g', 0, none⟩) (gs.length + 1) cap') w3 rfl rfl hrun ?_
      refine hK _ _ ?_; clear hK K
      refine wpAnyIn_ready (rs := [5]) (by kernel_rfl) (by simp) ?_
      refine AllReadyIn.cons rfl (fun K hK => ?_) AllReadyIn.nil
      go_simp
      refine hK _ _ ?_; clear hK K
      refine wpAnyIn_done (by kernel_rfl) ?_ _
      have hbW : Below W.heap.size W w2 := Below.trans (Below.drew (Below.refl W.heap.size W)) hb2
      exact pg_end (a := ⟨#[], []⟩) hgs hbW hB hB.size hpt hpb hlo hhi hv4 hr4 hk4 hb4 hp4
    refine AllReadyIn.cons rfl (fun K hK => ?_) AllReadyIn.nil
    go_simp
    refine hK _ _ ?_; clear hK K
    refine wpAnyIn_ready (rs := [0, 2]) (by kernel_rfl) (by simp) ?_
    refine AllReadyIn.cons rfl (fun K hK => ?_) ?_
    · go_simp
      refine hK _ _ ?_; clear hK K
      refine wpAnyIn_ready (rs := [2]) (by kernel_rfl) (by simp) ?_
      refine AllReadyIn.cons rfl (fun K hK => ?_) AllReadyIn.nil
      go_simp
      refine ⟨trivial, fun h => (by cases (show false = true from h)), ?_⟩; gi_at_call 70; refine ((CC.out _ _).inRound l).mono ?_; rintro e w2 ⟨g, rfl, hg, hpb, hb2⟩; obtain ⟨hc2, hl2, g', cap', w3, hrun, hc3, hf3, hv4, hr4, hk4, hb4, hp4⟩ := ST.out w2 (Below.trans (Below.drew (Below.refl W.heap.size W)) hb2) g; have ne2 : ¬ (w2.heap.size = w.heap.size + 1) := (by omega)
      dsimp only
      refine hK _ _ ?_; clear hK K
      refine wpAnyIn_ready (rs := [3]) (by kernel_rfl) (by simp) ?_
      refine AllReadyIn.cons rfl (fun K hK => ?_) AllReadyIn.nil
      go_simp
      refine hK _ _ ?_; clear hK K
      refine wpAnyIn_ready (rs := [4]) (by kernel_rfl) (by simp) ?_
      refine AllReadyIn.cons rfl (fun K hK => ?_) AllReadyIn.nil
      refine stepG rfl (.tmp 11) (.tmp 14) 94 rfl v (.slice (some ⟨w2.heap.size, 0, none⟩) 1 1) (.slice (some ⟨g', 0, none⟩) (gs.length + 1) cap') w3 rfl rfl hrun ?_
      refine hK _ _ ?_; clear hK K
      refine wpAnyIn_ready (rs := [5]) (by kernel_rfl) (by simp) ?_
      refine AllReadyIn.cons rfl (fun K hK => ?_) AllReadyIn.nil
      go_simp
      refine hK _ _ ?_; clear hK K
      refine wpAnyIn_done (by kernel_rfl) ?_ _
      have hbW : Below W.heap.size W w2 := Below.trans (Below.drew (Below.refl W.heap.size W)) hb2
      exact pg_end (a := ⟨#[], []⟩) hgs hbW hB hB.size hpt hpb hlo hhi hv4 hr4 hk4 hb4 hp4
    refine AllReadyIn.cons rfl (fun K hK => ?_) AllReadyIn.nil
    go_simp
    refine ⟨trivial, fun h => (by cases (show false = true from h)), ?_⟩; gi_at_call 70; refine ((CC.out _ _).inRound l).mono ?_; rintro e w2 ⟨g, rfl, hg, hpb, hb2⟩; obtain ⟨hc2, hl2, g', cap', w3, hrun, hc3, hf3, hv4, hr4, hk4, hb4, hp4⟩ := ST.out w2 (Below.trans (Below.drew (Below.refl W.heap.size W)) hb2) g; have ne2 : ¬ (w2.heap.size = w.heap.size + 1) := (by omega)
    dsimp only
    refine hK _ _ ?_; clear hK K
    refine wpAnyIn_ready (rs := [0, 3]) (by kernel_rfl) (by simp) ?_
    refine AllReadyIn.cons rfl (fun K hK => ?_) ?_
    · go_simp
      refine hK _ _ ?_; clear hK K
      refine wpAnyIn_ready (rs := [3]) (by kernel_rfl) (by simp) ?_
      refine AllReadyIn.cons rfl (fun K hK => ?_) AllReadyIn.nil
      go_simp
      refine hK _ _ ?_; clear hK K
      refine wpAnyIn_ready (rs := [4]) (by kernel_rfl) (by simp) ?_
      refine AllReadyIn.cons rfl (fun K hK => ?_) AllReadyIn.nil
      refine stepG rfl (.tmp 11) (.tmp 14) 94 rfl v (.slice (some ⟨w2.heap.size, 0, none⟩) 1 1) (.slice (some ⟨g', 0, none⟩) (gs.length + 1) cap') w3 rfl rfl hrun ?_
      refine hK _ _ ?_; clear hK K
      refine wpAnyIn_ready (rs := [5]) (by kernel_rfl) (by simp) ?_
      refine AllReadyIn.cons rfl (fun K hK => ?_) AllReadyIn.nil
      go_simp
      refine hK _ _ ?_; clear hK K
      refine wpAnyIn_done (by kernel_rfl) ?_ _
      have hbW : Below W.heap.size W w2 := Below.trans (Below.drew (Below.refl W.heap.size W)) hb2
      exact pg_end (a := ⟨#[], []⟩) hgs hbW hB hB.size hpt hpb hlo hhi hv4 hr4 hk4 hb4 hp4
    refine AllReadyIn.cons rfl (fun K hK => ?_) AllReadyIn.nil
    go_simp
    refine hK _ _ ?_; clear hK K
    refine wpAnyIn_ready (rs := [0]) (by kernel_rfl) (by simp) ?_
    refine AllReadyIn.cons rfl (fun K hK => ?_) AllReadyIn.nil
    go_simp
    refine hK _ _ ?_; clear hK K
    refine wpAnyIn_ready (rs := [4]) (by kernel_rfl) (by simp) ?_
    refine AllReadyIn.cons rfl (fun K hK => ?_) AllReadyIn.nil
    refine stepG rfl (.tmp 11) (.tmp 14) 94 rfl v (.slice (some ⟨w2.heap.size, 0, none⟩) 1 1) (.slice (some ⟨g', 0, none⟩) (gs.length + 1) cap') w3 rfl rfl hrun ?_
    refine hK _ _ ?_; clear hK K
    refine wpAnyIn_ready (rs := [5]) (by kernel_rfl) (by simp) ?_
    refine AllReadyIn.cons rfl (fun K hK => ?_) AllReadyIn.nil
    go_simp
    refine hK _ _ ?_; clear hK K
    refine wpAnyIn_done (by kernel_rfl) ?_ _
    have hbW : Below W.heap.size W w2 := Below.trans (Below.drew (Below.refl W.heap.size W)) hb2
    exact pg_end (a := ⟨#[], []⟩) hgs hbW hB hB.size hpt hpb hlo hhi hv4 hr4 hk4 hb4 hp4
  case done =>
    rintro D' ys W hD hS ⟨⟨gs, hgs, ⟨v, hv, hrow, _⟩, hpt⟩, hB⟩ hK
    have hc := hv.cell
    gi_wp2
    refine ⟨by simp, .inl ⟨_, _, rfl, run_takeDeferred hK, ?_⟩⟩
    exact ⟨_, results_tmp rfl _ _ _, v, gs, rfl, hgs.trans hS, ownsRow_putObj hrow _ hK rfl, fun q hq => ptb_grown (hpt q hq) (grownBy_putObj' W D' _) (fun r e => by cases e; exact ⟨_, hK, rfl⟩), hB.trans (belowK_b (w := w) (Nat.le_refl _) W D' _ _ (by omega) hK rfl rfl)⟩
  case stop =>
    rintro D c pre W _ _ h _
    exact h.elim

end Go.Proofs.Ytjigcgpcglfjfaa
