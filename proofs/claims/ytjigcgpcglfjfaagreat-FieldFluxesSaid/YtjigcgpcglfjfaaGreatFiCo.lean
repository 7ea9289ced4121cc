/-
  The contract of slices.Collect over the parts of a panel.
-/
import Derived.RangeFuncBox
import Derived.Maps.AppendAt
import Derived.Test.YtjigcgpcglfjfaaGreatFiM
import Derived.Test.YtjigcgpcglfjfaaGreatMoM
namespace Go.Proofs.YtjigcgpcglfjfaaGreat
open Go.ChangeShapes Go.WideShapes Go.RowKit
open Sh
open Go.Shelf
attribute [local go_sem] Oper.semAt_some
theorem room_none9 (k : Nat) : Fence.wide.room k := fun d h => by cases h
theorem roundIn_any9 {m m' : Nat} {P : Program} {l : Nat} {f : FuncId} {tmps : Array Value} {assign body : Code} {w : World} {R : Ending → World → Prop}
    (h : RoundIn Fence.wide m P l f tmps assign body w R) : RoundIn Fence.wide m' P l f tmps assign body w R := ⟨h.1, fun c cs _ => h.2 c cs (room_none9 _)⟩
theorem yieldAt_any9 {m : Nat} (m' : Nat) {P : Program} {l : Nat} {args : Array Value} {W : World} {R : Ending → World → Prop} (h : YieldAt Fence.wide m P l args W R) : YieldAt Fence.wide m' P l args W R := by
  obtain ⟨fn, tmps, assign, body, hy, hR⟩ := h
  exact ⟨fn, tmps, assign, body, hy, roundIn_any9 hR⟩
theorem own_base9 {w : World} {B base : Nat} {e : TypeId} {n : Nat} {v : Value} {k : Nat} {xs : List Value} (h : w.ownsRow base e n v k xs) (hB : B ≤ base) : w.ownsRow B e n v k xs := by
  refine ⟨h.1, ?_⟩
  rcases h.2 with hn | ⟨g, cap, cur, rfl, hg, rest⟩
  · exact .inl hn
  · exact .inr ⟨g, cap, cur, rfl, by omega, rest⟩
theorem below_grown9 {W W' : World} (h : Below W.heap.size W W') : W.grownBy W' none := ⟨h.os, h.tape, h.output, h.size, fun k hk _ => h.block k hk⟩
set_option maxRecDepth 100000 in
set_option maxHeartbeats 1000000 in
/-- what a range over the parts of a panel hands out: all of them, in order, or a prefix -/
theorem parts1_in (n : Nat) (d : Nat) (D B : Int) (t : P9) (n₀ Bp Bd l : Nat) (J Jx : List P9 → World → Prop) (hD : D = (d : Int)) (hd : d ≤ 3) (hB : BdT B t) (hb : 2 ^ d * B ≤ 2305843009213693952)
    (HJ : ∀ s X Y, J s X → Below X.heap.size X Y → J s Y)
    (HY : ∀ m pre x X, J pre X → pre.length < 4 ^ d → YieldAt Fence.wide m Tryz.prog l #[p9v x] X fun e W' => (e = .returned (.bool true) ∧ J (pre ++ [x]) W' ∧ Below n₀ X W') ∨ (e = .returned (.bool false) ∧ Jx (pre ++ [x]) W'))
    (W : World) (hn : n₀ ≤ W.heap.size) (hp : Pan W Bp t.1 t.2.1 t.2.2) (hc : W.cell? ⟨Bd, 0, none⟩ = some (.int .i64 D)) (h0 : J [] W) :
    CallsIn Fence.wide n Tryz.prog 104 #[.func (.yield l) #[] #[], .pointer (some ⟨Bp, 0, none⟩), .pointer (some ⟨Bd, 0, none⟩)] W fun e W' => (∃ v, e = .returned v) ∧
      ((∃ ys, ys = cutP d t ∧ J ys W') ∨ (∃ pre, pre <+: cutP d t ∧ Jx pre W')) := by
  have V := Lib.hid (visit_in l n₀ (4 ^ d) J Jx HJ HY d (n - 1) D B t [] W hD hd hB hb hn h0 (by simp))
  clear HJ HY h0 hb hB hd hD hn
  obtain ⟨a, b, c⟩ := t
  obtain ⟨c0, c1, c2, c3, c4, c5, c6, c7, c8, cl⟩ := hp
  generalize cutP d (a, b, c) = L at *
  refine callsIn_of_wp Tryz.func104 rfl trivial ?_ rfl
  simp only [Tryz.ntmps104, List.size_toArray, List.length_cons, List.length_nil, Nat.reduceAdd, Nat.reduceSub, Array.replicate_succ, Array.replicate_zero, List.push_toArray, List.append_toArray, List.nil_append, List.cons_append]
  gi_wp2_with ((first | refine ⟨trivial, fun h => (by cases (show false = true from h)), ?_⟩ | skip); gi_at_call 105; refine V.out.mono ?_; clear V; rintro e W2 (⟨rfl, h1, h2⟩ | ⟨rfl, q, hq, h1⟩))
  · go_end0
    exact ⟨⟨_, rfl⟩, .inl ⟨_, rfl, h1⟩⟩
  · go_end0
    exact ⟨⟨_, rfl⟩, .inr ⟨q, hq, h1⟩⟩
theorem parts_stops (n : Nat) (d : Nat) (D B : Int) (t : P9) (n₀ Bp Bd : Nat) (w : World) (hD : D = (d : Int)) (hd : d ≤ 3) (hB : BdT B t) (hb : 2 ^ d * B ≤ 2305843009213693952) (hn : n₀ ≤ w.heap.size)
    (hp : Pan w Bp t.1 t.2.1 t.2.2) (hc : w.cell? ⟨Bd, 0, none⟩ = some (.int .i64 D)) (hl : Bd < w.heap.size) :
    SeqStopsK Fence.wide n Tryz.prog 104 #[.pointer (some ⟨Bp, 0, none⟩), .pointer (some ⟨Bd, 0, none⟩)] (fun x : P9 => #[p9v x]) (Below n₀) (fun ys => ys = cutP d t) (fun pre => pre <+: cutP d t) (4 ^ d) w := fun l J Jx W hW hJ _ hY h0 =>
  parts1_in n d D B t n₀ Bp Bd l J Jx hD hd hB hb (fun s X Y h b => hJ s X Y none h (below_grown9 b) (fun r e => by cases e)) (fun m pre x X hj hlt => yieldAt_any9 m (hY pre x X hj hlt)) W (Nat.le_trans hn hW.size) (pan_below hp hW) ((hW.cell (p := ⟨Bd, 0, none⟩) hl).trans hc) h0
/-- the cells of panels -/
def pcs9 (t : P9) : List Value := [.int .i64 t.1.1, .int .i64 t.1.2.1, .int .i64 t.1.2.2, .int .i64 t.2.1.1, .int .i64 t.2.1.2.1, .int .i64 t.2.1.2.2, .int .i64 t.2.2.1, .int .i64 t.2.2.2.1, .int .i64 t.2.2.2.2]
def pcs (l : List P9) : List Value := l.flatMap pcs9
theorem pcs_snoc (l : List P9) (t : P9) : pcs l ++ pcs9 t = pcs (l ++ [t]) := by simp [pcs]
theorem infoPn9 : (Tryz.prog.info? 38).map (fun i => (i.zero, i.size, i.bytes)) = some (some (.agg #[.int .i64 0, .int .i64 0, .int .i64 0, .int .i64 0, .int .i64 0, .int .i64 0, .int .i64 0, .int .i64 0, .int .i64 0]), 9, 72) := by kernel_rfl
theorem pcs9_new (w : World) (t : P9) (ty : TypeId) : ∀ j u, (pcs9 t)[j]? = some u → (w.alloc (pnc t.1 t.2.1 t.2.2 ty)).cell? ((⟨w.heap.size, 0, none⟩ : Addr).add j) = some u := by
  intro j u hu
  have hlt : j < 9 := by
    have := (List.getElem?_eq_some_iff.1 hu).1
    simpa [pcs9] using this
  have : j = 0 ∨ j = 1 ∨ j = 2 ∨ j = 3 ∨ j = 4 ∨ j = 5 ∨ j = 6 ∨ j = 7 ∨ j = 8 := by omega
  rcases this with rfl | rfl | rfl | rfl | rfl | rfl | rfl | rfl | rfl
  · have : u = .int .i64 t.1.1 := by simp [pcs9] at hu; exact hu.symm
    subst this
    show (w.alloc (pnc t.1 t.2.1 t.2.2 ty)).cell? ⟨w.heap.size, 0, none⟩ = _
    go_simp
  · have : u = .int .i64 t.1.2.1 := by simp [pcs9] at hu; exact hu.symm
    subst this
    show (w.alloc (pnc t.1 t.2.1 t.2.2 ty)).cell? ⟨w.heap.size, 1, none⟩ = _
    go_simp
  · have : u = .int .i64 t.1.2.2 := by simp [pcs9] at hu; exact hu.symm
    subst this
    show (w.alloc (pnc t.1 t.2.1 t.2.2 ty)).cell? ⟨w.heap.size, 2, none⟩ = _
    go_simp
  · have : u = .int .i64 t.2.1.1 := by simp [pcs9] at hu; exact hu.symm
    subst this
    show (w.alloc (pnc t.1 t.2.1 t.2.2 ty)).cell? ⟨w.heap.size, 3, none⟩ = _
    go_simp
  · have : u = .int .i64 t.2.1.2.1 := by simp [pcs9] at hu; exact hu.symm
    subst this
    show (w.alloc (pnc t.1 t.2.1 t.2.2 ty)).cell? ⟨w.heap.size, 4, none⟩ = _
    go_simp
  · have : u = .int .i64 t.2.1.2.2 := by simp [pcs9] at hu; exact hu.symm
    subst this
    show (w.alloc (pnc t.1 t.2.1 t.2.2 ty)).cell? ⟨w.heap.size, 5, none⟩ = _
    go_simp
  · have : u = .int .i64 t.2.2.1 := by simp [pcs9] at hu; exact hu.symm
    subst this
    show (w.alloc (pnc t.1 t.2.1 t.2.2 ty)).cell? ⟨w.heap.size, 6, none⟩ = _
    go_simp
  · have : u = .int .i64 t.2.2.2.1 := by simp [pcs9] at hu; exact hu.symm
    subst this
    show (w.alloc (pnc t.1 t.2.1 t.2.2 ty)).cell? ⟨w.heap.size, 7, none⟩ = _
    go_simp
  · have : u = .int .i64 t.2.2.2.2 := by simp [pcs9] at hu; exact hu.symm
    subst this
    show (w.alloc (pnc t.1 t.2.1 t.2.2 ty)).cell? ⟨w.heap.size, 8, none⟩ = _
    go_simp
/-- block B holds the panel x: the loop's variable -/
def BxP (W : World) (B : Nat) (x : P9) : Prop := W.heap[B]? = some (.cells #[.int .i64 x.1.1, .int .i64 x.1.2.1, .int .i64 x.1.2.2, .int .i64 x.2.1.1, .int .i64 x.2.1.2.1, .int .i64 x.2.1.2.2, .int .i64 x.2.2.1, .int .i64 x.2.2.2.1, .int .i64 x.2.2.2.2] 38 (0, 0))
theorem bxp_own (B : Nat) (x : P9) : Go.Own (fun (_ : Unit) W => BxP W B x) := fun s X Y row hs hg hrow => by
  have hl : B < X.heap.size := (Array.getElem?_eq_some_iff.1 (show X.heap[B]? = _ from hs)).1
  exact (hg.block B hl (fun e' => by obtain ⟨o, ho, hc⟩ := hrow B e'.symm; rw [show X.heap[B]? = _ from hs] at ho; cases ho; cases hc)).trans hs
theorem parts_any (t : P9) (D : Int) (w : World) :
    Calls Tryz.prog 81 #[p9v t, .int .i64 D] w fun e w' => e = .returned (.func (.func 104) #[] #[.pointer (some ⟨w.heap.size, 0, none⟩), .pointer (some ⟨w.heap.size + 1, 0, none⟩)]) ∧ (w.alloc (pnc t.1 t.2.1 t.2.2 38)).alloc (.cells #[.int .i64 D] 3) = w' := by
  obtain ⟨a, b, c⟩ := t
  go_enter Tryz.func81, Tryz.ntmps81
  go_wp2
  go_ret
  exact ⟨rfl, rfl⟩
/-- the error of a panel that is cut -/
def ctcode (t : P9) (D : Int) : Int := if pcode t.1 t.2.1 t.2.2 = 0 then (if rngB D 0 3 then 0 else 1) else pcode t.1 t.2.1 t.2.2
theorem ctcode_ok {t : P9} {D : Int} (h : ctcode t D = 0) : BdT 64 t ∧ 0 ≤ D ∧ D ≤ 3 := by
  unfold ctcode at h
  by_cases z : pcode t.1 t.2.1 t.2.2 = 0
  · rw [if_pos z] at h
    have hr : rngB D 0 3 = true := by
      cases e : rngB D 0 3 with
      | true => rfl
      | false => rw [e] at h; exact absurd h (by decide)
    refine ⟨?_, (rngB_iff.1 hr).1, (rngB_iff.1 hr).2⟩
    unfold pcode at z
    split at z
    · rename_i hh
      simp only [Bool.and_eq_true] at hh
      exact ⟨inP_iff.1 hh.1.1, inP_iff.1 hh.1.2, inP_iff.1 hh.2⟩
    · exact absurd z (by decide)
  · rw [if_neg z] at h
    exact absurd h z
end Go.Proofs.YtjigcgpcglfjfaaGreat
