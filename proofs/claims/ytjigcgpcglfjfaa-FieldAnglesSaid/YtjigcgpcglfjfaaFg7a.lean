/-
  What a range over the parts of a panel hands out, where the loop's body asks that each part is small.
-/
import Derived.RangeFuncBox
import Derived.RangeFuncCalls
import Derived.Maps.AppendAt
import Derived.Stop.RegionWithIn
import Derived.Test.YtjigcgpcglfjfaaFiCo
namespace Go.Proofs.Ytjigcgpcglfjfaa
open Go.ChangeShapes Go.WideShapes Go.RowKit
open Sh
open Go.Shelf
attribute [local go_sem] Oper.semAt_some
set_option maxRecDepth 100000 in
set_option maxHeartbeats 4000000 in
theorem visit_inM (M : Int) (hM : M ≤ 2305843009213693952) (l n₀ N : Nat) (J Jx : List P9 → World → Prop) (hJ : ∀ s W W', J s W → Below W.heap.size W W' → J s W')
    (hY : ∀ m pre x W, J pre W → pre.length < N → BdT M x → YieldAt Fence.wide m Try.prog l #[p9v x] W fun e W' =>
      (e = .returned (.bool true) ∧ J (pre ++ [x]) W' ∧ Below n₀ W W') ∨ (e = .returned (.bool false) ∧ Jx (pre ++ [x]) W')) :
    ∀ (d n : Nat) (D B : Int) (t : P9) (pre : List P9) (W : World), D = (d : Int) → d ≤ 3 → BdT B t → 2 ^ d * B ≤ M → n₀ ≤ W.heap.size → J pre W → pre.length + 4 ^ d ≤ N →
      CallsIn Fence.wide n Try.prog 100 #[p9v t, .int .i64 D, .func (.yield l) #[] #[]] W (VisR n₀ J Jx pre (cutP d t) W) := by
  intro d
  induction d with
  | zero =>
    rintro n D B ⟨a, b, c⟩ pre W rfl _ hBt hbt hn h0 hN
    have hB0 : Below W.heap.size W (W.alloc (pnc a b c 25)) := (Below.refl _ _).alloc (Nat.le_refl _) _
    obtain ⟨fn, tmps, assign, body, hy, hR⟩ := hY (n - 1) pre (a, b, c) (W.alloc (pnc a b c 25)) (hJ _ _ _ h0 hB0) (by have := hN; simp at this; omega) (hBt.mono (by simp at hbt; omega))
    have HJ := Lib.hid hJ
    clear hJ hY h0 hN hBt hbt
    refine callsIn_of_wp Try.func100 rfl trivial ?_ rfl
    simp only [Try.ntmps100, List.size_toArray, List.length_cons, List.length_nil, Nat.reduceAdd, Nat.reduceSub, Array.replicate_succ, Array.replicate_zero, List.push_toArray, List.append_toArray, List.nil_append, List.cons_append]
    gi_wp2_with ((first | refine ⟨trivial, fun h => (by cases (show false = true from h)), ?_⟩ | refine ⟨fun h => (by cases (show false = true from h)), ?_⟩ | skip); refine hR.mono ?_; clear hR; rintro e W2 (⟨rfl, h1, h2⟩ | ⟨rfl, h1⟩))
    · go_ret
      exact .inl ⟨rfl, h1, (hB0.mono hn).trans h2⟩
    · go_ret
      exact .inr ⟨rfl, _, List.prefix_refl _, h1⟩
  | succ d ih =>
    rintro n D B ⟨a, b, c⟩ pre W hD hd hB hb hn h0 hN
    have p2 : (2 : Int) ^ (d + 1) * B = 2 ^ d * (2 * B) := by rw [Int.pow_succ, Int.mul_assoc]
    have p4 : 4 ^ (d + 1) = 4 * 4 ^ d := by rw [Nat.pow_succ]; omega
    have B60 : BdT 1152921504606846976 (a, b, c) := by
      refine hB.mono ?_
      have d3 : d = 0 ∨ d = 1 ∨ d = 2 := by omega
      have b0 : 0 ≤ B := by have := hB.1.1; have := hB.1.2.1; omega
      rcases d3 with rfl | rfl | rfl <;> simp at hb <;> omega
    have QU := Lib.hid (fun (m : Nat) (W : World) => (callsIn_wide (n := m)).2 (show Calls Try.prog 152 #[pnv a b c] W fun e w' => e = .returned (ar4 (qr0 (a, b, c)) (qr1 (a, b, c)) (qr2 (a, b, c)) (qr3 (a, b, c))) ∧ Below W.heap.size W w' from quarters_any a b c W B60.1 B60.2.1 B60.2.2))
    have IX := Lib.hid (fun (k : Nat) (h : k < 4) (w : World) => index_k (a, b, c) h w)
    have IH := Lib.hid (fun (m k : Nat) (W1 : World) (hk : k < 4) (hn1 : n₀ ≤ W1.heap.size) (hj : J (pre ++ ckP d (a, b, c) k) W1) => ih m (D - 1) (2 * B) (qrk (a, b, c) k) (pre ++ ckP d (a, b, c) k) W1 (by omega) (by omega) (qrk_bd hB k) (by omega) hn1 hj (by
      rw [List.length_append, ckP_len d _ (by omega)]
      have : k * 4 ^ d ≤ 3 * 4 ^ d := Nat.mul_le_mul_right _ (by omega)
      omega))
    have D1 : 1 ≤ D := by omega
    have D2 : D ≤ 3 := by omega
    have D3 : (D == 0) = false := beq_eq_false_iff_ne.2 (by omega)
    have HJ := Lib.hid hJ
    have H0 := Lib.hid h0
    have HN := Lib.hid hn
    clear hJ hY h0 hN ih hD hd hB hb p2 p4 B60 hn
    refine callsIn_of_wp Try.func100 rfl trivial ?_ rfl
    simp only [Try.ntmps100, List.size_toArray, List.length_cons, List.length_nil, Nat.reduceAdd, Nat.reduceSub, Array.replicate_succ, Array.replicate_zero, List.push_toArray, List.append_toArray, List.nil_append, List.cons_append]
    gi_wp2_with ((first | refine ⟨trivial, fun h => (by cases (show false = true from h)), ?_⟩ | refine ⟨fun h => (by cases (show false = true from h)), ?_⟩ | skip); gi_at_call 152; refine (QU.out _ _).mono ?_; rintro e W1 ⟨rfl, hb1⟩)
    have ST : Hid (J (pre ++ ckP d (a, b, c) 0) W1 ∧ Below n₀ W W1) := by
      have z := (((Below.refl _ W).alloc (Nat.le_refl _) (pnc a b c 25)).trans (hb1.mono (by simp)))
      exact Lib.hid ⟨by have := HJ.out _ _ _ H0.out z; simpa [ckP] using this, z.mono HN.out⟩
    clear hb1
    change _ at ST
    gi_loopw [16] (fun kv wr => ∃ k : Nat, k ≤ 4 ∧ kv = .int .i64 k ∧ J (pre ++ ckP d (a, b, c) k) wr ∧ Below n₀ W wr) (fun kv _ => 4 - (intOf kv).toNat)
    case atStart => exact ⟨0, by omega, rfl, ST.out⟩
    case round =>
      clear ST
      obtain ⟨k, hk, rfl, hj, hw⟩ := hrel
      by_cases hlt : k < 4
      · have hk1 : (k : Int) < 4 := by omega
        have hk0 : 0 ≤ (k : Int) := by omega
        have ix := IX.out k hlt
        have sz : n₀ ≤ wr.heap.size := Nat.le_trans HN.out hw.size
        have R := Lib.hid (IH.out (n - 1) k (wr.alloc (pnc (qrk (a, b, c) k).1 (qrk (a, b, c) k).2.1 (qrk (a, b, c) k).2.2 25)) hlt (by simp; omega) (HJ.out _ _ _ hj ((Below.refl _ _).alloc (Nat.le_refl _) _)))
        have NX := Lib.hid (ckP_succ d (a, b, c) hlt)
        have PX := Lib.hid (fun q h => ckP_pre d (a, b, c) hlt (q := q) h)
        have HW := Lib.hid hw
        have SZ := Lib.hid sz
        clear hj hw sz IH IX QU
        generalize qrk (a, b, c) k = p at *
        gi_wp2_with ((first | refine ⟨trivial, fun h => (by cases (show false = true from h)), ?_⟩ | refine ⟨fun h => (by cases (show false = true from h)), ?_⟩ | skip); gi_at_call 100; refine R.out.mono ?_; rintro e W2 (⟨rfl, h1, h2⟩ | ⟨rfl, q, hq, h1⟩))
        · go_roundw
          case rel => exact ⟨k + 1, by omega, by go_num, by rw [NX.out, ← List.append_assoc]; exact h1, HW.out.trans ((((Below.refl _ _).alloc (Nat.le_refl _) _).mono SZ.out).trans h2)⟩
          case measure => simp [intOf]; omega
        · refine bodyPost_ret (results_tmp rfl _ _ _) rfl ?_
          exact .inr ⟨rfl, _, PX.out q hq, by rw [← List.append_assoc]; exact h1⟩
      · obtain rfl : k = 4 := by omega
        gi_wp2
        go_ret
        exact .inl ⟨rfl, hj, hw⟩

set_option maxRecDepth 100000 in
set_option maxHeartbeats 1000000 in
theorem parts1_inM (M : Int) (hM : M ≤ 2305843009213693952) (n : Nat) (d : Nat) (D B : Int) (t : P9) (n₀ Bp Bd l : Nat) (J Jx : List P9 → World → Prop) (hD : D = (d : Int)) (hd : d ≤ 3) (hB : BdT B t) (hb : 2 ^ d * B ≤ M)
    (HJ : ∀ s X Y, J s X → Below X.heap.size X Y → J s Y)
    (HY : ∀ m pre x X, J pre X → pre.length < 4 ^ d → BdT M x → YieldAt Fence.wide m Try.prog l #[p9v x] X fun e W' => (e = .returned (.bool true) ∧ J (pre ++ [x]) W' ∧ Below n₀ X W') ∨ (e = .returned (.bool false) ∧ Jx (pre ++ [x]) W'))
    (W : World) (hn : n₀ ≤ W.heap.size) (hp : Pan W Bp t.1 t.2.1 t.2.2) (hc : W.cell? ⟨Bd, 0, none⟩ = some (.int .i64 D)) (h0 : J [] W) :
    CallsIn Fence.wide n Try.prog 99 #[.func (.yield l) #[] #[], .pointer (some ⟨Bp, 0, none⟩), .pointer (some ⟨Bd, 0, none⟩)] W fun e W' => (∃ v, e = .returned v) ∧
      ((∃ ys, ys = cutP d t ∧ J ys W') ∨ (∃ pre, pre <+: cutP d t ∧ Jx pre W')) := by
  have V := Lib.hid (visit_inM M hM l n₀ (4 ^ d) J Jx HJ HY d (n - 1) D B t [] W hD hd hB hb hn h0 (by simp))
  clear HJ HY h0 hb hB hd hD hn
  obtain ⟨a, b, c⟩ := t
  obtain ⟨c0, c1, c2, c3, c4, c5, c6, c7, c8, cl⟩ := hp
  generalize cutP d (a, b, c) = L at *
  refine callsIn_of_wp Try.func99 rfl trivial ?_ rfl
  simp only [Try.ntmps99, List.size_toArray, List.length_cons, List.length_nil, Nat.reduceAdd, Nat.reduceSub, Array.replicate_succ, Array.replicate_zero, List.push_toArray, List.append_toArray, List.nil_append, List.cons_append]
  gi_wp2_with ((first | refine ⟨trivial, fun h => (by cases (show false = true from h)), ?_⟩ | skip); gi_at_call 100; refine V.out.mono ?_; clear V; rintro e W2 (⟨rfl, h1, h2⟩ | ⟨rfl, q, hq, h1⟩))
  · go_end0
    exact ⟨⟨_, rfl⟩, .inl ⟨_, rfl, h1⟩⟩
  · go_end0
    exact ⟨⟨_, rfl⟩, .inr ⟨q, hq, h1⟩⟩
/-- a panel whose coordinates are at most 512 -/
abbrev T5 := {x : P9 // BdT 512 x}
theorem yieldAt_mono9 {m : Nat} {P : Program} {l : Nat} {args : Array Value} {W : World} {R R' : Ending → World → Prop} (h : YieldAt Fence.wide m P l args W R) (hr : ∀ e w, R e w → R' e w) : YieldAt Fence.wide m P l args W R' := by
  obtain ⟨fn, tmps, assign, body, hy, hR⟩ := h
  exact ⟨fn, tmps, assign, body, hy, hR.mono hr⟩
theorem parts_stopsM (n : Nat) (d : Nat) (D B : Int) (t : P9) (n₀ Bp Bd : Nat) (w : World) (hD : D = (d : Int)) (hd : d ≤ 3) (hB : BdT B t) (hb : 2 ^ d * B ≤ 512) (hn : n₀ ≤ w.heap.size)
    (hp : Pan w Bp t.1 t.2.1 t.2.2) (hc : w.cell? ⟨Bd, 0, none⟩ = some (.int .i64 D)) (hl : Bd < w.heap.size) :
    SeqStopsK Fence.wide n Try.prog 99 #[.pointer (some ⟨Bp, 0, none⟩), .pointer (some ⟨Bd, 0, none⟩)] (fun x : T5 => #[p9v x.1]) (Below n₀) (fun ys => ys.map Subtype.val = cutP d t) (fun pre => pre.map Subtype.val <+: cutP d t) (4 ^ d) w := fun l J Jx W hW hJ _ hY h0 =>
  (parts1_inM 512 (by decide) n d D B t n₀ Bp Bd l (fun q W => ∃ ys : List T5, ys.map Subtype.val = q ∧ J ys W) (fun q W => ∃ ys : List T5, ys.map Subtype.val = q ∧ Jx ys W) hD hd hB hb
    (fun s X Y h b => by
      obtain ⟨ys, e, h⟩ := h
      exact ⟨ys, e, hJ ys X Y none h (below_grown9 b) (fun r e => by cases e)⟩)
    (fun m pre x X hj hlt hx => by
      obtain ⟨ys, e, hj⟩ := hj
      refine yieldAt_mono9 (yieldAt_any9 m (hY ys ⟨x, hx⟩ X hj (by rw [← e, List.length_map] at hlt; exact hlt))) ?_
      rintro e' w' (⟨h1, h2, h3⟩ | ⟨h1, h2⟩)
      · exact .inl ⟨h1, ⟨_, by rw [List.map_append, e]; rfl, h2⟩, h3⟩
      · exact .inr ⟨h1, _, by rw [List.map_append, e]; rfl, h2⟩)
    W (Nat.le_trans hn hW.size) (pan_below hp hW) ((hW.cell (p := ⟨Bd, 0, none⟩) hl).trans hc) ⟨[], rfl, h0⟩).mono fun _ _ ⟨h1, h2⟩ => ⟨h1, by
      rcases h2 with ⟨q, e, ys, e', h⟩ | ⟨q, e, ys, e', h⟩
      · exact .inl ⟨ys, e'.trans e, h⟩
      · exact .inr ⟨ys, by show List.map Subtype.val ys <+: cutP d t; rw [e']; exact e, h⟩⟩

end Go.Proofs.Ytjigcgpcglfjfaa
