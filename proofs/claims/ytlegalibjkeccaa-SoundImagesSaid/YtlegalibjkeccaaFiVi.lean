/-
  The contract of visit: the parts of a panel are handed out, in order, till a round says no more; at every depth, by induction.
-/
import Derived.RangeFuncNested
import Derived.RangeFuncBound
import Derived.RangeFuncCalls
import Derived.RangeFuncLeaves
import Derived.Shelf.Abstract
import Derived.WalkKit
import Derived.OwnWalkIn
import Derived.TacticsInMore
import Derived.LoopNIn
import Derived.LoopIn
import Derived.Test.YtlegalibjkeccaaFiQr
namespace Go.Proofs.Ytlegalibjkeccaa
open Go.ChangeShapes Go.WideShapes Go.RowKit
open Sh
open Go.Shelf
attribute [local go_sem] Oper.semAt_some
/-- the first k of the four cuts -/
def ckP (d : Nat) (t : P9) : Nat → List P9
  | 0 => []
  | 1 => cutP d (qr0 t)
  | 2 => cutP d (qr0 t) ++ cutP d (qr1 t)
  | 3 => cutP d (qr0 t) ++ (cutP d (qr1 t) ++ cutP d (qr2 t))
  | _ => cutP (d + 1) t
def qrk (t : P9) : Nat → P9
  | 0 => qr0 t
  | 1 => qr1 t
  | 2 => qr2 t
  | _ => qr3 t
theorem ckP_succ (d : Nat) (t : P9) {k : Nat} (h : k < 4) : ckP d t (k + 1) = ckP d t k ++ cutP d (qrk t k) := by
  have : k = 0 ∨ k = 1 ∨ k = 2 ∨ k = 3 := by omega
  rcases this with rfl | rfl | rfl | rfl
  · rfl
  · rfl
  · show _ ++ (_ ++ _) = (_ ++ _) ++ _
    rw [List.append_assoc]
    rfl
  · show _ ++ (_ ++ (_ ++ _)) = (_ ++ (_ ++ _)) ++ _
    rw [List.append_assoc, List.append_assoc]
    rfl
theorem ckP_len (d : Nat) (t : P9) {k : Nat} (h : k ≤ 4) : (ckP d t k).length = k * 4 ^ d := by
  induction k with
  | zero => simp [ckP]
  | succ k ih =>
    rw [ckP_succ d t (by omega), List.length_append, ih (by omega), cutP_len, Nat.succ_mul]
theorem ckP_pre (d : Nat) (t : P9) {k : Nat} (h : k < 4) {q : List P9} (hq : q <+: cutP d (qrk t k)) : ckP d t k ++ q <+: cutP (d + 1) t := by
  obtain ⟨r, hr⟩ := hq
  have : k = 0 ∨ k = 1 ∨ k = 2 ∨ k = 3 := by omega
  have e : cutP (d + 1) t = cutP d (qr0 t) ++ (cutP d (qr1 t) ++ (cutP d (qr2 t) ++ cutP d (qr3 t))) := rfl
  rcases this with rfl | rfl | rfl | rfl
  · exact ⟨r ++ (cutP d (qr1 t) ++ (cutP d (qr2 t) ++ cutP d (qr3 t))), by rw [e]; show _ = cutP d (qrk t 0) ++ _; rw [← hr]; simp [ckP, List.append_assoc]⟩
  · exact ⟨r ++ (cutP d (qr2 t) ++ cutP d (qr3 t)), by rw [e]; show _ = _ ++ (cutP d (qrk t 1) ++ _); rw [← hr]; simp [ckP, List.append_assoc]⟩
  · exact ⟨r ++ cutP d (qr3 t), by rw [e]; show _ = _ ++ (_ ++ (cutP d (qrk t 2) ++ _)); rw [← hr]; simp [ckP, List.append_assoc]⟩
  · exact ⟨r, by rw [e]; show _ = _ ++ (_ ++ (_ ++ (cutP d (qrk t 3)))); rw [← hr]; simp [ckP, List.append_assoc]⟩
theorem qrk_bd {B : Int} {t : P9} (h : BdT B t) (k : Nat) : BdT (2 * B) (qrk t k) := by
  unfold qrk
  split
  · exact qr0_bd h
  · exact qr1_bd h
  · exact qr2_bd h
  · exact qr3_bd h
/-- four panels as a value -/
abbrev ar4 (p q r s : P9) : Value := .agg #[.int .i64 p.1.1, .int .i64 p.1.2.1, .int .i64 p.1.2.2, .int .i64 p.2.1.1, .int .i64 p.2.1.2.1, .int .i64 p.2.1.2.2, .int .i64 p.2.2.1, .int .i64 p.2.2.2.1, .int .i64 p.2.2.2.2, .int .i64 q.1.1, .int .i64 q.1.2.1, .int .i64 q.1.2.2, .int .i64 q.2.1.1, .int .i64 q.2.1.2.1, .int .i64 q.2.1.2.2, .int .i64 q.2.2.1, .int .i64 q.2.2.2.1, .int .i64 q.2.2.2.2, .int .i64 r.1.1, .int .i64 r.1.2.1, .int .i64 r.1.2.2, .int .i64 r.2.1.1, .int .i64 r.2.1.2.1, .int .i64 r.2.1.2.2, .int .i64 r.2.2.1, .int .i64 r.2.2.2.1, .int .i64 r.2.2.2.2, .int .i64 s.1.1, .int .i64 s.1.2.1, .int .i64 s.1.2.2, .int .i64 s.2.1.1, .int .i64 s.2.1.2.1, .int .i64 s.2.1.2.2, .int .i64 s.2.2.1, .int .i64 s.2.2.2.1, .int .i64 s.2.2.2.2]
abbrev p9v (t : P9) : Value := pnv t.1 t.2.1 t.2.2
theorem ar4_0 (p q r s : P9) (w : World) : (Instr.index 109 (ar4 p q r s) (.int .i64 0)).run Try.prog w = .ok (p9v p) w := by kernel_rfl
theorem ar4_1 (p q r s : P9) (w : World) : (Instr.index 109 (ar4 p q r s) (.int .i64 1)).run Try.prog w = .ok (p9v q) w := by kernel_rfl
theorem ar4_2 (p q r s : P9) (w : World) : (Instr.index 109 (ar4 p q r s) (.int .i64 2)).run Try.prog w = .ok (p9v r) w := by kernel_rfl
theorem ar4_3 (p q r s : P9) (w : World) : (Instr.index 109 (ar4 p q r s) (.int .i64 3)).run Try.prog w = .ok (p9v s) w := by kernel_rfl
theorem index_k (t : P9) {k : Nat} (h : k < 4) (w : World) : (Instr.index 109 (ar4 (qr0 t) (qr1 t) (qr2 t) (qr3 t)) (.int .i64 (k : Int))).run Try.prog w = .ok (p9v (qrk t k)) w := by
  have : k = 0 ∨ k = 1 ∨ k = 2 ∨ k = 3 := by omega
  rcases this with rfl | rfl | rfl | rfl
  · exact ar4_0 _ _ _ _ w
  · exact ar4_1 _ _ _ _ w
  · exact ar4_2 _ _ _ _ w
  · exact ar4_3 _ _ _ _ w
/-- what visit answers -/
def VisR (n₀ : Nat) (J Jx : List P9 → World → Prop) (pre l : List P9) (W : World) (e : Ending) (W' : World) : Prop :=
  (e = .returned (.bool true) ∧ J (pre ++ l) W' ∧ Below n₀ W W') ∨ (e = .returned (.bool false) ∧ ∃ q, q <+: l ∧ Jx (pre ++ q) W')
set_option maxRecDepth 100000 in
set_option maxHeartbeats 4000000 in
theorem visit_in (l n₀ N : Nat) (J Jx : List P9 → World → Prop) (hJ : ∀ s W W', J s W → Below W.heap.size W W' → J s W')
    (hY : ∀ m pre x W, J pre W → pre.length < N → YieldAt Fence.wide m Try.prog l #[p9v x] W fun e W' =>
      (e = .returned (.bool true) ∧ J (pre ++ [x]) W' ∧ Below n₀ W W') ∨ (e = .returned (.bool false) ∧ Jx (pre ++ [x]) W')) :
    ∀ (d n : Nat) (D B : Int) (t : P9) (pre : List P9) (W : World), D = (d : Int) → d ≤ 3 → BdT B t → 2 ^ d * B ≤ 2305843009213693952 → n₀ ≤ W.heap.size → J pre W → pre.length + 4 ^ d ≤ N →
      CallsIn Fence.wide n Try.prog 85 #[p9v t, .int .i64 D, .func (.yield l) #[] #[]] W (VisR n₀ J Jx pre (cutP d t) W) := by
  intro d
  induction d with
  | zero =>
    rintro n D B ⟨a, b, c⟩ pre W rfl _ _ _ hn h0 hN
    have hB0 : Below W.heap.size W (W.alloc (pnc a b c 25)) := (Below.refl _ _).alloc (Nat.le_refl _) _
    obtain ⟨fn, tmps, assign, body, hy, hR⟩ := hY (n - 1) pre (a, b, c) (W.alloc (pnc a b c 25)) (hJ _ _ _ h0 hB0) (by have := hN; simp at this; omega)
    have HJ := Lib.hid hJ
    clear hJ hY h0 hN
    refine callsIn_of_wp Try.func85 rfl trivial ?_ rfl
    simp only [Try.ntmps85, List.size_toArray, List.length_cons, List.length_nil, Nat.reduceAdd, Nat.reduceSub, Array.replicate_succ, Array.replicate_zero, List.push_toArray, List.append_toArray, List.nil_append, List.cons_append]
    gi_wp2_with ((first | refine ⟨trivial, fun h => (by cases (show false = true from h)), ?_⟩ | refine ⟨fun h => (by cases (show false = true from h)), ?_⟩ | skip); refine hR.mono ?_; clear hR; rintro e W2 (⟨rfl, h1, h2⟩ | ⟨rfl, h1⟩))
    · go_ret
      exact .inl ⟨rfl, h1, (hB0.mono hn).trans h2⟩
    · go_ret
      exact .inr ⟨rfl, _, List.prefix_refl _, h1⟩
  | succ d ih =>
    rintro n D B ⟨a, b, c⟩ pre W hD hd hB hb hn h0 hN
    have p2 : (2 : Int) ^ (d + 1) * B = 2 ^ d * (2 * B) := by rw [Int.pow_succ, Int.mul_assoc]
    have p4 : 4 ^ (d + 1) = 4 * 4 ^ d := by rw [Nat.pow_succ]; omega
    have B60 : BdT 1152921504606846976 (a, b, c) := by
      refine hB.mono ?_
      have d3 : d = 0 ∨ d = 1 ∨ d = 2 := by omega
      have b0 : 0 ≤ B := by have := hB.1.1; have := hB.1.2.1; omega
      rcases d3 with rfl | rfl | rfl <;> simp at hb <;> omega
    have QU := Lib.hid (fun (m : Nat) (W : World) => (callsIn_wide (n := m)).2 (show Calls Try.prog 89 #[pnv a b c] W fun e w' => e = .returned (ar4 (qr0 (a, b, c)) (qr1 (a, b, c)) (qr2 (a, b, c)) (qr3 (a, b, c))) ∧ Below W.heap.size W w' from quarters_any a b c W B60.1 B60.2.1 B60.2.2))
    have IX := Lib.hid (fun (k : Nat) (h : k < 4) (w : World) => index_k (a, b, c) h w)
    have IH := Lib.hid (fun (m k : Nat) (W1 : World) (hk : k < 4) (hn1 : n₀ ≤ W1.heap.size) (hj : J (pre ++ ckP d (a, b, c) k) W1) => ih m (D - 1) (2 * B) (qrk (a, b, c) k) (pre ++ ckP d (a, b, c) k) W1 (by omega) (by omega) (qrk_bd hB k) (by omega) hn1 hj (by
      rw [List.length_append, ckP_len d _ (by omega)]
      have : k * 4 ^ d ≤ 3 * 4 ^ d := Nat.mul_le_mul_right _ (by omega)
      omega))
    have D1 : 1 ≤ D := by omega
    have D2 : D ≤ 3 := by omega
    have D3 : (D == 0) = false := beq_eq_false_iff_ne.2 (by omega)
    have HJ := Lib.hid hJ
    have H0 := Lib.hid h0
    have HN := Lib.hid hn
    clear hJ hY h0 hN ih hD hd hB hb p2 p4 B60 hn
    refine callsIn_of_wp Try.func85 rfl trivial ?_ rfl
    simp only [Try.ntmps85, List.size_toArray, List.length_cons, List.length_nil, Nat.reduceAdd, Nat.reduceSub, Array.replicate_succ, Array.replicate_zero, List.push_toArray, List.append_toArray, List.nil_append, List.cons_append]
    gi_wp2_with ((first | refine ⟨trivial, fun h => (by cases (show false = true from h)), ?_⟩ | refine ⟨fun h => (by cases (show false = true from h)), ?_⟩ | skip); gi_at_call 89; refine (QU.out _ _).mono ?_; rintro e W1 ⟨rfl, hb1⟩)
    have ST : Hid (J (pre ++ ckP d (a, b, c) 0) W1 ∧ Below n₀ W W1) := by
      have z := (((Below.refl _ W).alloc (Nat.le_refl _) (pnc a b c 25)).trans (hb1.mono (by simp)))
      exact Lib.hid ⟨by have := HJ.out _ _ _ H0.out z; simpa [ckP] using this, z.mono HN.out⟩
    clear hb1
    change _ at ST
    gi_loopw [16] (fun kv wr => ∃ k : Nat, k ≤ 4 ∧ kv = .int .i64 k ∧ J (pre ++ ckP d (a, b, c) k) wr ∧ Below n₀ W wr) (fun kv _ => 4 - (intOf kv).toNat)
    case atStart => exact ⟨0, by omega, rfl, ST.out⟩
    case round =>
      clear ST
      obtain ⟨k, hk, rfl, hj, hw⟩ := hrel
      by_cases hlt : k < 4
      · have hk1 : (k : Int) < 4 := by omega
        have hk0 : 0 ≤ (k : Int) := by omega
        have ix := IX.out k hlt
        have sz : n₀ ≤ wr.heap.size := Nat.le_trans HN.out hw.size
        have R := Lib.hid (IH.out (n - 1) k (wr.alloc (pnc (qrk (a, b, c) k).1 (qrk (a, b, c) k).2.1 (qrk (a, b, c) k).2.2 25)) hlt (by simp; omega) (HJ.out _ _ _ hj ((Below.refl _ _).alloc (Nat.le_refl _) _)))
        have NX := Lib.hid (ckP_succ d (a, b, c) hlt)
        have PX := Lib.hid (fun q h => ckP_pre d (a, b, c) hlt (q := q) h)
        have HW := Lib.hid hw
        have SZ := Lib.hid sz
        clear hj hw sz IH IX QU
        generalize qrk (a, b, c) k = p at *
        gi_wp2_with ((first | refine ⟨trivial, fun h => (by cases (show false = true from h)), ?_⟩ | refine ⟨fun h => (by cases (show false = true from h)), ?_⟩ | skip); gi_at_call 85; refine R.out.mono ?_; rintro e W2 (⟨rfl, h1, h2⟩ | ⟨rfl, q, hq, h1⟩))
        · go_roundw
          case rel => exact ⟨k + 1, by omega, by go_num, by rw [NX.out, ← List.append_assoc]; exact h1, HW.out.trans ((((Below.refl _ _).alloc (Nat.le_refl _) _).mono SZ.out).trans h2)⟩
          case measure => simp [intOf]; omega
        · refine bodyPost_ret (results_tmp rfl _ _ _) rfl ?_
          exact .inr ⟨rfl, _, PX.out q hq, by rw [← List.append_assoc]; exact h1⟩
      · obtain rfl : k = 4 := by omega
        gi_wp2
        go_ret
        exact .inl ⟨rfl, hj, hw⟩

end Go.Proofs.Ytlegalibjkeccaa
