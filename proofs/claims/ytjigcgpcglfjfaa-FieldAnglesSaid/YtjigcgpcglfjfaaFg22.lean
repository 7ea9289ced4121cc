/-
  The contract of the document's Cut.
-/
import Derived.Test.YtjigcgpcglfjfaaFg21
import Derived.Test.YtjigcgpcglfjfaaSoMc
namespace Go.Proofs.Ytjigcgpcglfjfaa
open Go.ChangeShapes Go.WideShapes Go.RowKit
open Sh
theorem tim_bd9 {q : P3} (h : BdP 1000000 q) : BdP 4611686018427387904 (tim 2 q) := by
  simp only [BdP, tim] at h ⊢
  omega
set_option maxRecDepth 100000 in
set_option maxHeartbeats 4000000 in
theorem rcut_any (d : Nat) (D : Int) (t : P9) (w : World) (hD : D = (d : Int)) (hd : d ≤ 3) (hB : BdT 64 t) :
    Calls Try.prog 48 #[p9w t, .int .i64 D] w fun e w' => ∃ v, e = .returned v ∧ w'.ownsRow w.heap.size 25 9 v (4 ^ d) (pcs (cutP d t)) ∧ Below w.heap.size w w' := by
  subst hD
  obtain ⟨i0, hi, hz0, hz1, hz2⟩ := info_parts infoPn9
  have HI := Lib.hid hi
  have HZ0 := Lib.hid hz0
  have HZ1 := Lib.hid hz1
  have HZ2 := Lib.hid hz2
  have P := Lib.hid (pan_new w t.1 t.2.1 t.2.2 25)
  have OW := World.ownsRow_lit (base := w.heap.size) (e := 25) (size := 9) (w.alloc (pnc t.1 t.2.1 t.2.2 25)) (pcs9 t).toArray 1 (by simp) (by unfold maxLen; omega) rfl
  rw [World.size_alloc] at OW
  have OW' := Lib.hid (show World.ownsRow ((w.alloc (pnc t.1 t.2.1 t.2.2 25)).alloc (.cells (pcs9 t).toArray 25)) w.heap.size 25 9 (.slice (some ⟨w.heap.size + 1, 0, none⟩) 1 1) (4 ^ 0) (pcs (cutP 0 t)) by (show World.ownsRow _ _ _ _ _ _ (pcs9 t ++ [])); rw [List.append_nil]; exact OW)
  have B0 := Lib.hid (show Below w.heap.size w ((w.alloc (pnc t.1 t.2.1 t.2.2 25)).alloc (.cells (pcs9 t).toArray 25)) from ((Below.refl _ w).alloc (Nat.le_refl _) _).alloc (by simp) _)
  have HB := Lib.hid (fun k (h : k ≤ 2) q (hq : q ∈ cutP k t) => (cutP_bd k hB q hq).mono (B := 1000000) (by
    have : k = 0 ∨ k = 1 ∨ k = 2 := by omega
    rcases this with rfl | rfl | rfl <;> decide))
  clear hi hz0 hz1 hz2 hB OW
  go_enter Try.func48, Try.ntmps48
  obtain ⟨c0, c1, c2, c3, c4, c5, c6, c7, c8, cl⟩ := P.out
  go_wp2
  go_loopw [5, 6] (fun lv kv wr => ∃ k : Nat, k ≤ d ∧ kv = .int .i64 k ∧ wr.ownsRow w.heap.size 25 9 lv (4 ^ k) (pcs (cutP k t)) ∧ Below w.heap.size w wr) (fun _ kv _ => d - (intOf kv).toNat)
  case atStart => exact ⟨0, Nat.zero_le _, rfl, OW'.out, B0.out⟩
  case round =>
    obtain ⟨k, hk, rfl, how, hbb⟩ := hrel
    have HOW := Lib.hid how
    have BK := Lib.hid hbb
    clear how hbb OW' B0 P c0 c1 c2 c3 c4 c5 c6 c7 c8 cl
    by_cases hlt : k < d
    · have hk1 : (k : Int) < (d : Int) := by omega
      have hk0 : 0 ≤ (k : Int) := by omega
      have hk2 : k ≤ 2 := by omega
      obtain ⟨L, hL⟩ : ∃ L, cutP k t = L := ⟨_, rfl⟩
      have hlen : L.length = 4 ^ k := by rw [← hL]; exact cutP_len k t
      have hp4 : 0 < 4 ^ k := Nat.pow_pos (by decide)
      have hle : 4 ^ k ≤ 16 := by
        have : k = 0 ∨ k = 1 ∨ k = 2 := by omega
        rcases this with rfl | rfl | rfl <;> decide
      have HBk := Lib.hid (fun i (hi : i < 4 ^ k) => HB.out k hk2 (L.getD i ((0, 0, 0), (0, 0, 0), (0, 0, 0))) (by
        rw [List.getD_eq_getElem?_getD, List.getElem?_eq_getElem (by rw [hlen]; exact hi), hL]
        exact List.getElem_mem _))
      have NX := Lib.hid (fun i (hi : i < 4 ^ k) => take_next (l := L) (k := i) (by rw [hlen]; exact hi))
      have FI := Lib.hid (show pcs ((L.take (4 ^ k)).flatMap qrs) = pcs (cutP (k + 1) t) by rw [← hlen, List.take_length, cutP_last, hL])
      have P4 := Lib.hid (show 4 * 4 ^ k = 4 ^ (k + 1) by rw [Nat.pow_succ]; omega)
      have HOL := HOW.out
      rw [hL] at HOL
      obtain ⟨g, off, cap, rfl, hrow⟩ := own_row9 HOL hlen hp4
      have hg : g < wr.heap.size := hrow.1
      have R := Lib.hid hrow
      generalize hm : 4 ^ k = m at *
      clear HOL HOW hrow hL hlen HB
      generalize wr = w2 at *
      go_wp2
      go_loopw [7, 8] (fun sv kv wr => ∃ i : Nat, i ≤ m ∧ kv = .int .i64 i ∧ wr.ownsRow w2.heap.size 25 9 sv (4 * i) (pcs ((L.take i).flatMap qrs)) ∧ Below w2.heap.size w2 wr) (fun _ kv _ => m - (intOf kv).toNat)
      case atStart => exact ⟨0, Nat.zero_le _, rfl, World.ownsRow_nil _ _ _ _, Below.refl _ _⟩
      case round =>
        obtain ⟨i, hi, rfl, how, hbb⟩ := hrel
        have OW := Lib.hid how
        have BB := Lib.hid hbb
        clear how hbb
        by_cases hil : i < m
        · have hi1 : (i : Int) < (m : Int) := by omega
          have NXk := Lib.hid (NX.out i hil)
          have RK := Lib.hid (fun (W : World) (h : Below w2.heap.size w2 W) => (rowP_in R.out h hg).2 i hil)
          have HBi := Lib.hid (HBk.out i hil)
          have szw := BB.out.size
          dsimp only at RK
          obtain ⟨q, hq⟩ : ∃ q, L.getD i ((0, 0, 0), (0, 0, 0), (0, 0, 0)) = q := ⟨_, rfl⟩
          rw [hq] at RK NXk HBi
          clear hq NX HBk
          have GI0 := Lib.hid (show (GIp w2 wr.heap.size u7 (4 * i) (pcs ((L.take i).flatMap qrs))) wr from ⟨BB.out, OW.out, fun g h => (OW.out.lt g h).2⟩)
          go_wp2_with fail
          rename_i K8 hK8
          have HK8 := Lib.hid hK8
          clear hK8
          refine rca_reg (GIp w2 wr.heap.size u7 (4 * i) (pcs ((L.take i).flatMap qrs))) wr.heap.size g off m cap i q (Lib.hid ((tim_bd9 HBi.out.1))) (Lib.hid (tim_bd9 HBi.out.2.1)) (Lib.hid (tim_bd9 HBi.out.2.2)) (Lib.hid ⟨hi1, by omega⟩) (Lib.hid fun W h => RK.out W h.1) (Lib.hid fun W W' hb h => gip_in h szw hb) (Nat.le_refl _) (gip_drew GI0.out) ?_
          intro x28 x29 x30 x31 x32 x33 x34 x35 x36 x37 x38 x39 x40 x41 x42 x43 x44 x45 x y z w3 hN3 g3 nx ox ny oy nz oz
          have O3 := Lib.hid (show Own w3 x (tim 2 q.1) ∧ Own w3 y (tim 2 q.2.1) ∧ Own w3 z (tim 2 q.2.2) from ⟨ox, oy, oz⟩)
          have g3' := Lib.hid g3
          clear g3 ox oy oz RK GI0
          refine HK8.out _ _ ?_
          clear HK8
          go_wp2_with fail
          rename_i K9 hK9
          have HK9 := Lib.hid hK9
          clear hK9
          have L3 : x < w3.heap.size ∧ y < w3.heap.size ∧ z < w3.heap.size := ⟨O3.out.1.2.2.2.2.2.2, O3.out.2.1.2.2.2.2.2.2, O3.out.2.2.2.2.2.2.2.2⟩
          refine rcb_reg (fun W => (GIp w2 wr.heap.size u7 (4 * i) (pcs ((L.take i).flatMap qrs))) W ∧ Own W x (tim 2 q.1) ∧ Own W y (tim 2 q.2.1) ∧ Own W z (tim 2 q.2.2)) w3.heap.size x y z q.1 q.2.1 q.2.2 (Lib.hid HBi.out.1) (Lib.hid HBi.out.2.1) (Lib.hid HBi.out.2.2) (Lib.hid fun W h => ⟨h.2.1.1, h.2.1.2.1, h.2.1.2.2.1, h.2.2.1.1, h.2.2.1.2.1, h.2.2.1.2.2.1, h.2.2.2.1, h.2.2.2.2.1, h.2.2.2.2.2.1⟩) (Lib.hid fun W W' hb h => ⟨gip_in h.1 szw (hb.mono hN3), own_in' h.2.1 hb L3.1, own_in' h.2.2.1 hb L3.2.1, own_in' h.2.2.2 hb L3.2.2⟩) (Nat.le_refl _) ⟨gip_drew g3'.out, own_drew O3.out.1, own_drew O3.out.2.1, own_drew O3.out.2.2⟩ ?_
          intro x46 x47 x48 x49 x50 x51 x52 x53 x54 x' y' z' w4 hN4 g4 nx' ox' ny' oy' nz' oz'
          have SX0 := Lib.hid (show SX w4 x y z x' y' z' (tim 2 q.1) (tim 2 q.2.1) (tim 2 q.2.2) (add q.1 q.2.1) (add q.2.1 q.2.2) (add q.2.2 q.1) from ⟨g4.2, ox', oy', oz'⟩)
          have g4' := Lib.hid g4.1
          have sz4 : wr.heap.size ≤ w4.heap.size := Nat.le_trans hN3 hN4
          clear g4 ox' oy' oz' g3' O3
          refine HK9.out _ _ ?_
          clear HK9
          have OW4 := Lib.hid g4'.out.2.1
          obtain ⟨s0, s1, s2, s3, s4, s5, s6, s7, s8, s9, sa, sb, sc, sd, se, sf, sg, sh⟩ := sx_cells SX0.out
          go_wp2_with (at_builtin; (refine wpList_append_own _ rfl _ _ 26 rfl w2.heap.size 25 i0 (.agg #[.int .i64 0, .int .i64 0, .int .i64 0, .int .i64 0, .int .i64 0, .int .i64 0, .int .i64 0, .int .i64 0, .int .i64 0]) 9 72 Try.underlying26 HI.out HZ0.out HZ1.out HZ2.out rfl (by decide) _ (4 * i) _ rfl (OW4.out.alloc _) ⟨w4.heap.size, 0, none⟩ 4 4 (pcs (qrs q)) rfl rfl (lit_src _ (pcs (qrs q)) _ (by show 36 ≤ maxLen; decide)) (pcs_one _) (by unfold maxLen; omega) (by omega) (by simp; omega) ?_); intro v' w5 hown' hgrow _; have OW5 := Lib.hid hown'; have GR := Lib.hid hgrow; clear hown' hgrow)
          have BG := Lib.hid (((g4'.out.1).alloc (Nat.le_trans szw sz4) _).grown GR.out (by simp; omega) (fun gg hg => (OW4.out.lt gg hg).1))
          clear s0 s1 s2 s3 s4 s5 s6 s7 s8 s9 sa sb sc sd se sf sg sh
          go_roundw
          case rel => exact ⟨i + 1, by omega, by go_num, by rw [show 4 * (i + 1) = 4 * i + 4 by omega, NXk.out, pcs_app]; exact OW5.out, BG.out⟩
          case measure => simp [intOf]; omega
        · obtain rfl : i = m := by omega
          go_wp2_with fail
          go_roundw
          case rel =>
            have z := own_base9 OW.out BK.out.size
            rw [FI.out, P4.out] at z
            exact ⟨k + 1, by omega, by go_num, z, BK.out.trans (BB.out.mono BK.out.size)⟩
          case measure => simp [intOf]; omega
    · obtain rfl : k = d := by omega
      go_wp2
      go_ret
      exact ⟨_, rfl, HOW.out, BK.out⟩

end Go.Proofs.Ytjigcgpcglfjfaa
