/-
  The contracts of Flux, in the program and in the document's answer; the law FieldFluxes: its walk.
-/
import Derived.Test.YtjigcgpcglfjfaaGreatFg33
import Derived.Test.YtjigcgpcglfjfaaGreatFgMf
import Derived.Test.YtjigcgpcglfjfaaGreatShN
namespace Go.Proofs.YtjigcgpcglfjfaaGreat
open Go.ChangeShapes Go.WideShapes Go.RowKit
open Sh
/-- what a surface gives -/
def fluxR (vc : Int) (n : Nat) (T : Nat → P3 × P3 × P3) (x : P3) (D : Int) : Sp.R := if vc = 0 then (if akc x D = 0 then sceR (fun k => angF (T k) x D) n else ((0, 0), akc x D)) else ((0, 0), vc)
set_option maxRecDepth 100000 in
set_option maxHeartbeats 4000000 in
theorem fx1_walk (q : P9) (bx bd : Nat) (x : P3) (D : Int) (r : Sp.R) (w : World) (hc : CapX w bx bd x D) (M : Hid (∀ W, Calls Tryz.prog 13 #[pnv q.1 q.2.1 q.2.2, ptv x, .int .i64 D] W fun e w' => e = .returned (spr r) ∧ Below W.heap.size W w')) : Calls Tryz.prog 12 #[pnv q.1 q.2.1 q.2.2, .pointer (some ⟨bx, 0, none⟩), .pointer (some ⟨bd, 0, none⟩)] w fun e w' => e = .returned (spr r) ∧ Below w.heap.size w w' := by
  have C0 := Lib.hid (pan_alloc (pan_new w q.1 q.2.1 q.2.2 38) (.cells #[.int .i64 0, .int .i64 0] 31))
  have Z0 := Lib.hid (owp_new (w.alloc (pnc q.1 q.2.1 q.2.2 38)) (0, 0) 31)
  have X0 := Lib.hid (capX_below hc (((Below.refl w.heap.size w).alloc (Nat.le_refl _) (pnc q.1 q.2.1 q.2.2 38)).alloc (by simp) (.cells #[.int .i64 0, .int .i64 0] 31)))
  have B0 := Lib.hid (show Below w.heap.size w ((w.alloc (pnc q.1 q.2.1 q.2.2 38)).alloc (.cells #[.int .i64 0, .int .i64 0] 31)) by (repeat' (first | exact Below.refl _ _ | refine Below.setCell ?_ (by simp <;> omega) _ | refine balloc ?_ _ | refine Below.drew ?_ | refine bdrewN ?_ _)))
  simp only [World.size_alloc] at Z0
  obtain ⟨c0, c1, c2, c3, c4, c5, c6, c7, c8, cl⟩ := C0.out
  obtain ⟨⟨x0, x1, x2, x3, x4, x5, x6⟩, d0, dl⟩ := X0.out
  clear hc
  go_enter Tryz.func12, Tryz.ntmps12
  go_wp2_with fail
  with_reducible refine (M.out _).mono ?_
  rintro e w1 ⟨rfl, hb1⟩
  obtain ⟨o0, o1, o2, o3, o4⟩ := owp_below Z0.out hb1
  have hB := bstep B0.out hb1
  clear c0 c1 c2 c3 c4 c5 c6 c7 c8 cl x0 x1 x2 x3 x4 x5 x6 d0 dl C0 Z0 X0 B0 hb1
  go_wp2
  refine bodyPost_ret (v := spr r) (by rw [results_cell_tmp rfl]; go_simp) rfl ⟨rfl, ?_⟩
  (repeat' (first | with_reducible exact hB | with_reducible refine Below.drew ?_ | (with_reducible refine Below.setCell ?_ (by simp <;> omega) _)))
set_option maxRecDepth 100000 in
set_option maxHeartbeats 4000000 in
theorem fsp_walk (a : Option Addr) (n c : Nat) (T : Nat → P3 × P3 × P3) (bx bd : Nat) (w : World) (g : Nat → Sp.R) (r res : Sp.R) (rr : Lst9 w a n T) (hn : n ≤ 96)
    (G : Hid (∀ k, k < n → ∀ W, Below w.heap.size w W → Calls Tryz.prog 12 #[pnv (T k).1 (T k).2.1 (T k).2.2, .pointer (some ⟨bx, 0, none⟩), .pointer (some ⟨bd, 0, none⟩)] W fun e w' => e = .returned (spr (g k)) ∧ Below W.heap.size W w'))
    (R1 : Hid (geN g n ≠ 0 → res = ((0, 0), geN g n))) (R2 : Hid (geN g n = 0 → res = r)) (SM : Hid (geN g n = 0 → ∀ u W, World.ownsRow W 0 31 2 u n (svs (gsN g n)) → Calls Tryz.prog 25 #[u] W fun e w' => e = .returned (spr r) ∧ Below W.heap.size W w')) : Calls Tryz.prog 11 #[.slice a n c, .func (.func 12) #[] #[.pointer (some ⟨bx, 0, none⟩), .pointer (some ⟨bd, 0, none⟩)]] w fun e w' => e = .returned (spr res) ∧ Below w.heap.size w w' := by
  obtain ⟨i0, hi, hz0, hz1, hz2⟩ := info_parts infoSp8
  have HI := Lib.hid hi
  have HZ0 := Lib.hid hz0
  have HZ1 := Lib.hid hz1
  have HZ2 := Lib.hid hz2
  clear hi hz0 hz1 hz2
  have hn' : (n : Int) ≤ 96 := by omega
  have RR := Lib.hid rr
  have R0 := Lib.hid (owp_new w (0, 0) 31)
  have B0 := Lib.hid (show Below w.heap.size w (w.alloc (.cells #[.int .i64 0, .int .i64 0] 31)) from (Below.refl _ w).alloc (Nat.le_refl _) _)
  clear rr
  go_enter Tryz.func11, Tryz.ntmps11
  go_wp2
  have z0 : (w.alloc (.cells #[.int .i64 0, .int .i64 0] 31)).heap.size = w.heap.size + 1 := by simp
  generalize w.alloc (.cells #[.int .i64 0, .int .i64 0] 31) = w2 at *
  have Z0 := Lib.hid z0
  have l0 : w.heap.size < w2.heap.size := by omega
  clear z0
  go_loopw [6, 13] (fun sv kv wr => ∃ k : Nat, k ≤ n ∧ kv = .int .i64 k ∧ geN g k = 0 ∧ wr.ownsRow w2.heap.size 31 2 sv k (svs (gsN g k)) ∧ Below w2.heap.size w2 wr) (fun _ kv _ => n - (intOf kv).toNat)
  case atStart => exact ⟨0, Nat.zero_le _, rfl, rfl, World.ownsRow_nil _ _ _ _, Below.refl _ _⟩
  case round =>
    obtain ⟨k, hk, rfl, good, how, hbb⟩ := hrel
    have GOOD := Lib.hid good
    have ROW := Lib.hid how
    have BB := Lib.hid hbb
    clear good how hbb
    have szw := BB.out.size
    by_cases hlt : k < n
    · have hk1 : (k : Int) < (n : Int) := by omega
      have hk0 : 0 ≤ (k : Int) := by omega
      obtain ⟨b, rfl, rw0⟩ := RR.out (show 0 < n by omega)
      have hbl : b < w.heap.size := rw0.1
      have RB := Lib.hid (row9_in (row9_in rw0 B0.out hbl) BB.out (by omega))
      have GK := Lib.hid (G.out k hlt)
      have HIT := Lib.hid (fun h : (g k).2 ≠ 0 => geN_hit hlt GOOD.out h)
      have NEXT := Lib.hid (fun h : (g k).2 = 0 => geN_next GOOD.out h)
      have GS := Lib.hid (show gsN g (k + 1) = gsN g k ++ [(g k).1] from rfl)
      have hbr : b < wr.heap.size := by omega
      obtain ⟨c0, c1, c2, c3, c4, c5, c6, c7, c8⟩ := RB.out.2 k hlt
      generalize T k = q at *
      generalize g k = gr at *
      have P3 := Lib.hid (pan_new wr q.1 q.2.1 q.2.2 38)
      have ZB := Lib.hid (((Below.refl wr.heap.size wr).alloc (Nat.le_refl _) (pnc q.1 q.2.1 q.2.2 38)))
      have BC := Lib.hid (show Below w.heap.size w (wr.alloc (pnc q.1 q.2.1 q.2.2 38)) from (B0.out.trans (BB.out.mono (Nat.le_of_lt l0))).trans (ZB.out.mono (by omega)))
      clear rw0 RB
      go_wp2_with fail
      go_at_call 12
      with_reducible refine (GK.out _ BC.out).mono ?_
      rintro e w5 ⟨rfl, hb5⟩
      obtain ⟨⟨u, v⟩, z⟩ := gr
      dsimp only at *
      have BW := Lib.hid (BB.out.trans ((ZB.out.trans (hb5.mono (by simp))).mono szw))
      have ROWc := Lib.hid (own_below9 (own_below9 ROW.out ZB.out) hb5)
      have sz5 := BW.out.size
      clear hb5 ROW c0 c1 c2 c3 c4 c5 c6 c7 c8 P3 ZB GK BC
      obtain ⟨e0, e1, e2, e3, el⟩ := pair_new w5 u v 31
      by_cases z0 : z = 0
      · subst z0
        have NX := Lib.hid (NEXT.out (by first | rfl | trivial))
        clear HIT NEXT
        have ROWd := ROWc
        clear ROWc
        have ROWc := Lib.hid (ROWd.out.alloc (.cells #[.int .i64 u, .int .i64 v] 31))
        have hm60 : k + 1 ≤ 96 := by omega
        go_wp2_with (at_builtin; (refine wpList_append_own _ rfl _ _ 47 rfl w2.heap.size 31 i0 (.agg #[.int .i64 0, .int .i64 0]) 2 16 Tryz.underlying47 HI.out HZ0.out HZ1.out HZ2.out rfl (by decide) _ k (svs (gsN g k)) rfl (ROWc.out.alloc _) ⟨_, 0, none⟩ 1 1 [.int .i64 u, .int .i64 v] rfl rfl (sp2_new' _ _ _ _ _ (by simp)) (by intro u hu; simp at hu; rcases hu with rfl | rfl <;> rfl) (by unfold maxLen; omega) (by omega) (by simp; omega) ?_); intro v' w7 hown' hgrow _; have OW := Lib.hid hown'; have GR := Lib.hid hgrow; clear hown' hgrow)
        have BG := Lib.hid (BW.out.trans ((((Below.refl w2.heap.size w5).alloc (by omega) _).alloc (by simp; omega) _).grown GR.out (by simp; omega) (fun gg hg => (ROWd.out.lt gg hg).1)))
        go_roundw
        case rel => exact ⟨k + 1, by omega, by go_num, NX.out, by rw [GS.out, ← svs_snoc]; exact OW.out, BG.out⟩
        case measure => simp [intOf]; omega
      · have z1 : (z != 0) = true := bne_iff_ne.2 z0
        have hf : res = ((0, 0), z) := by
          have hh := HIT.out z0
          rw [← hh]
          exact R1.out (by rw [hh]; exact z0)
        subst hf
        obtain ⟨g0, g1, g2, g3, gl⟩ := owp_alloc (owp_in R0.out BW.out l0) (.cells #[.int .i64 u, .int .i64 v] 31)
        have hB := balloc (B0.out.trans (BW.out.mono B0.out.size)) (.cells #[.int .i64 u, .int .i64 v] 31)
        clear HIT NEXT
        go_wp2
        refine bodyPost_ret (v := spr ((0, 0), z)) (by rw [results_cell_tmp rfl]; go_simp) rfl ⟨rfl, ?_⟩
        (repeat' (first | with_reducible exact hB | with_reducible refine Below.drew ?_ | (with_reducible refine Below.setCell ?_ (by simp <;> omega) _)))
    · obtain rfl : k = n := by omega
      have hf := R2.out GOOD.out
      subst hf
      have S1 := Lib.hid (SM.out GOOD.out _ wr (own_base9 ROW.out (Nat.zero_le _)))
      have R3 := Lib.hid (owp_in R0.out BB.out l0)
      have B3 := Lib.hid (B0.out.trans (BB.out.mono B0.out.size))
      go_wp2_with fail
      with_reducible refine S1.out.mono ?_
      rintro e w6 ⟨rfl, hb6⟩
      obtain ⟨g0, g1, g2, g3, gl⟩ := owp_below R3.out hb6
      have hB := bstep B3.out hb6
      go_wp2
      refine bodyPost_ret (v := spr res) (by rw [results_cell_tmp rfl]; go_simp) rfl ⟨rfl, ?_⟩
      (repeat' (first | with_reducible exact hB | with_reducible refine Below.drew ?_ | (with_reducible refine Below.setCell ?_ (by simp <;> omega) _)))
theorem fsp_any (a : Option Addr) (n c : Nat) (T : Nat → P3 × P3 × P3) (bx bd : Nat) (x : P3) (D : Int) (w : World) (rr : Lst9 w a n T) (hn : n ≤ 96) (hc : CapX w bx bd x D) : Calls Tryz.prog 11 #[.slice a n c, .func (.func 12) #[] #[.pointer (some ⟨bx, 0, none⟩), .pointer (some ⟨bd, 0, none⟩)]] w fun e w' => e = .returned (spr (sceR (fun k => angF (T k) x D) n)) ∧ Below w.heap.size w w' := by
  refine fsp_walk a n c T bx bd w (fun k => angF (T k) x D) (smR8 (fun k => ((gsN (fun k => angF (T k) x D) n).getD k (0, 0)).1) (fun k => ((gsN (fun k => angF (T k) x D) n).getD k (0, 0)).2) n) _ rr hn (Lib.hid fun k hk W B => fx1_walk (T k) bx bd x D _ W (capX_below hc B) (Lib.hid fun W => fsa_any (T k) x D W)) (Lib.hid fun h => ?_) (Lib.hid fun h => ?_) (Lib.hid fun h u W ho => sum8_own u n _ W ho (gsN_len _ _) (by omega))
  · unfold sceR; rw [if_pos h]
  · unfold sceR; rw [if_neg (show ¬ (geN (fun k => angF (T k) x D) n ≠ 0) from fun c => c h)]
set_option maxRecDepth 100000 in
set_option maxHeartbeats 4000000 in
theorem flux_v (a : Option Addr) (np c : Nat) (a' : Option Addr) (nf c' : Nat) (x : P3) (D : Int) (T : Nat → P3 × P3 × P3) (cc : Int) (w : World) (PP : Hid (∀ W, Below w.heap.size w W → Calls Tryz.prog 9 #[msv a np c a' nf c'] W fun e w' => ∃ b cap, e = .returned (.tuple #[.slice b 0 cap, .int .i64 cc]) ∧ Lst9 w' b 0 T ∧ Below W.heap.size W w')) (z : (cc != 0) = true) : Calls Tryz.prog 6 #[msv a np c a' nf c', ptv x, .int .i64 D] w fun e w' => e = .returned (spr ((0, 0), cc)) ∧ Below w.heap.size w w' := by
  have M0 := Lib.hid (mes_below (mes_new w a np c a' nf c' 25) ((((Below.refl (w.alloc (msc a np c a' nf c' 25)).heap.size (w.alloc (msc a np c a' nf c' 25))).alloc (Nat.le_refl _) (ptc x 27)).alloc (by simp) (.cells #[.int .i64 D] 3)).alloc (by simp) (.cells #[.int .i64 0, .int .i64 0] 31)))
  have X0 := Lib.hid (own_alloc (own_alloc (own_new (w.alloc (msc a np c a' nf c' 25)) x 27) (.cells #[.int .i64 D] 3)) (.cells #[.int .i64 0, .int .i64 0] 31))
  have D0 := Lib.hid (show ((((w.alloc (msc a np c a' nf c' 25)).alloc (ptc x 27)).alloc (.cells #[.int .i64 D] 3)).alloc (.cells #[.int .i64 0, .int .i64 0] 31)).cell? ⟨w.heap.size + 1 + 1, 0, none⟩ = some (.int .i64 D) ∧ w.heap.size + 1 + 1 < ((((w.alloc (msc a np c a' nf c' 25)).alloc (ptc x 27)).alloc (.cells #[.int .i64 D] 3)).alloc (.cells #[.int .i64 0, .int .i64 0] 31)).heap.size from ⟨by go_simp, by simp⟩)
  have Z0 := Lib.hid (owp_new (((w.alloc (msc a np c a' nf c' 25)).alloc (ptc x 27)).alloc (.cells #[.int .i64 D] 3)) (0, 0) 31)
  simp only [World.size_alloc] at Z0 X0
  have C0 := Lib.hid (show CapX ((((w.alloc (msc a np c a' nf c' 25)).alloc (ptc x 27)).alloc (.cells #[.int .i64 D] 3)).alloc (.cells #[.int .i64 0, .int .i64 0] 31)) (w.heap.size + 1) (w.heap.size + 1 + 1) x D from ⟨X0.out, D0.out.1, D0.out.2⟩)
  have B0 := Lib.hid (show Below w.heap.size w ((((w.alloc (msc a np c a' nf c' 25)).alloc (ptc x 27)).alloc (.cells #[.int .i64 D] 3)).alloc (.cells #[.int .i64 0, .int .i64 0] 31)) by (repeat' (first | exact Below.refl _ _ | refine Below.setCell ?_ (by simp <;> omega) _ | refine balloc ?_ _ | refine Below.drew ?_ | refine bdrewN ?_ _)))
  obtain ⟨m0, m1, ml⟩ := M0.out
  clear X0 D0
  go_enter Tryz.func6, Tryz.ntmps6
  go_wp2_with fail
  with_reducible refine (PP.out _ B0.out).mono ?_
  rintro e w1 ⟨b, cap, rfl, hl, hb1⟩
  have L1 := Lib.hid hl
  have C1 := Lib.hid (capX_below C0.out hb1)
  have Z1 := Lib.hid (owp_below Z0.out hb1)
  have B1 := Lib.hid (bstep B0.out hb1)
  clear C0 Z0 B0 hb1 hl m0 m1 ml M0
  obtain ⟨o0, o1, o2, o3, o4⟩ := Z1.out
  have hB := B1.out
  go_wp2
  refine bodyPost_ret (v := spr ((0, 0), cc)) (by rw [results_cell_tmp rfl]; go_simp) rfl ⟨rfl, ?_⟩
  (repeat' (first | with_reducible exact hB | with_reducible refine Below.drew ?_ | (with_reducible refine Below.setCell ?_ (by simp <;> omega) _)))
set_option maxRecDepth 100000 in
set_option maxHeartbeats 4000000 in
theorem flux_a (a : Option Addr) (np c : Nat) (a' : Option Addr) (nf c' : Nat) (x : P3) (D : Int) (T : Nat → P3 × P3 × P3) (n : Nat) (cc : Int) (w : World) (PP : Hid (∀ W, Below w.heap.size w W → Calls Tryz.prog 9 #[msv a np c a' nf c'] W fun e w' => ∃ b cap, e = .returned (.tuple #[.slice b n cap, .int .i64 0]) ∧ Lst9 w' b n T ∧ Below W.heap.size W w')) (A : Hid (∀ W, Calls Tryz.prog 10 #[ptv x, .int .i64 D] W fun e w' => e = .returned (.int .i64 cc) ∧ Below W.heap.size W w')) (z : (cc != 0) = true) : Calls Tryz.prog 6 #[msv a np c a' nf c', ptv x, .int .i64 D] w fun e w' => e = .returned (spr ((0, 0), cc)) ∧ Below w.heap.size w w' := by
  have M0 := Lib.hid (mes_below (mes_new w a np c a' nf c' 25) ((((Below.refl (w.alloc (msc a np c a' nf c' 25)).heap.size (w.alloc (msc a np c a' nf c' 25))).alloc (Nat.le_refl _) (ptc x 27)).alloc (by simp) (.cells #[.int .i64 D] 3)).alloc (by simp) (.cells #[.int .i64 0, .int .i64 0] 31)))
  have X0 := Lib.hid (own_alloc (own_alloc (own_new (w.alloc (msc a np c a' nf c' 25)) x 27) (.cells #[.int .i64 D] 3)) (.cells #[.int .i64 0, .int .i64 0] 31))
  have D0 := Lib.hid (show ((((w.alloc (msc a np c a' nf c' 25)).alloc (ptc x 27)).alloc (.cells #[.int .i64 D] 3)).alloc (.cells #[.int .i64 0, .int .i64 0] 31)).cell? ⟨w.heap.size + 1 + 1, 0, none⟩ = some (.int .i64 D) ∧ w.heap.size + 1 + 1 < ((((w.alloc (msc a np c a' nf c' 25)).alloc (ptc x 27)).alloc (.cells #[.int .i64 D] 3)).alloc (.cells #[.int .i64 0, .int .i64 0] 31)).heap.size from ⟨by go_simp, by simp⟩)
  have Z0 := Lib.hid (owp_new (((w.alloc (msc a np c a' nf c' 25)).alloc (ptc x 27)).alloc (.cells #[.int .i64 D] 3)) (0, 0) 31)
  simp only [World.size_alloc] at Z0 X0
  have C0 := Lib.hid (show CapX ((((w.alloc (msc a np c a' nf c' 25)).alloc (ptc x 27)).alloc (.cells #[.int .i64 D] 3)).alloc (.cells #[.int .i64 0, .int .i64 0] 31)) (w.heap.size + 1) (w.heap.size + 1 + 1) x D from ⟨X0.out, D0.out.1, D0.out.2⟩)
  have B0 := Lib.hid (show Below w.heap.size w ((((w.alloc (msc a np c a' nf c' 25)).alloc (ptc x 27)).alloc (.cells #[.int .i64 D] 3)).alloc (.cells #[.int .i64 0, .int .i64 0] 31)) by (repeat' (first | exact Below.refl _ _ | refine Below.setCell ?_ (by simp <;> omega) _ | refine balloc ?_ _ | refine Below.drew ?_ | refine bdrewN ?_ _)))
  obtain ⟨m0, m1, ml⟩ := M0.out
  clear X0 D0
  go_enter Tryz.func6, Tryz.ntmps6
  go_wp2_with fail
  with_reducible refine (PP.out _ B0.out).mono ?_
  rintro e w1 ⟨b, cap, rfl, hl, hb1⟩
  have L1 := Lib.hid hl
  have C1 := Lib.hid (capX_below C0.out hb1)
  have Z1 := Lib.hid (owp_below Z0.out hb1)
  have B1 := Lib.hid (bstep B0.out hb1)
  clear C0 Z0 B0 hb1 hl m0 m1 ml M0
  obtain ⟨⟨x0, x1, x2, x3, x4, x5, x6⟩, d0, dl⟩ := C1.out
  go_wp2_with fail
  with_reducible refine (A.out _).mono ?_
  rintro e w2 ⟨rfl, hb2⟩
  have C2 := Lib.hid (capX_below C1.out hb2)
  have L2 := Lib.hid (lst9_below L1.out hb2)
  have Z2 := Lib.hid (owp_below Z1.out hb2)
  have B2 := Lib.hid (bstep B1.out hb2)
  clear x0 x1 x2 x3 x4 x5 x6 d0 dl C1 Z1 B1 hb2 L1
  obtain ⟨o0, o1, o2, o3, o4⟩ := Z2.out
  have hB := B2.out
  go_wp2
  refine bodyPost_ret (v := spr ((0, 0), cc)) (by rw [results_cell_tmp rfl]; go_simp) rfl ⟨rfl, ?_⟩
  (repeat' (first | with_reducible exact hB | with_reducible refine Below.drew ?_ | (with_reducible refine Below.setCell ?_ (by simp <;> omega) _)))
set_option maxRecDepth 100000 in
set_option maxHeartbeats 4000000 in
theorem flux_ok (a : Option Addr) (np c : Nat) (a' : Option Addr) (nf c' : Nat) (x : P3) (D : Int) (T : Nat → P3 × P3 × P3) (n : Nat) (r : Sp.R) (w : World) (PP : Hid (∀ W, Below w.heap.size w W → Calls Tryz.prog 9 #[msv a np c a' nf c'] W fun e w' => ∃ b cap, e = .returned (.tuple #[.slice b n cap, .int .i64 0]) ∧ Lst9 w' b n T ∧ Below W.heap.size W w')) (A : Hid (∀ W, Calls Tryz.prog 10 #[ptv x, .int .i64 D] W fun e w' => e = .returned (.int .i64 0) ∧ Below W.heap.size W w'))
    (SSH : Hid (∀ W b cap bx bd, Lst9 W b n T → CapX W bx bd x D → Calls Tryz.prog 11 #[.slice b n cap, .func (.func 12) #[] #[.pointer (some ⟨bx, 0, none⟩), .pointer (some ⟨bd, 0, none⟩)]] W fun e w' => e = .returned (spr r) ∧ Below W.heap.size W w')) : Calls Tryz.prog 6 #[msv a np c a' nf c', ptv x, .int .i64 D] w fun e w' => e = .returned (spr r) ∧ Below w.heap.size w w' := by
  have M0 := Lib.hid (mes_below (mes_new w a np c a' nf c' 25) ((((Below.refl (w.alloc (msc a np c a' nf c' 25)).heap.size (w.alloc (msc a np c a' nf c' 25))).alloc (Nat.le_refl _) (ptc x 27)).alloc (by simp) (.cells #[.int .i64 D] 3)).alloc (by simp) (.cells #[.int .i64 0, .int .i64 0] 31)))
  have X0 := Lib.hid (own_alloc (own_alloc (own_new (w.alloc (msc a np c a' nf c' 25)) x 27) (.cells #[.int .i64 D] 3)) (.cells #[.int .i64 0, .int .i64 0] 31))
  have D0 := Lib.hid (show ((((w.alloc (msc a np c a' nf c' 25)).alloc (ptc x 27)).alloc (.cells #[.int .i64 D] 3)).alloc (.cells #[.int .i64 0, .int .i64 0] 31)).cell? ⟨w.heap.size + 1 + 1, 0, none⟩ = some (.int .i64 D) ∧ w.heap.size + 1 + 1 < ((((w.alloc (msc a np c a' nf c' 25)).alloc (ptc x 27)).alloc (.cells #[.int .i64 D] 3)).alloc (.cells #[.int .i64 0, .int .i64 0] 31)).heap.size from ⟨by go_simp, by simp⟩)
  have Z0 := Lib.hid (owp_new (((w.alloc (msc a np c a' nf c' 25)).alloc (ptc x 27)).alloc (.cells #[.int .i64 D] 3)) (0, 0) 31)
  simp only [World.size_alloc] at Z0 X0
  have C0 := Lib.hid (show CapX ((((w.alloc (msc a np c a' nf c' 25)).alloc (ptc x 27)).alloc (.cells #[.int .i64 D] 3)).alloc (.cells #[.int .i64 0, .int .i64 0] 31)) (w.heap.size + 1) (w.heap.size + 1 + 1) x D from ⟨X0.out, D0.out.1, D0.out.2⟩)
  have B0 := Lib.hid (show Below w.heap.size w ((((w.alloc (msc a np c a' nf c' 25)).alloc (ptc x 27)).alloc (.cells #[.int .i64 D] 3)).alloc (.cells #[.int .i64 0, .int .i64 0] 31)) by (repeat' (first | exact Below.refl _ _ | refine Below.setCell ?_ (by simp <;> omega) _ | refine balloc ?_ _ | refine Below.drew ?_ | refine bdrewN ?_ _)))
  obtain ⟨m0, m1, ml⟩ := M0.out
  clear X0 D0
  go_enter Tryz.func6, Tryz.ntmps6
  go_wp2_with fail
  with_reducible refine (PP.out _ B0.out).mono ?_
  rintro e w1 ⟨b, cap, rfl, hl, hb1⟩
  have L1 := Lib.hid hl
  have C1 := Lib.hid (capX_below C0.out hb1)
  have Z1 := Lib.hid (owp_below Z0.out hb1)
  have B1 := Lib.hid (bstep B0.out hb1)
  clear C0 Z0 B0 hb1 hl m0 m1 ml M0
  obtain ⟨⟨x0, x1, x2, x3, x4, x5, x6⟩, d0, dl⟩ := C1.out
  go_wp2_with fail
  with_reducible refine (A.out _).mono ?_
  rintro e w2 ⟨rfl, hb2⟩
  have C2 := Lib.hid (capX_below C1.out hb2)
  have L2 := Lib.hid (lst9_below L1.out hb2)
  have Z2 := Lib.hid (owp_below Z1.out hb2)
  have B2 := Lib.hid (bstep B1.out hb2)
  clear x0 x1 x2 x3 x4 x5 x6 d0 dl C1 Z1 B1 hb2 L1
  go_wp2_with fail
  with_reducible refine (SSH.out _ _ _ _ _ L2.out C2.out).mono ?_
  rintro e w3 ⟨rfl, hb3⟩
  obtain ⟨o0, o1, o2, o3, o4⟩ := owp_below Z2.out hb3
  have hB := bstep B2.out hb3
  go_wp2
  refine bodyPost_ret (v := spr r) (by rw [results_cell_tmp rfl]; go_simp) rfl ⟨rfl, ?_⟩
  (repeat' (first | with_reducible exact hB | with_reducible refine Below.drew ?_ | (with_reducible refine Below.setCell ?_ (by simp <;> omega) _)))
theorem flux_any (a : Option Addr) (np c : Nat) (a' : Option Addr) (nf c' : Nat) (P F : Nat → P3) (x : P3) (D : Int) (w : World) (rp : Lst w a np P) (rf : Lst w a' nf F) (hn : np ≤ 1000000) (hm : nf ≤ 1000000) : Calls Tryz.prog 6 #[msv a np c a' nf c', ptv x, .int .i64 D] w fun e w' => e = .returned (spr (fluxR (vcode ⟨np, nf, P, F⟩) nf (Tr P F) x D)) ∧ Below w.heap.size w w' := by
  have PP : ∀ W, Below w.heap.size w W → Calls Tryz.prog 9 #[msv a np c a' nf c'] W fun e w' => ∃ b cap, e = .returned (.tuple #[.slice b (if vcode ⟨np, nf, P, F⟩ = 0 then nf else 0) cap, .int .i64 (vcode ⟨np, nf, P, F⟩)]) ∧ Lst9 w' b (if vcode ⟨np, nf, P, F⟩ = 0 then nf else 0) (Tr P F) ∧ Below W.heap.size W w' := fun W B => by
    refine (spans_any a np c a' nf c' P F W (lst_below rp B) (lst_below rf B) hn hm).mono ?_
    rintro e w' ⟨b, n, cap, rfl, rfl, h1, h2⟩
    exact ⟨b, cap, rfl, h1, h2⟩
  unfold fluxR
  by_cases z : vcode ⟨np, nf, P, F⟩ = 0
  · rw [if_pos z]
    have h96 : nf ≤ 96 := (vcode_rows z).2.2.2.1
    have PP' : ∀ W, Below w.heap.size w W → Calls Tryz.prog 9 #[msv a np c a' nf c'] W fun e w' => ∃ b cap, e = .returned (.tuple #[.slice b nf cap, .int .i64 0]) ∧ Lst9 w' b nf (Tr P F) ∧ Below W.heap.size W w' := fun W B => by
      have q := PP W B
      rw [if_pos z, z] at q
      exact q
    clear PP
    have A := fun W => cka_any x D W
    by_cases y : akc x D = 0
    · rw [if_pos y]
      rw [y] at A
      exact flux_ok a np c a' nf c' x D (Tr P F) nf _ w (Lib.hid PP') (Lib.hid A) (Lib.hid fun W b cap bx bd hl hc => fsp_any b nf cap (Tr P F) bx bd x D W hl h96 hc)
    · rw [if_neg y]
      exact flux_a a np c a' nf c' x D (Tr P F) nf _ w (Lib.hid PP') (Lib.hid A) (bne_iff_ne.2 y)
  · rw [if_neg z]
    have PP' : ∀ W, Below w.heap.size w W → Calls Tryz.prog 9 #[msv a np c a' nf c'] W fun e w' => ∃ b cap, e = .returned (.tuple #[.slice b 0 cap, .int .i64 (vcode ⟨np, nf, P, F⟩)]) ∧ Lst9 w' b 0 (Tr P F) ∧ Below W.heap.size W w' := fun W B => by
      have q := PP W B
      rw [if_neg z] at q
      exact q
    exact flux_v a np c a' nf c' x D (Tr P F) _ w (Lib.hid PP') (bne_iff_ne.2 z)

end Go.Proofs.YtjigcgpcglfjfaaGreat
