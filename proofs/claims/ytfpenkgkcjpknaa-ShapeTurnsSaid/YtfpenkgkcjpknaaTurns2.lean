/-
  The contract of Mirror where it makes a mesh.
-/
import Derived.Test.YtfpenkgkcjpknaaTurns1
namespace Go.Proofs.Ytfpenkgkcjpknaa
open Go.ChangeShapes Go.WideShapes Go.RowKit
open Sh
set_option maxRecDepth 100000 in
set_option maxHeartbeats 2000000 in
theorem placedD_mirror (b off np c : Nat) (a' : Option Addr) (nf c' : Nat) (P F h : Nat → P3) (w : World) (rp : Row3 w b off np P) (rf : Lst w a' nf F) (h0 : 0 < np) (hn : np ≤ 1000000) (hm : nf ≤ 1000000)
    (C : Hid (∀ W, Below w.heap.size w W → ∀ i, i < np → Calls Try.prog 31 #[ptv (P i)] W fun e w' => e = .returned (ptv (h i)) ∧ Below W.heap.size W w')) :
    Calls Try.prog 26 #[msv (some ⟨b, off, none⟩) np c a' nf c', .func (.func 31) #[] #[]] w (PlacedD np nf h F w) := by
  have RP := Lib.hid rp
  have RF := Lib.hid rf
  have H0 := Lib.hid h0
  have HM := Lib.hid hm
  have HN := Lib.hid hn
  have hn' : (np : Int) ≤ 1000000 := by omega
  clear rp rf h0 hn hm
  go_enter Try.func26, Try.ntmps26
  go_wp2_with fail
  refine (clonePt _ np c P _ (fun _ => ⟨_, _, rfl, row3_alloc (row3_alloc RP.out _) _⟩) HN.out).mono ?_
  rintro e w1 ⟨a5, c5, rfl, l5, hb1⟩
  obtain ⟨g, rfl, hg, r5⟩ := l5 H0.out
  have ME := Lib.hid (mes_below (mes_alloc (mes_new w (some ⟨b, off, none⟩) np c a' nf c' 25) (.cells #[.slice none 0 0, .slice none 0 0] 25)) hb1)
  have RM := Lib.hid (by have z := ownMs_below (ownMs_new (w.alloc (msc (some ⟨b, off, none⟩) np c a' nf c' 25)) (.slice none 0 0) (.slice none 0 0) 25) hb1; simp only [World.size_alloc] at z; exact z : OwnMs w1 (w.heap.size + 1) (.slice none 0 0) (.slice none 0 0))
  have B1 := Lib.hid (bstep (balloc (balloc (Below.refl w.heap.size w) (msc (some ⟨b, off, none⟩) np c a' nf c' 25)) (.cells #[.slice none 0 0, .slice none 0 0] 25)) hb1)
  have R5 := Lib.hid (row3w_eq r5 (fun k _ => upd_zero h P k))
  simp only [World.size_alloc] at hg
  have g1 : g ≠ w.heap.size := by omega
  have g2 : g ≠ w.heap.size + 1 := by omega
  have g3 : w.heap.size ≤ g := by omega
  have GN := Lib.hid (And.intro g1 (And.intro g2 g3))
  clear l5 r5 hb1 hg g1 g2 g3
  go_wp2
  go_loopw [13] (fun kv wr => ∃ k : Nat, k ≤ np ∧ kv = .int .i64 k ∧ Row3W wr g np (upd h P k) ∧ Mes wr w.heap.size (some ⟨b, off, none⟩) np c a' nf c' ∧ OwnMs wr (w.heap.size + 1) (.slice none 0 0) (.slice none 0 0) ∧ Below w.heap.size w wr) (fun kv _ => np - (intOf kv).toNat)
  case atStart => exact ⟨0, Nat.zero_le _, rfl, R5.out, ME.out, RM.out, B1.out⟩
  case round =>
    clear ME RM B1 R5
    obtain ⟨k, hk, rfl, h1, h2, h3, h4⟩ := hrel
    have R := Lib.hid h1
    have ME := Lib.hid h2
    have RM := Lib.hid h3
    have B0 := Lib.hid h4
    clear h1 h2 h3 h4
    by_cases hlt : k < np
    · have k1 : (k : Int) < (np : Int) := by omega
      obtain ⟨⟨c1, c2, c3⟩, _⟩ := R.out.2 k hlt
      have r6 := R.out.1
      rw [upd_at] at c1 c2 c3
      have CK := Lib.hid (fun W (B : Below w.heap.size w W) => C.out W B k hlt)
      have US := Lib.hid (upd_succ h P k)
      obtain ⟨p, hp⟩ : ∃ p, P k = p := ⟨_, rfl⟩
      rw [hp] at c1 c2 c3 CK
      clear hp
      obtain ⟨q, hq⟩ : ∃ q, h k = q := ⟨_, rfl⟩
      rw [hq] at CK US
      clear hq
      go_wp2_with fail
      refine (CK.out _ (by have hB := B0.out; (repeat' (first | exact Below.refl _ _ | refine bstep ?_ hB | refine Below.setCell ?_ (by simp <;> omega) _ | refine balloc ?_ _ | refine Below.drew ?_ | refine bdrewN ?_ _)))).mono ?_
      rintro e w2 ⟨rfl, hb2⟩
      have R2 := Lib.hid (row3w_below (row3w_alloc R.out (.cells #[.int .i64 p.1, .int .i64 p.2.1, .int .i64 p.2.2] 35)) hb2)
      have ME2 := Lib.hid (mes_below (mes_alloc ME.out (.cells #[.int .i64 p.1, .int .i64 p.2.1, .int .i64 p.2.2] 35)) hb2)
      have RM2 := Lib.hid (ownMs_below (ownMs_alloc RM.out (.cells #[.int .i64 p.1, .int .i64 p.2.1, .int .i64 p.2.2] 35)) hb2)
      have B2 := Lib.hid (bstep (balloc B0.out (.cells #[.int .i64 p.1, .int .i64 p.2.1, .int .i64 p.2.2] 35)) hb2)
      clear c1 c2 c3 r6 hb2
      obtain ⟨⟨c1, c2, c3⟩, f1, f2, f3⟩ := R2.out.2 k hlt
      have r6 := R2.out.1
      go_wp2
      go_roundw
      case rel => exact ⟨k + 1, by omega, by go_num, row3w_eq (row3w_put R2.out hlt q) (fun i _ => US.out i), mes_sets ME2.out GN.out.1, ownMs_sets RM2.out GN.out.2.1, below_sets B2.out GN.out.2.2⟩
      case measure => simp [intOf]; omega
    · obtain rfl : np = k := by omega
      obtain ⟨m1, m2, m3⟩ := ME.out
      have LF := Lib.hid (lst_below RF.out B0.out)
      go_wp2_with fail
      refine (cloneFc a' nf c' F _ LF.out HM.out).mono ?_
      rintro e w3 ⟨a6, c6, rfl, l6, hb3⟩
      have L6 := Lib.hid l6
      have R3 := Lib.hid (row3w_below (row3w_eq R.out (fun i hi => upd_end h P np i hi)) hb3)
      have RM3 := Lib.hid (ownMs_below RM.out hb3)
      have B3 := Lib.hid (bstep B0.out hb3)
      have Z := Lib.hid (show w.heap.size + 1 < wr.heap.size from RM.out.2.2.2.2)
      clear l6 hb3 m1 m2 m3
      obtain ⟨m1, m2, m3, m4, m5⟩ := RM3.out
      go_wp2
      refine bodyPost_ret (v := msv (some ⟨g, 0, none⟩) np c5 a6 nf c6) (by rw [results_cell rfl]; go_simp) rfl ⟨_, _, _, _, rfl, fun _ => ⟨g, rfl, GN.out.2.2, row3w_set (row3w_set R3.out (fun e => GN.out.2.1 e.symm)) (fun e => GN.out.2.1 e.symm)⟩, lstw_mono (lstw_put2 L6.out Z.out) (by have := Z.out; omega), fun _ k0 x y e e' => (by cases e; obtain ⟨z, q, l, _⟩ := L6.out k0; rw [q] at e'; cases e'; have := R.out.1; show g ≠ z; omega), below_put2 B3.out (by omega)⟩
set_option maxRecDepth 100000 in
set_option maxHeartbeats 4000000 in
theorem mirror_row (b off np c : Nat) (a' : Option Addr) (nf c' : Nat) (F h F2 : Nat → P3) (hF : ∀ k, F2 k = swF (F k)) (N NF : Nat) (code : Int) (w : World) (V : Hid (∀ W, Below w.heap.size w W → Calls Try.prog 24 #[msv (some ⟨b, off, none⟩) np c a' nf c'] W fun e w' => e = .returned (.int .i64 0) ∧ Below W.heap.size W w')) (CP : Hid (∀ W, Below w.heap.size w W → Calls Try.prog 26 #[msv (some ⟨b, off, none⟩) np c a' nf c', .func (.func 31) #[] #[]] W (PlacedD np nf h F W))) (h0 : 0 < np) (k0 : 0 < nf) (hn : np ≤ 1000000) (hm : nf ≤ 1000000) (E : Hid (N = (if vcode ⟨np, nf, h, F2⟩ = 0 then np else 0) ∧ NF = (if vcode ⟨np, nf, h, F2⟩ = 0 then nf else 0) ∧ code = vcode ⟨np, nf, h, F2⟩)) :
    Calls Try.prog 10 #[msv (some ⟨b, off, none⟩) np c a' nf c'] w (MovedW N NF h F2 code w) := by
  have SW := Lib.hid hF
  clear hF
  have HN := Lib.hid hn
  have HM := Lib.hid hm
  have H0 := Lib.hid h0
  have K0 := Lib.hid k0
  have hn' : (np : Int) ≤ 1000000 := by omega
  have hm' : (nf : Int) ≤ 1000000 := by omega
  clear hn hm h0 k0
  go_enter Try.func10, Try.ntmps10
  go_wp2_with fail
  refine (V.out _ (by (repeat' (first | exact Below.refl _ _ | refine Below.setCell ?_ (by simp <;> omega) _ | refine balloc ?_ _ | refine Below.drew ?_ | refine bdrewN ?_ _)))).mono ?_
  rintro e w1 ⟨rfl, hb1⟩
  have RM2 := Lib.hid (by have z := ownMs_below (ownMs_new (w.alloc (msc (some ⟨b, off, none⟩) np c a' nf c' 25)) (.slice none 0 0) (.slice none 0 0) 25) hb1; simp only [World.size_alloc] at z; exact z : OwnMs w1 (w.heap.size + 1) (.slice none 0 0) (.slice none 0 0))
  have ME2 := Lib.hid (mes_below (mes_alloc (mes_new w (some ⟨b, off, none⟩) np c a' nf c' 25) (.cells #[.slice none 0 0, .slice none 0 0] 25)) hb1)
  have B2 := Lib.hid (bstep (balloc (balloc (Below.refl w.heap.size w) (msc (some ⟨b, off, none⟩) np c a' nf c' 25)) (.cells #[.slice none 0 0, .slice none 0 0] 25)) hb1)
  clear hb1
  obtain ⟨m1, m2, m3⟩ := ME2.out
  go_wp2_with fail
  refine (CP.out _ B2.out).mono ?_
  rintro e w3 ⟨ga, gc, fa, fc, rfl, lg, lf, hd, hb3⟩
  obtain ⟨g, rfl, hg, rg⟩ := lg H0.out
  obtain ⟨fb, rfl, hf, rf⟩ := lf K0.out
  have RL := Lib.hid (show w.heap.size + 1 < w1.heap.size from RM2.out.2.2.2.2)
  have GL := Lib.hid rg.1
  have FL := Lib.hid rf.1
  have SL := Lib.hid hb3.size
  have HG := Lib.hid hg
  have HF := Lib.hid hf
  have ND := Lib.hid (show g ≠ fb from hd H0.out K0.out ⟨g, 0, none⟩ ⟨fb, 0, none⟩ rfl rfl)
  have LG0 := Lib.hid (lstw_alloc lg (.cells #[.slice (some ⟨g, 0, none⟩) np gc, .slice (some ⟨fb, 0, none⟩) nf fc] 25))
  have LF0 := Lib.hid (lstw_alloc lf (.cells #[.slice (some ⟨g, 0, none⟩) np gc, .slice (some ⟨fb, 0, none⟩) nf fc] 25))
  have OM := Lib.hid (ownMs_new w3 (.slice (some ⟨g, 0, none⟩) np gc) (.slice (some ⟨fb, 0, none⟩) nf fc) 25)
  have RM3' := Lib.hid (ownMs_alloc (ownMs_below RM2.out hb3) (.cells #[.slice (some ⟨g, 0, none⟩) np gc, .slice (some ⟨fb, 0, none⟩) nf fc] 25))
  have B3' := Lib.hid (balloc (bstep B2.out hb3) (.cells #[.slice (some ⟨g, 0, none⟩) np gc, .slice (some ⟨fb, 0, none⟩) nf fc] 25))
  have RG0 := Lib.hid (row3w_alloc rg (.cells #[.slice (some ⟨g, 0, none⟩) np gc, .slice (some ⟨fb, 0, none⟩) nf fc] 25))
  have RF0 := Lib.hid (row3w_alloc rf (.cells #[.slice (some ⟨g, 0, none⟩) np gc, .slice (some ⟨fb, 0, none⟩) nf fc] 25))
  clear lg lf hd hb3 rg rf hg hf m1 m2 m3
  obtain ⟨t1, t2, t3, t4, t5⟩ := OM.out
  go_wp2
  have ST := Lib.hid (show RF w (w3.alloc (.cells #[.slice (some ⟨g, 0, none⟩) np gc, .slice (some ⟨fb, 0, none⟩) nf fc] 25)) (w.heap.size + 1) w3.heap.size w1.heap.size fb nf fc np gc (some ⟨g, 0, none⟩) (upd F2 F 0) h from ⟨row3w_eq RF0.out (fun k _ => upd_zero F2 F k), OM.out, RM3'.out, LG0.out, B3'.out⟩)
  clear t1 t2 t3 t4 t5 LG0 LF0 OM RM3' B3' RG0 RF0
  go_loopw [19] (fun kv wr => ∃ k : Nat, k ≤ nf ∧ kv = .int .i64 k ∧ RF w wr (w.heap.size + 1) w3.heap.size w1.heap.size fb nf fc np gc (some ⟨g, 0, none⟩) (upd F2 F k) h) (fun kv _ => nf - (intOf kv).toNat)
  case atStart => exact ⟨0, Nat.zero_le _, rfl, ST.out⟩
  case round =>
    clear ST
    obtain ⟨k, hk, rfl, st⟩ := hrel
    have XX := Lib.hid st
    obtain ⟨t1, t2, t3, t4, t5⟩ := st.2.1
    by_cases hlt : k < nf
    · have k1 : (k : Int) < (nf : Int) := by omega
      obtain ⟨⟨c1, c2, c3⟩, f1, f2, f3⟩ := st.1.2 k hlt
      have r6 := st.1.1
      rw [upd_at] at c1 c2 c3
      have US := Lib.hid (upd_succ F2 F k)
      have SK := Lib.hid (SW.out k)
      clear st
      obtain ⟨p, hp⟩ : ∃ p, F k = p := ⟨_, rfl⟩
      rw [hp] at c1 c2 c3 SK
      clear hp
      go_wp2
      go_roundw
      case rel => exact ⟨k + 1, by omega, by go_num, rf_alloc (rf_put XX.out hlt (swF p) (by have := FL.out; omega) (by have := RL.out; have := HF.out; omega) (by have := RL.out; have := HF.out; omega) (fun _ b' e => by cases e; exact fun z => ND.out z) (fun i => by rw [← US.out i, SK.out])) _⟩
      case measure => simp [intOf]; omega
    · obtain rfl : nf = k := by omega
      have LF := Lib.hid (show LstW wr w1.heap.size (some ⟨fb, 0, none⟩) nf F2 from fun _ => ⟨fb, rfl, HF.out, row3w_eq st.1 (fun i hi => upd_end F2 F nf i hi)⟩)
      have LG := Lib.hid st.2.2.2.1
      have RM3 := Lib.hid st.2.2.1
      have B3 := Lib.hid st.2.2.2.2
      clear st XX
      by_cases hz : vcode ⟨np, nf, h, F2⟩ = 0
      · have Z := Lib.hid hz
        clear hz
        go_wp2_with fail
        refine (checked_yes (some ⟨g, 0, none⟩) np gc (some ⟨fb, 0, none⟩) nf fc h F2 _ (lstw_lst LG.out) (lstw_lst LF.out) HN.out HM.out Z.out).mono ?_
        rintro e w4 ⟨rfl, hb4⟩
        have RM4 := Lib.hid (ownMs_below RM3.out hb4)
        have LG4 := Lib.hid (lstw_below LG.out hb4)
        have LF4 := Lib.hid (lstw_below LF.out hb4)
        have B4 := Lib.hid (bstep B3.out hb4)
        clear hb4 t1 t2 t3 t4 t5
        obtain ⟨m1, m2, m3, m4, m5⟩ := RM4.out
        go_wp2
        refine bodyPost_ret (v := .tuple #[msv (some ⟨g, 0, none⟩) np gc (some ⟨fb, 0, none⟩) nf fc, .int .i64 0]) (by rw [results_cell_tmp rfl]; go_simp) rfl ?_
        obtain ⟨e1, e2, e3⟩ := E.out
        rw [if_pos Z.out] at e1 e2
        rw [Z.out] at e3
        subst e1 e2 e3
        exact ⟨(some ⟨g, 0, none⟩), gc, (some ⟨fb, 0, none⟩), fc, rfl, lstw_mono (lstw_put2 LG4.out RL.out) (by have := RL.out; omega), lstw_mono (lstw_put2 LF4.out RL.out) (by have := RL.out; omega), below_put2 B4.out (by omega)⟩
      · have Z := Lib.hid hz
        clear hz
        go_wp2_with fail
        refine (checked_not (some ⟨g, 0, none⟩) np gc (some ⟨fb, 0, none⟩) nf fc h F2 _ (lstw_lst LG.out) (lstw_lst LF.out) HN.out HM.out Z.out).mono ?_
        rintro e w4 ⟨rfl, hb4⟩
        have RM4 := Lib.hid (ownMs_below RM3.out hb4)
        have B4 := Lib.hid (bstep B3.out hb4)
        clear hb4 t1 t2 t3 t4 t5
        obtain ⟨m1, m2, m3, m4, m5⟩ := RM4.out
        go_wp2
        refine bodyPost_ret (v := .tuple #[msv none 0 0 none 0 0, .int .i64 (vcode ⟨np, nf, h, F2⟩)]) (by rw [results_cell_tmp rfl]; go_simp) rfl ?_
        obtain ⟨e1, e2, e3⟩ := E.out
        rw [if_neg Z.out] at e1 e2
        subst e1 e2 e3
        exact movedW_none ⟨rfl, below_put2 B4.out (by omega)⟩

end Go.Proofs.Ytfpenkgkcjpknaa
