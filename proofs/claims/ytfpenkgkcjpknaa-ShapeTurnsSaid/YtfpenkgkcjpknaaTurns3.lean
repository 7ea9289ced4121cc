/-
  The contract of the document's Mirror where it makes a mesh.
-/
import Derived.Test.YtfpenkgkcjpknaaTurns2
namespace Go.Proofs.Ytfpenkgkcjpknaa
open Go.ChangeShapes Go.WideShapes Go.RowKit
open Sh
theorem rt_first {w W : World} {R T base g np gc nf fc : Nat} {fa : Option Addr} {f F : Nat → P3} (h : RT w W R T base g np gc nf fc fa f F) {i : Nat} (hi : i < np) (x : Int) (n1 : g ≠ T) (n2 : g ≠ R) (n3 : w.heap.size ≤ g) (n4 : 0 < nf → ∀ b', fa = some b' → b'.block ≠ g) {f' : Nat → P3} (hf : ∀ k, (if k = i then (x, (f k).2.1, (f k).2.2) else f k) = f' k) :
    RT w (W.setCell ⟨g, i * 3, none⟩ (.int .i64 x)) R T base g np gc nf fc fa f' F :=
  ⟨row3w_eq (row3w_first h.1 hi x) (fun k _ => hf k), ownMs_set h.2.1 n1, ownMs_set h.2.2.1 n2, fun h0 => by
    obtain ⟨y, e, l, r⟩ := h.2.2.2.1 h0
    have ne := n4 h0 _ e
    exact ⟨y, e, l, row3w_set r (fun z => ne z.symm)⟩, below_set1 h.2.2.2.2 n3⟩
set_option maxRecDepth 100000 in
set_option maxHeartbeats 4000000 in
theorem rmirror_row (b off np c : Nat) (a' : Option Addr) (nf c' : Nat) (P F h F2 : Nat → P3) (hF : ∀ k, F2 k = swF (F k)) (N NF : Nat) (code : Int) (w : World) (V : Hid (∀ W, Below w.heap.size w W → Calls Try.prog 28 #[msv (some ⟨b, off, none⟩) np c a' nf c'] W fun e w' => e = .returned (.int .i64 0) ∧ Below W.heap.size W w')) (CP : Hid (∀ W, Below w.heap.size w W → Calls Try.prog 29 #[msv (some ⟨b, off, none⟩) np c a' nf c'] W (PlacedD np nf P F W))) (TP : Hid (∀ i, i < np → h i = mirP (P i) ∧ BdP 1048576 (P i))) (h0 : 0 < np) (k0 : 0 < nf) (hn : np ≤ 1000000) (hm : nf ≤ 1000000) (E : Hid (N = (if vcode ⟨np, nf, h, F2⟩ = 0 then np else 0) ∧ NF = (if vcode ⟨np, nf, h, F2⟩ = 0 then nf else 0) ∧ code = vcode ⟨np, nf, h, F2⟩)) :
    Calls Try.prog 11 #[msv (some ⟨b, off, none⟩) np c a' nf c'] w (MovedW N NF h F2 code w) := by
  have SW := Lib.hid hF
  clear hF
  have HN := Lib.hid hn
  have HM := Lib.hid hm
  have H0 := Lib.hid h0
  have K0 := Lib.hid k0
  have hn' : (np : Int) ≤ 1000000 := by omega
  have hm' : (nf : Int) ≤ 1000000 := by omega
  clear hn hm h0 k0
  go_enter Try.func11, Try.ntmps11
  go_wp2_with fail
  refine (V.out _ (by (repeat' (first | exact Below.refl _ _ | refine Below.setCell ?_ (by simp <;> omega) _ | refine balloc ?_ _ | refine Below.drew ?_ | refine bdrewN ?_ _)))).mono ?_
  rintro e w1 ⟨rfl, hb1⟩
  have RM2 := Lib.hid (by have z := ownMs_below (ownMs_new (w.alloc (msc (some ⟨b, off, none⟩) np c a' nf c' 25)) (.slice none 0 0) (.slice none 0 0) 25) hb1; simp only [World.size_alloc] at z; exact z : OwnMs w1 (w.heap.size + 1) (.slice none 0 0) (.slice none 0 0))
  have ME2 := Lib.hid (mes_below (mes_alloc (mes_new w (some ⟨b, off, none⟩) np c a' nf c' 25) (.cells #[.slice none 0 0, .slice none 0 0] 25)) hb1)
  have B2 := Lib.hid (bstep (balloc (balloc (Below.refl w.heap.size w) (msc (some ⟨b, off, none⟩) np c a' nf c' 25)) (.cells #[.slice none 0 0, .slice none 0 0] 25)) hb1)
  clear hb1
  obtain ⟨m1, m2, m3⟩ := ME2.out
  go_wp2_with fail
  refine (CP.out _ B2.out).mono ?_
  rintro e w3 ⟨ga, gc, fa, fc, rfl, lg, lf, hd, hb3⟩
  obtain ⟨g, rfl, hg, rg⟩ := lg H0.out
  obtain ⟨fb, rfl, hf, rf⟩ := lf K0.out
  have RL := Lib.hid (show w.heap.size + 1 < w1.heap.size from RM2.out.2.2.2.2)
  have GL := Lib.hid rg.1
  have FL := Lib.hid rf.1
  have SL := Lib.hid hb3.size
  have HG := Lib.hid hg
  have HF := Lib.hid hf
  have ND := Lib.hid (show g ≠ fb from hd H0.out K0.out ⟨g, 0, none⟩ ⟨fb, 0, none⟩ rfl rfl)
  have LG0 := Lib.hid (lstw_alloc lg (.cells #[.slice (some ⟨g, 0, none⟩) np gc, .slice (some ⟨fb, 0, none⟩) nf fc] 25))
  have LF0 := Lib.hid (lstw_alloc lf (.cells #[.slice (some ⟨g, 0, none⟩) np gc, .slice (some ⟨fb, 0, none⟩) nf fc] 25))
  have OM := Lib.hid (ownMs_new w3 (.slice (some ⟨g, 0, none⟩) np gc) (.slice (some ⟨fb, 0, none⟩) nf fc) 25)
  have RM3' := Lib.hid (ownMs_alloc (ownMs_below RM2.out hb3) (.cells #[.slice (some ⟨g, 0, none⟩) np gc, .slice (some ⟨fb, 0, none⟩) nf fc] 25))
  have B3' := Lib.hid (balloc (bstep B2.out hb3) (.cells #[.slice (some ⟨g, 0, none⟩) np gc, .slice (some ⟨fb, 0, none⟩) nf fc] 25))
  have RG0 := Lib.hid (row3w_alloc rg (.cells #[.slice (some ⟨g, 0, none⟩) np gc, .slice (some ⟨fb, 0, none⟩) nf fc] 25))
  have RF0 := Lib.hid (row3w_alloc rf (.cells #[.slice (some ⟨g, 0, none⟩) np gc, .slice (some ⟨fb, 0, none⟩) nf fc] 25))
  clear lg lf hd hb3 rg rf hg hf m1 m2 m3
  obtain ⟨t1, t2, t3, t4, t5⟩ := OM.out
  go_wp2
  have ST := Lib.hid (show RT w (w3.alloc (.cells #[.slice (some ⟨g, 0, none⟩) np gc, .slice (some ⟨fb, 0, none⟩) nf fc] 25)) (w.heap.size + 1) w3.heap.size w1.heap.size g np gc nf fc (some ⟨fb, 0, none⟩) (upd h P 0) F from ⟨row3w_eq RG0.out (fun k _ => upd_zero h P k), OM.out, RM3'.out, LF0.out, B3'.out⟩)
  clear t1 t2 t3 t4 t5 LG0 LF0 OM RM3' B3' RG0 RF0
  go_loopw [6] (fun kv wr => ∃ k : Nat, k ≤ np ∧ kv = .int .i64 k ∧ RT w wr (w.heap.size + 1) w3.heap.size w1.heap.size g np gc nf fc (some ⟨fb, 0, none⟩) (upd h P k) F) (fun kv _ => np - (intOf kv).toNat)
  case atStart => exact ⟨0, Nat.zero_le _, rfl, ST.out⟩
  case round =>
    clear ST
    obtain ⟨k, hk, rfl, st⟩ := hrel
    have XX := Lib.hid st
    have YY := Lib.hid (rt_drew st)
    obtain ⟨t1, t2, t3, t4, t5⟩ := st.2.1
    by_cases hlt : k < np
    · have k1 : (k : Int) < (np : Int) := by omega
      obtain ⟨⟨c1, c2, c3⟩, f1, f2, f3⟩ := st.1.2 k hlt
      have r6 := st.1.1
      rw [upd_at] at c1 c2 c3
      have US := Lib.hid (upd_succ h P k)
      have UA := Lib.hid (upd_at h P k)
      have TK := Lib.hid (TP.out k hlt)
      clear st
      obtain ⟨p, hp⟩ : ∃ p, P k = p := ⟨_, rfl⟩
      rw [hp] at c1 c2 c3 TK UA
      clear hp
      obtain ⟨b1, b2, b3, b4, b5, b6⟩ := TK.out.2
      go_wp2
      go_region
      go_wp2
      go_roundw
      case rel => exact ⟨k + 1, by omega, by go_num, rt_first YY.out hlt (-p.1) (by have := GL.out; omega) (by have := RL.out; have := HG.out; omega) (by have := RL.out; have := HG.out; omega) (fun _ b' e => by cases e; exact fun z => ND.out z.symm) (fun i => by
          rw [← US.out i]
          by_cases e : i = k
          · subst e; rw [if_pos rfl, if_pos rfl, UA.out, TK.out.1]; rfl
          · rw [if_neg e, if_neg e])⟩
      case measure => simp [intOf]; omega
    · obtain rfl : np = k := by omega
      have RF0 := Lib.hid st.2.2.2.1
      have SU := Lib.hid (show RF w wr (w.heap.size + 1) w3.heap.size w1.heap.size fb nf fc np gc (some ⟨g, 0, none⟩) (upd F2 F 0) h from by
        obtain ⟨z, q, l, r⟩ := st.2.2.2.1 K0.out
        cases q
        exact ⟨row3w_eq r (fun k _ => upd_zero F2 F k), st.2.1, st.2.2.1, fun _ => ⟨g, rfl, HG.out, row3w_eq st.1 (fun i hi => upd_end h P np i hi)⟩, st.2.2.2.2⟩)
      clear st XX YY RF0
      go_wp2
      clear t1 t2 t3 t4 t5
      go_loopw [7] (fun kv wx => ∃ j : Nat, j ≤ nf ∧ kv = .int .i64 j ∧ RF w wx (w.heap.size + 1) w3.heap.size w1.heap.size fb nf fc np gc (some ⟨g, 0, none⟩) (upd F2 F j) h) (fun kv _ => nf - (intOf kv).toNat)
      case atStart => exact ⟨0, Nat.zero_le _, rfl, SU.out⟩
      case round =>
        clear SU
        obtain ⟨j, hj, rfl, st⟩ := hrel
        have XX := Lib.hid st
        obtain ⟨t1, t2, t3, t4, t5⟩ := st.2.1
        by_cases hjt : j < nf
        · have j1 : (j : Int) < (nf : Int) := by omega
          obtain ⟨⟨c1, c2, c3⟩, f1, f2, f3⟩ := st.1.2 j hjt
          have r6 := st.1.1
          rw [upd_at] at c1 c2 c3
          have US := Lib.hid (upd_succ F2 F j)
          have SK := Lib.hid (SW.out j)
          clear st
          obtain ⟨p, hp⟩ : ∃ p, F j = p := ⟨_, rfl⟩
          rw [hp] at c1 c2 c3 SK
          clear hp
          go_wp2
          go_roundw
          case rel => exact ⟨j + 1, by omega, by go_num, rf_alloc (rf_put XX.out hjt (swF p) (by have := FL.out; omega) (by have := RL.out; have := HF.out; omega) (by have := RL.out; have := HF.out; omega) (fun _ b' e => by cases e; exact fun z => ND.out z) (fun i => by rw [← US.out i, SK.out])) _⟩
          case measure => simp [intOf]; omega
        · obtain rfl : nf = j := by omega
          have LF := Lib.hid (show LstW wr w1.heap.size (some ⟨fb, 0, none⟩) nf F2 from fun _ => ⟨fb, rfl, HF.out, row3w_eq st.1 (fun i hi => upd_end F2 F nf i hi)⟩)
          have LG := Lib.hid st.2.2.2.1
          have RM3 := Lib.hid st.2.2.1
          have B3 := Lib.hid st.2.2.2.2
          clear st XX
          by_cases hz : vcode ⟨np, nf, h, F2⟩ = 0
          · have Z := Lib.hid hz
            clear hz
            go_wp2_with fail
            refine (rtold_yes (some ⟨g, 0, none⟩) np gc (some ⟨fb, 0, none⟩) nf fc h F2 _ (lstw_lst LG.out) (lstw_lst LF.out) HN.out HM.out Z.out).mono ?_
            rintro e w4 ⟨rfl, hb4⟩
            have RM4 := Lib.hid (ownMs_below RM3.out hb4)
            have LG4 := Lib.hid (lstw_below LG.out hb4)
            have LF4 := Lib.hid (lstw_below LF.out hb4)
            have B4 := Lib.hid (bstep B3.out hb4)
            clear hb4 t1 t2 t3 t4 t5
            obtain ⟨m1, m2, m3, m4, m5⟩ := RM4.out
            go_wp2
            refine bodyPost_ret (v := .tuple #[msv (some ⟨g, 0, none⟩) np gc (some ⟨fb, 0, none⟩) nf fc, .int .i64 0]) (by rw [results_cell_tmp rfl]; go_simp) rfl ?_
            obtain ⟨e1, e2, e3⟩ := E.out
            rw [if_pos Z.out] at e1 e2
            rw [Z.out] at e3
            subst e1 e2 e3
            exact ⟨(some ⟨g, 0, none⟩), gc, (some ⟨fb, 0, none⟩), fc, rfl, lstw_mono (lstw_put2 LG4.out RL.out) (by have := RL.out; omega), lstw_mono (lstw_put2 LF4.out RL.out) (by have := RL.out; omega), below_put2 B4.out (by omega)⟩
          · have Z := Lib.hid hz
            clear hz
            go_wp2_with fail
            refine (rtold_not (some ⟨g, 0, none⟩) np gc (some ⟨fb, 0, none⟩) nf fc h F2 _ (lstw_lst LG.out) (lstw_lst LF.out) HN.out HM.out Z.out).mono ?_
            rintro e w4 ⟨rfl, hb4⟩
            have RM4 := Lib.hid (ownMs_below RM3.out hb4)
            have B4 := Lib.hid (bstep B3.out hb4)
            clear hb4 t1 t2 t3 t4 t5
            obtain ⟨m1, m2, m3, m4, m5⟩ := RM4.out
            go_wp2
            refine bodyPost_ret (v := .tuple #[msv none 0 0 none 0 0, .int .i64 (vcode ⟨np, nf, h, F2⟩)]) (by rw [results_cell_tmp rfl]; go_simp) rfl ?_
            obtain ⟨e1, e2, e3⟩ := E.out
            rw [if_neg Z.out] at e1 e2
            subst e1 e2 e3
            exact movedW_none ⟨rfl, below_put2 B4.out (by omega)⟩

end Go.Proofs.Ytfpenkgkcjpknaa
