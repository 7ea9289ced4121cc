/-
  The contract of Of: the moments of charged panels about a center.
-/
import Derived.Test.YtofjnbebipkgkaaDoorMoGc
namespace Go.Proofs.YtofjnbebipkgkaaDoor
open Go.ChangeShapes Go.WideShapes Go.RowKit
open Sh
theorem gather_any (g : Nat) (p : P3) (m : Mo) (q : Ch) (k : Int) (W : World) (og : OwnL W g (gl p m)) (pl : Plc W) (hp : BdP 64 p) (hq : chcode q = 0) (hm : mbd k m) (hk : k ≤ 150) (hg : g ≠ 0) (gz : 0 < g) :
    Calls Tryd.prog 12 #[.pointer (some ⟨g, 0, none⟩), chv q] W (fun e w' => e = .returned (.tuple #[]) ∧ OwnL w' g (gl p (madd m (gat p q))) ∧ Below g W w') := by
  obtain ⟨⟨h1, h2, h3⟩, hc⟩ := chcode_ok' hq
  have A := sub_bd h1 hp
  have B := sub_bd h2 hp
  have C := sub_bd h3 hp
  have S := sum3_bd A B C
  have T := tim_bd hc.1 hc.2 S
  have M := mbd_mok hm (by omega)
  refine gather_mid g p m (madd m (gat p q)) q (sub q.1.1 p) (sub q.1.2.1 p) (sub q.1.2.2 p) (sum3 (sub q.1.1 p) (sub q.1.2.1 p) (sub q.1.2.2 p)) W
    ⟨ownL_alloc og _, ownCh_new W q _, plc_alloc pl _, (Below.refl g W).alloc (Nat.le_of_lt og.1) _, og.1⟩
    (Lib.hid fun W => cor_any p q.1.1 q.1.2.1 q.1.2.2 W hp h1 h2 h3)
    (Lib.hid fun W => ?_) (Lib.hid fun W => ?_) (Lib.hid fun W => ?_) hc (S.mono (by decide)) A B C M (Lib.hid ⟨rfl, rfl⟩) (Lib.hid ⟨rfl, rfl, rfl, rfl, rfl, rfl⟩) hg gz
  · have z := vpl_any (sub q.1.1 p) (sub q.1.2.1 p) 1 W (by rw [tim1]; exact B.mono (by decide)) (by rw [tim1]; exact (add_bd A B).mono (by decide))
    rw [tim1] at z
    exact z
  · have z := vpl_any (add (sub q.1.1 p) (sub q.1.2.1 p)) (sub q.1.2.2 p) 1 W (by rw [tim1]; exact C.mono (by decide)) (by rw [tim1]; exact (add_bd (add_bd A B) C).mono (by decide))
    rw [tim1] at z
    exact z
  · exact vpl_any m.d (sum3 (sub q.1.1 p) (sub q.1.2.1 p) (sub q.1.2.2 p)) q.2 W (T.mono (by decide)) ((add_bd M.2.2.1 T).mono (by decide))
theorem ownMo_in {w w1 : World} {b B : Nat} {m : Mo} (h : OwnMo w b m) (hb : Below B w w1) (l : b < B) : OwnMo w1 b m := by
  obtain ⟨⟨h0, h1, h2, h3, h4, h5, h6, h7, h8, h9, h10⟩, ⟨f0, f1, f2, f3, f4, f5, f6, f7, f8, f9, f10⟩, ll⟩ := h
  exact ⟨⟨(hb.cell (p := ⟨b, 0, none⟩) l).trans h0, (hb.cell (p := ⟨b, 1, none⟩) l).trans h1, (hb.cell (p := ⟨b, 2, none⟩) l).trans h2, (hb.cell (p := ⟨b, 3, none⟩) l).trans h3, (hb.cell (p := ⟨b, 4, none⟩) l).trans h4, (hb.cell (p := ⟨b, 5, none⟩) l).trans h5, (hb.cell (p := ⟨b, 6, none⟩) l).trans h6, (hb.cell (p := ⟨b, 7, none⟩) l).trans h7, (hb.cell (p := ⟨b, 8, none⟩) l).trans h8, (hb.cell (p := ⟨b, 9, none⟩) l).trans h9, (hb.cell (p := ⟨b, 10, none⟩) l).trans h10⟩, ⟨(hb.frozen (p := ⟨b, 0, none⟩) l).trans f0, (hb.frozen (p := ⟨b, 1, none⟩) l).trans f1, (hb.frozen (p := ⟨b, 2, none⟩) l).trans f2, (hb.frozen (p := ⟨b, 3, none⟩) l).trans f3, (hb.frozen (p := ⟨b, 4, none⟩) l).trans f4, (hb.frozen (p := ⟨b, 5, none⟩) l).trans f5, (hb.frozen (p := ⟨b, 6, none⟩) l).trans f6, (hb.frozen (p := ⟨b, 7, none⟩) l).trans f7, (hb.frozen (p := ⟨b, 8, none⟩) l).trans f8, (hb.frozen (p := ⟨b, 9, none⟩) l).trans f9, (hb.frozen (p := ⟨b, 10, none⟩) l).trans f10⟩, Nat.lt_of_lt_of_le ll hb.size⟩
/-- what Of has in its loop -/
def OFR (w wr : World) (g : Nat) (p : P3) (m : Mo) : Prop :=
  OwnL wr g (gl p m) ∧ OwnMo wr (w.heap.size + 1) mzero ∧ Plc wr ∧ Below w.heap.size w wr ∧ w.heap.size + 1 < g
theorem ofr_step {w wr wx : World} {g : Nat} {p : P3} {m m' : Mo} (h : OFR w wr g p m) (o : Obj) (h1 : OwnL wx g (gl p m')) (hb : Below g (wr.alloc o) wx) (gz : 0 < g) : OFR w wx g p m' := by
  obtain ⟨a, b, c, d, e⟩ := h
  exact ⟨h1, ownMo_in (ownMo_alloc b o) hb e, plc_in (plc_alloc c o) hb gz, (balloc d o).trans (hb.mono (by omega)), e⟩
set_option maxHeartbeats 1000000 in
theorem of_no (a : Option Addr) (n cap : Nat) (p : P3) (code : Int) (w : World) (V : Hid (∀ W, Below w.heap.size w W → Calls Tryd.prog 10 #[.slice a n cap, ptv p] W fun e w' => e = .returned (.int .i64 code) ∧ Below W.heap.size W w')) (z : code ≠ 0) :
    Calls Tryd.prog 5 #[.slice a n cap, ptv p] w fun e w' => e = .returned (.tuple #[mov0, .int .i64 code]) ∧ Below w.heap.size w w' := by
  have z1 := int_ne0 z
  clear z
  go_enter Tryd.func5, Tryd.ntmps5
  go_wp2_with fail
  refine (V.out _ (by (repeat' (first | exact Below.refl _ _ | refine Below.setCell ?_ (by simp <;> omega) _ | refine balloc ?_ _ | refine Below.drew ?_ | refine bdrewN ?_ _)))).mono ?_
  rintro e w1 ⟨rfl, hb1⟩
  have PT := own_below (own_alloc (own_new w p 24) (mob0 28)) hb1
  have PR := Lib.hid (by have z := ownMo_below (ownMo_new0 (w.alloc (ptc p 24)) 28) hb1; simp only [World.size_alloc] at z; exact z : OwnMo w1 (w.heap.size + 1) mzero)
  have B1 := Lib.hid (bstep (balloc (balloc (Below.refl _ w) _) _) hb1)
  clear hb1
  clear PT
  have OR' := PR.out
  simp only [OwnMo, mzero] at OR'
  obtain ⟨⟨y0, y1, y2, y3, y4, y5, y6, y7, y8, y9, y10⟩, ⟨g0, g1, g2, g3, g4, g5, g6, g7, g8, g9, g10⟩, lr⟩ := OR'
  go_wp2
  refine bodyPost_ret (v := .tuple #[mov0, .int .i64 code]) (by rw [results_cell_tmp rfl]; go_simp) rfl ⟨rfl, ?_⟩
  exact below_put11 B1.out (by omega)
set_option maxRecDepth 100000 in
set_option maxHeartbeats 2000000 in
theorem of_zero (a : Option Addr) (cap : Nat) (p : P3) (w : World) (pl : Plc w) (V : Hid (∀ W, Below w.heap.size w W → Calls Tryd.prog 10 #[.slice a 0 cap, ptv p] W fun e w' => e = .returned (.int .i64 0) ∧ Below W.heap.size W w')) :
    Calls Tryd.prog 5 #[.slice a 0 cap, ptv p] w fun e w' => e = .returned (.tuple #[mov0, .int .i64 0]) ∧ Below w.heap.size w w' := by
  have PLC := Lib.hid pl
  clear pl
  go_enter Tryd.func5, Tryd.ntmps5
  go_wp2_with fail
  refine (V.out _ (by (repeat' (first | exact Below.refl _ _ | refine Below.setCell ?_ (by simp <;> omega) _ | refine balloc ?_ _ | refine Below.drew ?_ | refine bdrewN ?_ _)))).mono ?_
  rintro e w1 ⟨rfl, hb1⟩
  have PT := own_below (own_alloc (own_new w p 24) (mob0 28)) hb1
  have PR := Lib.hid (by have z := ownMo_below (ownMo_new0 (w.alloc (ptc p 24)) 28) hb1; simp only [World.size_alloc] at z; exact z : OwnMo w1 (w.heap.size + 1) mzero)
  have B1 := Lib.hid (bstep (balloc (balloc (Below.refl _ w) _) _) hb1)
  clear hb1
  obtain ⟨t1, t2, t3, t4, t5, t6, t7⟩ := PT
  go_wp2_with fail
  refine (abt_any p _).mono ?_
  rintro e w2 ⟨rfl, hb2⟩
  clear t1 t2 t3 t4 t5 t6 t7
  have LG := Lib.hid (show w.heap.size + 1 < w2.heap.size from Nat.lt_of_lt_of_le PR.out.2.2 hb2.size)
  have ST := Lib.hid (show OFR w (w2.alloc (.cells #[.int .i64 p.1, .int .i64 p.2.1, .int .i64 p.2.2, .int .i64 0, .int .i64 0, .int .i64 0, .int .i64 0, .int .i64 0, .int .i64 0, .int .i64 0, .int .i64 0, .int .i64 0, .int .i64 0, .int .i64 0] 47)) w2.heap.size p mzero from
    ⟨ownL_new14 w2 p.1 p.2.1 p.2.2 0 0 0 0 0 0 0 0 0 0 0 _, ownMo_alloc (ownMo_below PR.out hb2) _, plc_alloc (plc_in PLC.out (bstep B1.out hb2) PLC.out.2) _, balloc (bstep B1.out hb2) _, LG.out⟩)
  clear hb2 PR B1
  go_wp2
  refine wp_loop_rounds 1 ?_
  rw [rounds_succ]
  dsimp only [mzero] at ST
  obtain ⟨k0, k1, k2, k3, k4, k5, k6, k7, k8, k9, k10, k11, k12, k13⟩ := ownL_cells14 ST.out.1
  have kl := ST.out.1.1
  have OR' := ST.out.2.1
  simp only [OwnMo, mzero] at OR'
  obtain ⟨⟨y0, y1, y2, y3, y4, y5, y6, y7, y8, y9, y10⟩, ⟨g0, g1, g2, g3, g4, g5, g6, g7, g8, g9, g10⟩, lr⟩ := OR'
  go_wp2
  refine bodyPost_ret (v := .tuple #[mov0, .int .i64 0]) (by rw [results_cell_tmp rfl]; go_simp) rfl ⟨rfl, ?_⟩
  exact below_put11 ST.out.2.2.2.1 (by omega)

set_option maxRecDepth 100000 in
set_option maxHeartbeats 4000000 in
theorem of_row (b off n cap : Nat) (Q : Nat → Ch) (p : P3) (w : World) (pl : Plc w) (V : Hid (∀ W, Below w.heap.size w W → Calls Tryd.prog 10 #[.slice (some ⟨b, off, none⟩) n cap, ptv p] W fun e w' => e = .returned (.int .i64 0) ∧ Below W.heap.size W w')) (r : RowC w b off n Q) (hn : n ≤ 96) (hp : BdP 64 p) (hq : chcodes Q n = 0) (h0 : 0 < n) :
    Calls Tryd.prog 5 #[.slice (some ⟨b, off, none⟩) n cap, ptv p] w fun e w' => e = .returned (.tuple #[mov (mof p Q n), .int .i64 0]) ∧ Below w.heap.size w w' := by
  have PLC := Lib.hid pl
  have gz : 0 < w.heap.size := pl.2
  have hb1 : b < w.heap.size := r.1
  have R := Lib.hid r
  have HP := Lib.hid hp
  have HC := Lib.hid (fun k (h : k < n) => chcodes_all hq k h)
  have HB := Lib.hid (fun k (h : k ≤ n) => mof_bd hp hq k h)
  have hn' : (n : Int) ≤ 96 := by omega
  clear pl r hp hq
  go_enter Tryd.func5, Tryd.ntmps5
  go_wp2_with fail
  refine (V.out _ (by (repeat' (first | exact Below.refl _ _ | refine Below.setCell ?_ (by simp <;> omega) _ | refine balloc ?_ _ | refine Below.drew ?_ | refine bdrewN ?_ _)))).mono ?_
  rintro e w1 ⟨rfl, hb1⟩
  have PT := own_below (own_alloc (own_new w p 24) (mob0 28)) hb1
  have PR := Lib.hid (by have z := ownMo_below (ownMo_new0 (w.alloc (ptc p 24)) 28) hb1; simp only [World.size_alloc] at z; exact z : OwnMo w1 (w.heap.size + 1) mzero)
  have B1 := Lib.hid (bstep (balloc (balloc (Below.refl _ w) _) _) hb1)
  clear hb1
  obtain ⟨t1, t2, t3, t4, t5, t6, t7⟩ := PT
  go_wp2_with fail
  refine (abt_any p _).mono ?_
  rintro e w2 ⟨rfl, hb2⟩
  clear t1 t2 t3 t4 t5 t6 t7
  have LG := Lib.hid (show w.heap.size + 1 < w2.heap.size from Nat.lt_of_lt_of_le PR.out.2.2 hb2.size)
  have ST := Lib.hid (show OFR w (w2.alloc (.cells #[.int .i64 p.1, .int .i64 p.2.1, .int .i64 p.2.2, .int .i64 0, .int .i64 0, .int .i64 0, .int .i64 0, .int .i64 0, .int .i64 0, .int .i64 0, .int .i64 0, .int .i64 0, .int .i64 0, .int .i64 0] 47)) w2.heap.size p mzero from
    ⟨ownL_new14 w2 p.1 p.2.1 p.2.2 0 0 0 0 0 0 0 0 0 0 0 _, ownMo_alloc (ownMo_below PR.out hb2) _, plc_alloc (plc_in PLC.out (bstep B1.out hb2) PLC.out.2) _, balloc (bstep B1.out hb2) _, LG.out⟩)
  clear hb2 PR B1
  go_wp2
  go_loopw [22] (fun kv wr => ∃ k : Nat, k ≤ n ∧ kv = .int .i64 k ∧ OFR w wr w2.heap.size p (mof p Q k)) (fun kv _ => n - (intOf kv).toNat)
  case atStart => exact ⟨0, Nat.zero_le _, rfl, ST.out⟩
  case round =>
    clear ST
    obtain ⟨k, hk, rfl, st⟩ := hrel
    have ST := Lib.hid st
    clear st
    by_cases hlt : k < n
    · have r2 := rowC_in R.out ST.out.2.2.2.1 hb1
      obtain ⟨c0, c1, c2, c3, c4, c5, c6, c7, c8, c9⟩ := r2.2 k hlt
      have r5 := r2.1
      clear r2
      have hk1 : (k : Int) < (n : Int) := by omega
      have QC := Lib.hid (HC.out k hlt)
      have MB := Lib.hid (HB.out k hk)
      have E := Lib.hid (show mof p Q (k + 1) = madd (mof p Q k) (gat p (Q k)) from rfl)
      generalize Q k = q at *
      generalize mof p Q k = m at *
      have GG := Lib.hid (gather_any w2.heap.size p m q k (wr.alloc (chb q 38)) (ownL_alloc ST.out.1 _) (plc_alloc ST.out.2.2.1 _) HP.out QC.out MB.out (by omega) (by have := LG.out; omega) (by have := LG.out; omega))
      go_wp2_with fail
      refine GG.out.mono ?_
      rintro e w3 ⟨rfl, h1, hb⟩
      have S3 := Lib.hid (ofr_step ST.out _ h1 hb (by have := LG.out; omega))
      clear h1 hb c0 c1 c2 c3 c4 c5 c6 c7 c8 c9 GG
      go_wp2
      go_roundw
      case rel => exact ⟨k + 1, by omega, by go_num, by rw [E.out]; exact S3.out⟩
      case measure => simp [intOf]; omega
    · obtain rfl : k = n := by omega
      obtain ⟨k0, k1, k2, k3, k4, k5, k6, k7, k8, k9, k10, k11, k12, k13⟩ := ownL_cells14 ST.out.1
      have kl := ST.out.1.1
      have OR' := ST.out.2.1
      simp only [OwnMo, mzero] at OR'
      obtain ⟨⟨y0, y1, y2, y3, y4, y5, y6, y7, y8, y9, y10⟩, ⟨g0, g1, g2, g3, g4, g5, g6, g7, g8, g9, g10⟩, lr⟩ := OR'
      go_wp2
      refine bodyPost_ret (v := .tuple #[mov (mof p Q k), .int .i64 0]) (by rw [results_cell_tmp rfl]; go_simp) rfl ⟨rfl, ?_⟩
      exact below_put11 ST.out.2.2.2.1 (by omega)
theorem of_any (a : Option Addr) (n cap : Nat) (Q : Nat → Ch) (p : P3) (w : World) (pl : Plc w) (r : LstC w a n Q) (hn : n ≤ 140737488355328) :
    Calls Tryd.prog 5 #[.slice a n cap, ptv p] w fun e w' => e = .returned (.tuple #[mov (if ocode n Q p = 0 then mof p Q n else mzero), .int .i64 (ocode n Q p)]) ∧ Below w.heap.size w w' := by
  have V := fun W (B : Below w.heap.size w W) => chk_any a n cap Q p W (lstC_below r B) hn
  by_cases z : ocode n Q p = 0
  · rw [z] at V
    rw [if_pos z, z]
    have hc : ccode n Q = 0 := by
      unfold ocode at z
      by_cases q : ccode n Q = 0
      · exact q
      · rw [if_neg q] at z; exact absurd z q
    have hp : inP 64 p = true := by
      unfold ocode at z
      rw [if_pos hc] at z
      cases q : inP 64 p with
      | true => rfl
      | false => rw [q] at z; cases z
    have h9 : ¬ 96 < n := fun h => by unfold ccode at hc; rw [if_pos h] at hc; cases hc
    have hq : chcodes Q n = 0 := by unfold ccode at hc; rw [if_neg h9] at hc; exact hc
    by_cases h0 : n = 0
    · subst h0
      exact of_zero a cap p w pl (Lib.hid V)
    · obtain ⟨b, off, rfl, rr⟩ := r (by omega)
      exact of_row b off n cap Q p w pl (Lib.hid V) rr (by omega) (inP_iff.1 hp) hq (by omega)
  · rw [if_neg z]
    exact of_no a n cap p _ w (Lib.hid V) z

end Go.Proofs.YtofjnbebipkgkaaDoor
