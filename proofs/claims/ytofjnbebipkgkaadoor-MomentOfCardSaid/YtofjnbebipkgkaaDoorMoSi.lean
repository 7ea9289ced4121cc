/-
  The contract of Shift for moments: the loop.
-/
import Derived.Test.YtofjnbebipkgkaaDoorMoSh
namespace Go.Proofs.YtofjnbebipkgkaaDoor
open Go.ChangeShapes Go.WideShapes Go.RowKit
open Sh
set_option maxRecDepth 100000 in
set_option maxHeartbeats 4000000 in
theorem mshf_row (m : Mo) (t : P3) (w : World) (pl : Plc w) (h : mokB m = true) (hk : inP 128 t = true) :
    Calls Tryd.prog 9 #[mov m, ptv t] w fun e w' => e = .returned (.tuple #[mov (mtold (mshift m t)), .int .i64 (mlarge (mshift m t))]) ∧ Below w.heap.size w w' := by
  have V := Lib.hid (fun W => mval_ok m W h)
  have I : Hid (∀ W, Calls Tryd.prog 24 #[ptv t, .int .i64 128] W fun e w' => e = .returned (.bool true) ∧ Below W.heap.size W w') := Lib.hid (fun W => by have z := vwi_any t 128 W (by decide) (by decide); rw [hk] at z; exact z)
  have PLC := Lib.hid pl
  obtain ⟨mt, mc, hd, z0, z1, z2, z3, z4, z5⟩ := mokB_iff.1 h
  have hk' := inP_iff.1 hk
  have N0 := Lib.hid (sh_bd (s := m.s0) (c := m.c) (di := m.d.1) (dj := m.d.1) (ti := t.1) (tj := t.1) ⟨by omega, by omega⟩ z0 (cor1 hd) (cor1 hd) (cor1 hk') (cor1 hk'))
  have N1 := Lib.hid (sh_bd (s := m.s1) (c := m.c) (di := m.d.1) (dj := m.d.2.1) (ti := t.1) (tj := t.2.1) ⟨by omega, by omega⟩ z1 (cor1 hd) (cor2 hd) (cor1 hk') (cor2 hk'))
  have N2 := Lib.hid (sh_bd (s := m.s2) (c := m.c) (di := m.d.1) (dj := m.d.2.2) (ti := t.1) (tj := t.2.2) ⟨by omega, by omega⟩ z2 (cor1 hd) (cor3 hd) (cor1 hk') (cor3 hk'))
  have N3 := Lib.hid (sh_bd (s := m.s3) (c := m.c) (di := m.d.2.1) (dj := m.d.2.1) (ti := t.2.1) (tj := t.2.1) ⟨by omega, by omega⟩ z3 (cor2 hd) (cor2 hd) (cor2 hk') (cor2 hk'))
  have N4 := Lib.hid (sh_bd (s := m.s4) (c := m.c) (di := m.d.2.1) (dj := m.d.2.2) (ti := t.2.1) (tj := t.2.2) ⟨by omega, by omega⟩ z4 (cor2 hd) (cor3 hd) (cor2 hk') (cor3 hk'))
  have N5 := Lib.hid (sh_bd (s := m.s5) (c := m.c) (di := m.d.2.2) (dj := m.d.2.2) (ti := t.2.2) (tj := t.2.2) ⟨by omega, by omega⟩ z5 (cor3 hd) (cor3 hd) (cor3 hk') (cor3 hk'))
  have PP : Hid (∀ W, Calls Tryd.prog 25 #[ptv m.d, .int .i64 (-3 * m.c), ptv t] W fun e w' => e = .returned (ptv (mshift m t).d) ∧ Below W.heap.size W w') := Lib.hid (fun W => by
    have tb := (tim_bd (K := 3145728) (k := -3 * m.c) (by omega) (by omega) hk')
    have z := vpl_any m.d t (-3 * m.c) W (tb.mono (by decide)) ((add_bd hd tb).mono (by decide))
    rw [show add m.d (tim (-3 * m.c) t) = (mshift m t).d from dip_eq m t] at z
    exact z)
  have NL : Hid (∀ W, Calls Tryd.prog 27 #[mov (mshift m t)] W fun e w' => e = .returned (.tuple #[mov (mtold (mshift m t)), .int .i64 (mlarge (mshift m t))]) ∧ Below W.heap.size W w') := Lib.hid (fun W => nlg_any (mshift m t) W)
  obtain ⟨R, hR⟩ : ∃ R, mtold (mshift m t) = R := ⟨_, rfl⟩
  obtain ⟨E, hE⟩ : ∃ E, mlarge (mshift m t) = E := ⟨_, rfl⟩
  rw [hR, hE] at NL ⊢
  clear hR hE
  have hk' := Lib.hid hk'
  clear h hk pl mt mc hd z0 z1 z2 z3 z4 z5
  go_enter Tryd.func9, Tryd.ntmps9
  go_wp2_with fail
  refine (V.out _).mono ?_
  rintro e w1 ⟨rfl, hb1⟩
  have PM := Lib.hid (ownMo_below (ownMo_alloc (ownMo_alloc (ownMo_new w m 28) (ptc t 24)) (mob0 28)) hb1)
  have PT := Lib.hid (by have z := own_below (own_alloc (own_new (w.alloc (mob m 28)) t 24) (mob0 28)) hb1; simp only [World.size_alloc] at z; exact z : Own w1 (w.heap.size + 1) t)
  have PR := Lib.hid (by have z := ownMo_below (ownMo_new0 ((w.alloc (mob m 28)).alloc (ptc t 24)) 28) hb1; simp only [World.size_alloc] at z; exact z : OwnMo w1 (w.heap.size + 1 + 1) mzero)
  have B1 := Lib.hid (bstep (balloc (balloc (balloc (Below.refl _ w) _) _) _) hb1)
  have L1 := Lib.hid (show w.heap.size + 1 + 1 < w1.heap.size from PR.out.2.2)
  clear hb1
  have PT' := PT.out
  obtain ⟨t1, t2, t3, t4, t5, t6, t7⟩ := PT'
  go_wp2_with fail
  refine (vof_any t _).mono ?_
  rintro e w2 ⟨rfl, hb2⟩
  clear t1 t2 t3 t4 t5 t6 t7
  have PM := Lib.hid (ownMo_below PM.out hb2)
  have PR := Lib.hid (ownMo_below PR.out hb2)
  have B2 := Lib.hid (bstep B1.out hb2)
  have L2 := Lib.hid (Nat.lt_of_lt_of_le L1.out hb2.size)
  clear hb2
  go_wp2_with fail
  refine (I.out _).mono ?_
  rintro e w3 ⟨rfl, hb3⟩
  have L3 := Lib.hid (show w2.heap.size < w3.heap.size by have := hb3.size; simp only [World.size_alloc] at this; omega)
  have PV := Lib.hid (own_below (own_new w2 t 42) hb3)
  have PM := Lib.hid (ownMo_below (ownMo_alloc PM.out _) hb3)
  have PR := Lib.hid (ownMo_below (ownMo_alloc PR.out _) hb3)
  have B3 := Lib.hid (bstep (balloc B2.out _) hb3)
  clear hb3
  have PM' := PM.out
  obtain ⟨⟨x0, x1, x2, x3, x4, x5, x6, x7, x8, x9, x10⟩, ⟨f0, f1, f2, f3, f4, f5, f6, f7, f8, f9, f10⟩, lx⟩ := PM'
  go_wp2_with fail
  refine (vof_any m.d _).mono ?_
  rintro e w4 ⟨rfl, hb4⟩
  have L4 := Lib.hid (Nat.lt_of_lt_of_le L3.out hb4.size)
  have PV := Lib.hid (own_alloc (own_below PV.out hb4) (ptc m.d 42))
  have PD := Lib.hid (own_new w4 m.d 42)
  have PM := Lib.hid (ownMo_alloc (ownMo_below PM.out hb4) (ptc m.d 42))
  have PR := Lib.hid (ownMo_alloc (ownMo_below PR.out hb4) (ptc m.d 42))
  have B4 := Lib.hid (balloc (bstep B3.out hb4) (ptc m.d 42))
  have PL4 := plc_in PLC.out B4.out PLC.out.2
  clear hb4 x0 x1 x2 x3 x4 x5 x6 x7 x8 x9 x10 f0 f1 f2 f3 f4 f5 f6 f7 f8 f9 f10 lx
  obtain ⟨⟨g0, g1, g2, g3, g4, g5, g6, g7, g8, g9, g10, g11⟩, gl⟩ := PL4
  go_wp2
  clear g0 g1 g2 g3 g4 g5 g6 g7 g8 g9 g10 g11 gl
  have i0 : ∀ w, (Instr.index 61 (.agg #[.int .i64 0, .int .i64 0, .int .i64 0, .int .i64 1, .int .i64 0, .int .i64 2, .int .i64 1, .int .i64 1, .int .i64 1, .int .i64 2, .int .i64 2, .int .i64 2]) (.int .i64 0)).run Tryd.prog w = .ok (.agg #[.int .i64 0, .int .i64 0]) w := fun _ => by kernel_rfl
  have i1 : ∀ w, (Instr.index 61 (.agg #[.int .i64 0, .int .i64 0, .int .i64 0, .int .i64 1, .int .i64 0, .int .i64 2, .int .i64 1, .int .i64 1, .int .i64 1, .int .i64 2, .int .i64 2, .int .i64 2]) (.int .i64 1)).run Tryd.prog w = .ok (.agg #[.int .i64 0, .int .i64 1]) w := fun _ => by kernel_rfl
  have i2 : ∀ w, (Instr.index 61 (.agg #[.int .i64 0, .int .i64 0, .int .i64 0, .int .i64 1, .int .i64 0, .int .i64 2, .int .i64 1, .int .i64 1, .int .i64 1, .int .i64 2, .int .i64 2, .int .i64 2]) (.int .i64 2)).run Tryd.prog w = .ok (.agg #[.int .i64 0, .int .i64 2]) w := fun _ => by kernel_rfl
  have i3 : ∀ w, (Instr.index 61 (.agg #[.int .i64 0, .int .i64 0, .int .i64 0, .int .i64 1, .int .i64 0, .int .i64 2, .int .i64 1, .int .i64 1, .int .i64 1, .int .i64 2, .int .i64 2, .int .i64 2]) (.int .i64 3)).run Tryd.prog w = .ok (.agg #[.int .i64 1, .int .i64 1]) w := fun _ => by kernel_rfl
  have i4 : ∀ w, (Instr.index 61 (.agg #[.int .i64 0, .int .i64 0, .int .i64 0, .int .i64 1, .int .i64 0, .int .i64 2, .int .i64 1, .int .i64 1, .int .i64 1, .int .i64 2, .int .i64 2, .int .i64 2]) (.int .i64 4)).run Tryd.prog w = .ok (.agg #[.int .i64 1, .int .i64 2]) w := fun _ => by kernel_rfl
  have i5 : ∀ w, (Instr.index 61 (.agg #[.int .i64 0, .int .i64 0, .int .i64 0, .int .i64 1, .int .i64 0, .int .i64 2, .int .i64 1, .int .i64 1, .int .i64 1, .int .i64 2, .int .i64 2, .int .i64 2]) (.int .i64 5)).run Tryd.prog w = .ok (.agg #[.int .i64 2, .int .i64 2]) w := fun _ => by kernel_rfl
  go_loopw [29] (fun kv wr => ∃ k : Nat, k ≤ 6 ∧ kv = .int .i64 k ∧ SHF w wr (w.heap.size + 1 + 1) w2.heap.size w4.heap.size (mshk m t k) t m.d) (fun kv _ => 6 - (intOf kv).toNat)
  case atStart => exact ⟨0, Nat.zero_le _, rfl, PM.out, PR.out, PV.out, PD.out, B4.out⟩
  case round =>
    obtain ⟨k, hk, rfl, st⟩ := hrel
    have ST := Lib.hid st
    clear st PM PR PV PD
    have hc : k = 0 ∨ k = 1 ∨ k = 2 ∨ k = 3 ∨ k = 4 ∨ k = 5 ∨ k = 6 := by omega
    rcases hc with rfl | rfl | rfl | rfl | rfl | rfl | rfl
    · have PM := ownMo_drew (ownMo_alloc ST.out.1 (.cells #[.int .i64 0, .int .i64 0] 60))
      have PR := ownMo_drew (ownMo_alloc ST.out.2.1 (.cells #[.int .i64 0, .int .i64 0] 60))
      have PV := own_drew (own_alloc ST.out.2.2.1 (.cells #[.int .i64 0, .int .i64 0] 60))
      have PD := own_drew (own_alloc ST.out.2.2.2.1 (.cells #[.int .i64 0, .int .i64 0] 60))
      have BB := Below.drew (balloc ST.out.2.2.2.2 (.cells #[.int .i64 0, .int .i64 0] 60))
      go_wp2
      go_region
      generalize (wr.alloc (.cells #[.int .i64 0, .int .i64 0] 60)).drew = W at *
      have PM := Lib.hid PM
      have PR := Lib.hid PR
      have PV := Lib.hid PV
      have PD := Lib.hid PD
      have BB := Lib.hid BB
      have PM' := PM.out
      have PV' := PV.out
      have PD' := PD.out
      obtain ⟨⟨x0, x1, x2, x3, x4, x5, x6, x7, x8, x9, x10⟩, ⟨f0, f1, f2, f3, f4, f5, f6, f7, f8, f9, f10⟩, lx⟩ := PM'
      obtain ⟨t1, t2, t3, t4, t5, t6, t7⟩ := PV'
      obtain ⟨d1, d2, d3, d4, d5, d6, d7⟩ := PD'
      dsimp only [mshk] at x0 x1 x2 x3 x4 x5 x6 x7 x8 x9 x10
      obtain ⟨⟨u1, u2⟩, ⟨u3, u4⟩, ⟨u5, u6⟩, ⟨u7, u8⟩, ⟨u9, u10⟩, u11, u12⟩ := N0.out
      go_wp2
      go_still_tail 35, (by kernel_rfl)
      change wpList _ _ _ _ _ W.drew
      go_wp2
      go_roundw
      case rel => exact ⟨1, by omega, by go_num, ownMo_put5 (ownMo_drew PM.out) _, ownMo_set (ownMo_drew PR.out) (by omega), own_set (own_drew PV.out) (by have := L1.out; have := L2.out; omega), own_set (own_drew PD.out) (by have := L1.out; have := L2.out; have := L3.out; have := L4.out; omega), below_set1 (Below.drew BB.out) (Nat.le_refl _)⟩
      case measure => simp [intOf]
    · have PM := ownMo_drew (ownMo_alloc ST.out.1 (.cells #[.int .i64 0, .int .i64 1] 60))
      have PR := ownMo_drew (ownMo_alloc ST.out.2.1 (.cells #[.int .i64 0, .int .i64 1] 60))
      have PV := own_drew (own_alloc ST.out.2.2.1 (.cells #[.int .i64 0, .int .i64 1] 60))
      have PD := own_drew (own_alloc ST.out.2.2.2.1 (.cells #[.int .i64 0, .int .i64 1] 60))
      have BB := Below.drew (balloc ST.out.2.2.2.2 (.cells #[.int .i64 0, .int .i64 1] 60))
      go_wp2
      go_region
      generalize (wr.alloc (.cells #[.int .i64 0, .int .i64 1] 60)).drew = W at *
      have PM := Lib.hid PM
      have PR := Lib.hid PR
      have PV := Lib.hid PV
      have PD := Lib.hid PD
      have BB := Lib.hid BB
      have PM' := PM.out
      have PV' := PV.out
      have PD' := PD.out
      obtain ⟨⟨x0, x1, x2, x3, x4, x5, x6, x7, x8, x9, x10⟩, ⟨f0, f1, f2, f3, f4, f5, f6, f7, f8, f9, f10⟩, lx⟩ := PM'
      obtain ⟨t1, t2, t3, t4, t5, t6, t7⟩ := PV'
      obtain ⟨d1, d2, d3, d4, d5, d6, d7⟩ := PD'
      dsimp only [mshk] at x0 x1 x2 x3 x4 x5 x6 x7 x8 x9 x10
      obtain ⟨⟨u1, u2⟩, ⟨u3, u4⟩, ⟨u5, u6⟩, ⟨u7, u8⟩, ⟨u9, u10⟩, u11, u12⟩ := N1.out
      go_wp2
      go_still_tail 35, (by kernel_rfl)
      change wpList _ _ _ _ _ W.drew
      go_wp2
      go_roundw
      case rel => exact ⟨2, by omega, by go_num, ownMo_put6 (ownMo_drew PM.out) _, ownMo_set (ownMo_drew PR.out) (by omega), own_set (own_drew PV.out) (by have := L1.out; have := L2.out; omega), own_set (own_drew PD.out) (by have := L1.out; have := L2.out; have := L3.out; have := L4.out; omega), below_set1 (Below.drew BB.out) (Nat.le_refl _)⟩
      case measure => simp [intOf]
    · have PM := ownMo_drew (ownMo_alloc ST.out.1 (.cells #[.int .i64 0, .int .i64 2] 60))
      have PR := ownMo_drew (ownMo_alloc ST.out.2.1 (.cells #[.int .i64 0, .int .i64 2] 60))
      have PV := own_drew (own_alloc ST.out.2.2.1 (.cells #[.int .i64 0, .int .i64 2] 60))
      have PD := own_drew (own_alloc ST.out.2.2.2.1 (.cells #[.int .i64 0, .int .i64 2] 60))
      have BB := Below.drew (balloc ST.out.2.2.2.2 (.cells #[.int .i64 0, .int .i64 2] 60))
      go_wp2
      go_region
      generalize (wr.alloc (.cells #[.int .i64 0, .int .i64 2] 60)).drew = W at *
      have PM := Lib.hid PM
      have PR := Lib.hid PR
      have PV := Lib.hid PV
      have PD := Lib.hid PD
      have BB := Lib.hid BB
      have PM' := PM.out
      have PV' := PV.out
      have PD' := PD.out
      obtain ⟨⟨x0, x1, x2, x3, x4, x5, x6, x7, x8, x9, x10⟩, ⟨f0, f1, f2, f3, f4, f5, f6, f7, f8, f9, f10⟩, lx⟩ := PM'
      obtain ⟨t1, t2, t3, t4, t5, t6, t7⟩ := PV'
      obtain ⟨d1, d2, d3, d4, d5, d6, d7⟩ := PD'
      dsimp only [mshk] at x0 x1 x2 x3 x4 x5 x6 x7 x8 x9 x10
      obtain ⟨⟨u1, u2⟩, ⟨u3, u4⟩, ⟨u5, u6⟩, ⟨u7, u8⟩, ⟨u9, u10⟩, u11, u12⟩ := N2.out
      go_wp2
      go_still_tail 35, (by kernel_rfl)
      change wpList _ _ _ _ _ W.drew
      go_wp2
      go_roundw
      case rel => exact ⟨3, by omega, by go_num, ownMo_put7 (ownMo_drew PM.out) _, ownMo_set (ownMo_drew PR.out) (by omega), own_set (own_drew PV.out) (by have := L1.out; have := L2.out; omega), own_set (own_drew PD.out) (by have := L1.out; have := L2.out; have := L3.out; have := L4.out; omega), below_set1 (Below.drew BB.out) (Nat.le_refl _)⟩
      case measure => simp [intOf]
    · have PM := ownMo_drew (ownMo_alloc ST.out.1 (.cells #[.int .i64 1, .int .i64 1] 60))
      have PR := ownMo_drew (ownMo_alloc ST.out.2.1 (.cells #[.int .i64 1, .int .i64 1] 60))
      have PV := own_drew (own_alloc ST.out.2.2.1 (.cells #[.int .i64 1, .int .i64 1] 60))
      have PD := own_drew (own_alloc ST.out.2.2.2.1 (.cells #[.int .i64 1, .int .i64 1] 60))
      have BB := Below.drew (balloc ST.out.2.2.2.2 (.cells #[.int .i64 1, .int .i64 1] 60))
      go_wp2
      go_region
      generalize (wr.alloc (.cells #[.int .i64 1, .int .i64 1] 60)).drew = W at *
      have PM := Lib.hid PM
      have PR := Lib.hid PR
      have PV := Lib.hid PV
      have PD := Lib.hid PD
      have BB := Lib.hid BB
      have PM' := PM.out
      have PV' := PV.out
      have PD' := PD.out
      obtain ⟨⟨x0, x1, x2, x3, x4, x5, x6, x7, x8, x9, x10⟩, ⟨f0, f1, f2, f3, f4, f5, f6, f7, f8, f9, f10⟩, lx⟩ := PM'
      obtain ⟨t1, t2, t3, t4, t5, t6, t7⟩ := PV'
      obtain ⟨d1, d2, d3, d4, d5, d6, d7⟩ := PD'
      dsimp only [mshk] at x0 x1 x2 x3 x4 x5 x6 x7 x8 x9 x10
      obtain ⟨⟨u1, u2⟩, ⟨u3, u4⟩, ⟨u5, u6⟩, ⟨u7, u8⟩, ⟨u9, u10⟩, u11, u12⟩ := N3.out
      go_wp2
      go_still_tail 35, (by kernel_rfl)
      change wpList _ _ _ _ _ W.drew
      go_wp2
      go_roundw
      case rel => exact ⟨4, by omega, by go_num, ownMo_put8 (ownMo_drew PM.out) _, ownMo_set (ownMo_drew PR.out) (by omega), own_set (own_drew PV.out) (by have := L1.out; have := L2.out; omega), own_set (own_drew PD.out) (by have := L1.out; have := L2.out; have := L3.out; have := L4.out; omega), below_set1 (Below.drew BB.out) (Nat.le_refl _)⟩
      case measure => simp [intOf]
    · have PM := ownMo_drew (ownMo_alloc ST.out.1 (.cells #[.int .i64 1, .int .i64 2] 60))
      have PR := ownMo_drew (ownMo_alloc ST.out.2.1 (.cells #[.int .i64 1, .int .i64 2] 60))
      have PV := own_drew (own_alloc ST.out.2.2.1 (.cells #[.int .i64 1, .int .i64 2] 60))
      have PD := own_drew (own_alloc ST.out.2.2.2.1 (.cells #[.int .i64 1, .int .i64 2] 60))
      have BB := Below.drew (balloc ST.out.2.2.2.2 (.cells #[.int .i64 1, .int .i64 2] 60))
      go_wp2
      go_region
      generalize (wr.alloc (.cells #[.int .i64 1, .int .i64 2] 60)).drew = W at *
      have PM := Lib.hid PM
      have PR := Lib.hid PR
      have PV := Lib.hid PV
      have PD := Lib.hid PD
      have BB := Lib.hid BB
      have PM' := PM.out
      have PV' := PV.out
      have PD' := PD.out
      obtain ⟨⟨x0, x1, x2, x3, x4, x5, x6, x7, x8, x9, x10⟩, ⟨f0, f1, f2, f3, f4, f5, f6, f7, f8, f9, f10⟩, lx⟩ := PM'
      obtain ⟨t1, t2, t3, t4, t5, t6, t7⟩ := PV'
      obtain ⟨d1, d2, d3, d4, d5, d6, d7⟩ := PD'
      dsimp only [mshk] at x0 x1 x2 x3 x4 x5 x6 x7 x8 x9 x10
      obtain ⟨⟨u1, u2⟩, ⟨u3, u4⟩, ⟨u5, u6⟩, ⟨u7, u8⟩, ⟨u9, u10⟩, u11, u12⟩ := N4.out
      go_wp2
      go_still_tail 35, (by kernel_rfl)
      change wpList _ _ _ _ _ W.drew
      go_wp2
      go_roundw
      case rel => exact ⟨5, by omega, by go_num, ownMo_put9 (ownMo_drew PM.out) _, ownMo_set (ownMo_drew PR.out) (by omega), own_set (own_drew PV.out) (by have := L1.out; have := L2.out; omega), own_set (own_drew PD.out) (by have := L1.out; have := L2.out; have := L3.out; have := L4.out; omega), below_set1 (Below.drew BB.out) (Nat.le_refl _)⟩
      case measure => simp [intOf]
    · have PM := ownMo_drew (ownMo_alloc ST.out.1 (.cells #[.int .i64 2, .int .i64 2] 60))
      have PR := ownMo_drew (ownMo_alloc ST.out.2.1 (.cells #[.int .i64 2, .int .i64 2] 60))
      have PV := own_drew (own_alloc ST.out.2.2.1 (.cells #[.int .i64 2, .int .i64 2] 60))
      have PD := own_drew (own_alloc ST.out.2.2.2.1 (.cells #[.int .i64 2, .int .i64 2] 60))
      have BB := Below.drew (balloc ST.out.2.2.2.2 (.cells #[.int .i64 2, .int .i64 2] 60))
      go_wp2
      go_region
      generalize (wr.alloc (.cells #[.int .i64 2, .int .i64 2] 60)).drew = W at *
      have PM := Lib.hid PM
      have PR := Lib.hid PR
      have PV := Lib.hid PV
      have PD := Lib.hid PD
      have BB := Lib.hid BB
      have PM' := PM.out
      have PV' := PV.out
      have PD' := PD.out
      obtain ⟨⟨x0, x1, x2, x3, x4, x5, x6, x7, x8, x9, x10⟩, ⟨f0, f1, f2, f3, f4, f5, f6, f7, f8, f9, f10⟩, lx⟩ := PM'
      obtain ⟨t1, t2, t3, t4, t5, t6, t7⟩ := PV'
      obtain ⟨d1, d2, d3, d4, d5, d6, d7⟩ := PD'
      dsimp only [mshk] at x0 x1 x2 x3 x4 x5 x6 x7 x8 x9 x10
      obtain ⟨⟨u1, u2⟩, ⟨u3, u4⟩, ⟨u5, u6⟩, ⟨u7, u8⟩, ⟨u9, u10⟩, u11, u12⟩ := N5.out
      go_wp2
      go_still_tail 35, (by kernel_rfl)
      change wpList _ _ _ _ _ W.drew
      go_wp2
      go_roundw
      case rel => exact ⟨6, by omega, by go_num, ownMo_put10 (ownMo_drew PM.out) _, ownMo_set (ownMo_drew PR.out) (by omega), own_set (own_drew PV.out) (by have := L1.out; have := L2.out; omega), own_set (own_drew PD.out) (by have := L1.out; have := L2.out; have := L3.out; have := L4.out; omega), below_set1 (Below.drew BB.out) (Nat.le_refl _)⟩
      case measure => simp [intOf]
    · have PM := Lib.hid ST.out.1
      have PR := Lib.hid ST.out.2.1
      have B5 := Lib.hid ST.out.2.2.2.2
      have PM' := PM.out
      have PV' := ST.out.2.2.1
      have PD' := ST.out.2.2.2.1
      obtain ⟨⟨x0, x1, x2, x3, x4, x5, x6, x7, x8, x9, x10⟩, ⟨f0, f1, f2, f3, f4, f5, f6, f7, f8, f9, f10⟩, lx⟩ := PM'
      obtain ⟨t1, t2, t3, t4, t5, t6, t7⟩ := PV'
      obtain ⟨d1, d2, d3, d4, d5, d6, d7⟩ := PD'
      dsimp only [mshk] at x0 x1 x2 x3 x4 x5 x6 x7 x8 x9 x10
      obtain ⟨_, ⟨u3, u4⟩, _⟩ := N0.out
      clear i0 i1 i2 i3 i4 i5
      go_wp2_with fail
      refine (PP.out _).mono ?_
      rintro e w6 ⟨rfl, hb6⟩
      have PM := Lib.hid (ownMo_below PM.out hb6)
      have PR := Lib.hid (ownMo_below PR.out hb6)
      have B6 := Lib.hid (bstep B5.out hb6)
      clear hb6 x0 x1 x2 x3 x4 x5 x6 x7 x8 x9 x10 f0 f1 f2 f3 f4 f5 f6 f7 f8 f9 f10 lx t1 t2 t3 t4 t5 t6 t7 d1 d2 d3 d4 d5 d6 d7
      go_wp2_with fail
      refine (vpt_any (mshift m t).d _).mono ?_
      rintro e w7 ⟨rfl, hb7⟩
      have PM := Lib.hid (ownMo_below PM.out hb7)
      have PR := Lib.hid (ownMo_below PR.out hb7)
      have B7 := Lib.hid (bstep B6.out hb7)
      have PM' := PM.out
      obtain ⟨⟨x0, x1, x2, x3, x4, x5, x6, x7, x8, x9, x10⟩, ⟨f0, f1, f2, f3, f4, f5, f6, f7, f8, f9, f10⟩, lx⟩ := PM'
      dsimp only [mshk] at x0 x1 x2 x3 x4 x5 x6 x7 x8 x9 x10
      clear hb7
      go_wp2_with fail
      refine (NL.out _).mono ?_
      rintro e w8 ⟨rfl, hb8⟩
      have OR5 : Hid (OwnMo w8 (w.heap.size + 1 + 1) mzero) := Lib.hid (ownMo_below (by (repeat with_reducible refine ownMo_set ?_ (by omega)); exact PR.out) hb8)
      have B8 : Hid (Below w.heap.size w w8) := Lib.hid (bstep (by (repeat with_reducible refine below_set1 ?_ (Nat.le_refl _)); exact B7.out) hb8)
      clear hb8 x0 x1 x2 x3 x4 x5 x6 x7 x8 x9 x10 f0 f1 f2 f3 f4 f5 f6 f7 f8 f9 f10 lx
      have OR' := OR5.out
      simp only [OwnMo, mzero] at OR'
      obtain ⟨⟨y0, y1, y2, y3, y4, y5, y6, y7, y8, y9, y10⟩, ⟨g0, g1, g2, g3, g4, g5, g6, g7, g8, g9, g10⟩, lr⟩ := OR'
      go_wp2
      refine bodyPost_ret (v := .tuple #[mov R, .int .i64 E]) (by rw [results_cell_tmp rfl]; go_simp) rfl ⟨rfl, ?_⟩
      exact below_put11 B8.out (by omega)

end Go.Proofs.YtofjnbebipkgkaaDoor
