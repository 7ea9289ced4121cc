/-
  Images, the program's and the document's (one text of five).
-/
import Derived.Test.YtemchbdlckcmkaaGreatSoIa
import Derived.Test.YtemchbdlckcmkaaGreatSoMd
namespace Go.Proofs.YtemchbdlckcmkaaGreat
open Go.ChangeShapes Go.WideShapes Go.RowKit
open Sh
theorem ims_v (a : Option Addr) (n c : Nat) (s : Bool) (vc : Int) (w : World) (V : Hid (∀ W, Below w.heap.size w W → Calls Tryz.prog 26 #[.slice a n c] W fun e w' => e = .returned (.int .i64 vc) ∧ Below W.heap.size W w')) (z : (vc != 0) = true) : Calls Tryz.prog 37 #[.slice a n c, .bool s] w fun e w' => e = .returned (.tuple #[.slice none 0 0, .int .i64 vc]) ∧ Below w.heap.size w w' := by
  go_enter Tryz.func37, Tryz.ntmps37
  go_wp2_with fail
  refine (V.out _ (Below.refl _ w)).mono ?_
  rintro e w1 ⟨rfl, hb1⟩
  go_wp2
  go_ret2
  exact ⟨rfl, by (repeat' (first | exact Below.refl _ _ | refine bstep ?_ hb1 | refine Below.setCell ?_ (by simp <;> omega) _ | refine balloc ?_ _ | refine Below.drew ?_ | refine bdrewN ?_ _))⟩
theorem ims_b (a : Option Addr) (n c : Nat) (s : Bool) (w : World) (V : Hid (∀ W, Below w.heap.size w W → Calls Tryz.prog 26 #[.slice a n c] W fun e w' => e = .returned (.int .i64 0) ∧ Below W.heap.size W w')) (CT : Hid (∀ W, Below w.heap.size w W → Calls Tryz.prog 73 #[.slice a n c, .func (.func 74) #[] #[]] W fun e w' => e = .returned (.bool true) ∧ Below W.heap.size W w')) : Calls Tryz.prog 37 #[.slice a n c, .bool s] w fun e w' => e = .returned (.tuple #[.slice none 0 0, .int .i64 1]) ∧ Below w.heap.size w w' := by
  go_enter Tryz.func37, Tryz.ntmps37
  go_wp2_with fail
  refine (V.out _ (Below.refl _ w)).mono ?_
  rintro e w1 ⟨rfl, hb1⟩
  go_wp2_with fail
  refine (CT.out _ hb1).mono ?_
  rintro e w2 ⟨rfl, hb2⟩
  have hb12 : Below w.heap.size w w2 := bstep hb1 hb2
  go_wp2
  go_ret2
  exact ⟨rfl, by (repeat' (first | exact Below.refl _ _ | refine bstep ?_ hb12 | refine Below.setCell ?_ (by simp <;> omega) _ | refine balloc ?_ _ | refine Below.drew ?_ | refine bdrewN ?_ _))⟩
theorem ims_l (a : Option Addr) (n c : Nat) (s : Bool) (w : World) (V : Hid (∀ W, Below w.heap.size w W → Calls Tryz.prog 26 #[.slice a n c] W fun e w' => e = .returned (.int .i64 0) ∧ Below W.heap.size W w')) (CT : Hid (∀ W, Below w.heap.size w W → Calls Tryz.prog 73 #[.slice a n c, .func (.func 74) #[] #[]] W fun e w' => e = .returned (.bool false) ∧ Below W.heap.size W w')) (h8 : 8 < n) (hn : n ≤ 16) : Calls Tryz.prog 37 #[.slice a n c, .bool s] w fun e w' => e = .returned (.tuple #[.slice none 0 0, .int .i64 4]) ∧ Below w.heap.size w w' := by
  have h1 : (8 : Int) < n := by omega
  have h2 : (n : Int) ≤ 16 := by omega
  go_enter Tryz.func37, Tryz.ntmps37
  go_wp2_with fail
  refine (V.out _ (Below.refl _ w)).mono ?_
  rintro e w1 ⟨rfl, hb1⟩
  go_wp2_with fail
  refine (CT.out _ hb1).mono ?_
  rintro e w2 ⟨rfl, hb2⟩
  have hb12 : Below w.heap.size w w2 := bstep hb1 hb2
  go_wp2
  go_ret2
  exact ⟨rfl, by (repeat' (first | exact Below.refl _ _ | refine bstep ?_ hb12 | refine Below.setCell ?_ (by simp <;> omega) _ | refine balloc ?_ _ | refine Below.drew ?_ | refine bdrewN ?_ _))⟩
set_option maxRecDepth 100000 in
set_option maxHeartbeats 2000000 in
theorem ims_z (a : Option Addr) (c : Nat) (s : Bool) (w : World) (V : Hid (∀ W, Below w.heap.size w W → Calls Tryz.prog 26 #[.slice a 0 c] W fun e w' => e = .returned (.int .i64 0) ∧ Below W.heap.size W w')) (CT : Hid (∀ W, Below w.heap.size w W → Calls Tryz.prog 73 #[.slice a 0 c, .func (.func 74) #[] #[]] W fun e w' => e = .returned (.bool false) ∧ Below W.heap.size W w')) (C : Hid (∀ W : World, Below w.heap.size w W → Calls Tryz.prog 75 #[.slice a 0 c] W fun e w' => ∃ v, e = .returned v ∧ w'.ownsRow W.heap.size 46 11 v 0 [] ∧ Below W.heap.size W w')) : Calls Tryz.prog 37 #[.slice a 0 c, .bool s] w fun e w' => ∃ v, e = .returned (.tuple #[v, .int .i64 0]) ∧ w'.ownsRow w.heap.size 46 11 v 0 [] ∧ Below w.heap.size w w' := by
  go_enter Tryz.func37, Tryz.ntmps37
  go_wp2_with fail
  refine (V.out _ (Below.refl _ w)).mono ?_
  rintro e w1 ⟨rfl, hb1⟩
  go_wp2_with fail
  refine (CT.out _ hb1).mono ?_
  rintro e w2 ⟨rfl, hb2⟩
  have hb12 : Below w.heap.size w w2 := bstep hb1 hb2
  go_wp2_with fail
  refine (C.out _ hb12).mono ?_
  rintro e w3 ⟨v, rfl, ho, hb3⟩
  have OW := Lib.hid (own_base9 ho (show w.heap.size ≤ w2.heap.size from hb12.size))
  clear ho
  go_wp2
  refine wp_loop_rounds 1 ?_
  rw [rounds_succ]
  go_wp2
  go_ret2
  exact ⟨_, rfl, OW.out, by (repeat' (first | exact Below.refl _ _ | refine bstep ?_ hb3 | refine bstep ?_ hb12 | refine Below.setCell ?_ (by simp <;> omega) _ | refine balloc ?_ _ | refine Below.drew ?_ | refine bdrewN ?_ _))⟩
set_option maxRecDepth 100000 in
set_option maxHeartbeats 2000000 in
theorem ims_r (b off n c : Nat) (s : Bool) (Q : Nat → Pu) (w : World) (V : Hid (∀ W, Below w.heap.size w W → Calls Tryz.prog 26 #[.slice (some ⟨b, off, none⟩) n c] W fun e w' => e = .returned (.int .i64 0) ∧ Below W.heap.size W w')) (CT : Hid (∀ W, Below w.heap.size w W → Calls Tryz.prog 73 #[.slice (some ⟨b, off, none⟩) n c, .func (.func 74) #[] #[]] W fun e w' => e = .returned (.bool false) ∧ Below W.heap.size W w')) (C : Hid (∀ W : World, Below w.heap.size w W → Calls Tryz.prog 75 #[.slice (some ⟨b, off, none⟩) n c] W fun e w' => ∃ v, e = .returned v ∧ w'.ownsRow W.heap.size 46 11 v n (pucs Q n) ∧ Below W.heap.size W w')) (r : RowU w b off n Q) (hn : n ≤ 8) (hq : ∀ k, k < n → (-4611686018427387904 ≤ (Q k).1.1.2.2 ∧ (Q k).1.1.2.2 ≤ 4611686018427387904) ∧ (-4611686018427387904 ≤ (Q k).1.2.1.2.2 ∧ (Q k).1.2.1.2.2 ≤ 4611686018427387904) ∧ (-4611686018427387904 ≤ (Q k).1.2.2.2.2 ∧ (Q k).1.2.2.2.2 ≤ 4611686018427387904) ∧ -4611686018427387904 ≤ (Q k).2.2 ∧ (Q k).2.2 ≤ 4611686018427387904) : Calls Tryz.prog 37 #[.slice (some ⟨b, off, none⟩) n c, .bool s] w fun e w' => ∃ v, e = .returned (.tuple #[v, .int .i64 0]) ∧ w'.ownsRow w.heap.size 46 11 v (n + n) (pucs (bth s Q n) (n + n)) ∧ Below w.heap.size w w' := by
  obtain ⟨i0, hi, hz0, hz1, hz2⟩ := info_parts infoPu8
  have HI := Lib.hid hi
  have HZ0 := Lib.hid hz0
  have HZ1 := Lib.hid hz1
  have HZ2 := Lib.hid hz2
  have HQ := Lib.hid hq
  have R := Lib.hid r
  have hbl := r.1
  have hn' : (n : Int) ≤ 8 := by omega
  clear hq hi hz0 hz1 hz2 r
  go_enter Tryz.func37, Tryz.ntmps37
  go_wp2_with fail
  refine (V.out _ (Below.refl _ w)).mono ?_
  rintro e w1 ⟨rfl, hb1⟩
  go_wp2_with fail
  refine (CT.out _ hb1).mono ?_
  rintro e w2 ⟨rfl, hb2⟩
  have hb12 : Below w.heap.size w w2 := bstep hb1 hb2
  go_wp2_with fail
  refine (C.out _ hb12).mono ?_
  rintro e w3 ⟨v, rfl, ho, hb3⟩
  have OW := Lib.hid (show w3.ownsRow w.heap.size 46 11 v (n + 0) (pucs (bth s Q n) (n + 0)) by rw [Nat.add_zero, bth_zero]; exact own_base9 ho hb12.size)
  have BB := Lib.hid (show Below w.heap.size w w3 by (repeat' (first | exact Below.refl _ _ | refine bstep ?_ hb3 | refine bstep ?_ hb12 | refine Below.setCell ?_ (by simp <;> omega) _ | refine balloc ?_ _ | refine Below.drew ?_ | refine bdrewN ?_ _)))
  clear ho hb1 hb2 hb12 hb3
  go_wp2
  go_loopw [7, 25] (fun sv kv wr => ∃ k : Nat, k ≤ n ∧ kv = .int .i64 k ∧ wr.ownsRow w.heap.size 46 11 sv (n + k) (pucs (bth s Q n) (n + k)) ∧ Below w.heap.size w wr) (fun _ kv _ => n - (intOf kv).toNat)
  case atStart => exact ⟨0, Nat.zero_le _, rfl, OW.out, BB.out⟩
  case round =>
    clear OW BB
    obtain ⟨k, hk, rfl, how, hbb⟩ := hrel
    have OW := Lib.hid how
    have BB := Lib.hid hbb
    clear how hbb
    by_cases hlt : k < n
    · have hk1 : (k : Int) < (n : Int) := by omega
      have r2 := rowU_in R.out BB.out hbl
      obtain ⟨c0, c1, c2, c3, c4, c5, c6, c7, c8, c9, c10⟩ := r2.2 k hlt
      have r5 := r2.1
      clear r2
      obtain ⟨z0, z1, z2, q1, q2⟩ := HQ.out k hlt
      have GS := Lib.hid (bth_next s Q n k)
      have szw := BB.out.size
      generalize Q k = q at *
      have IMG : ∀ W, Calls Tryz.prog 76 #[puv q, .bool s] W fun e w' => e = .returned (puv (img s q)) ∧ Below W.heap.size W w' := fun W => image_any q s W (Lib.hid z0) (Lib.hid z1) (Lib.hid z2) q1 q2
      generalize img s q = q' at *
      have IM := Lib.hid IMG
      clear IMG z0 z1 z2 q1 q2
      go_wp2_with fail
      refine (IM.out _).mono ?_
      rintro e w4 ⟨rfl, hb4⟩
      have O4 := Lib.hid (own_below9 (World.ownsRow.alloc OW.out _) hb4)
      have B4 := Lib.hid (show Below w.heap.size wr w4 from ((Below.refl w.heap.size wr).alloc szw _).trans (hb4.mono (by simp; omega)))
      have sz4 : wr.heap.size ≤ w4.heap.size := B4.out.size
      clear hb4 c0 c1 c2 c3 c4 c5 c6 c7 c8 c9 c10
      go_wp2_with (at_builtin; go_loud (refine wpList_append_own _ rfl _ _ 22 rfl w.heap.size 46 i0 (.agg #[.int .i64 0, .int .i64 0, .int .i64 0, .int .i64 0, .int .i64 0, .int .i64 0, .int .i64 0, .int .i64 0, .int .i64 0, .int .i64 0, .int .i64 0]) 11 88 Tryz.underlying22 HI.out HZ0.out HZ1.out HZ2.out rfl (by decide) _ (n + k) (pucs (bth s Q n) (n + k)) rfl (World.ownsRow.alloc O4.out _) ⟨_, 0, none⟩ 1 1 (pucl q') rfl rfl (pu_new8' _ _ _ _ (by simp)) (pucl_one _) (by unfold maxLen; omega) (by omega) (by simp; omega) ?_); intro v' w1 hown' hgrow _; have O2 := Lib.hid hown'; have GR := Lib.hid hgrow; clear hown' hgrow)
      have BG := Lib.hid (BB.out.trans ((B4.out.alloc (by omega) _).grown GR.out (by simp; omega) (fun gg hg => (OW.out.lt gg hg).1)))
      go_roundw
      case rel => exact ⟨k + 1, by omega, by go_num, by rw [show n + (k + 1) = n + k + 1 by omega, GS.out]; exact O2.out, BG.out⟩
      case measure => simp [intOf]; omega
    · obtain rfl : k = n := by omega
      go_wp2
      go_ret2
      exact ⟨_, rfl, OW.out, BB.out⟩

end Go.Proofs.YtemchbdlckcmkaaGreat
namespace Go.Proofs.YtemchbdlckcmkaaGreat
open Go.ChangeShapes Go.WideShapes Go.RowKit
open Sh
def rmOps : Array Oper := #[{ dst := some 61, op := Op.fieldAddr 46 (Operand.tmp 11) 0, type := 0, pos := "ref.go:311", after := #[], guard := none }, { dst := some 62, op := Op.fieldAddr 44 (Operand.tmp 61) 0, type := 0, pos := "ref.go:311", after := #[{ on := 0, ground := Ground.data }], guard := none }, { dst := some 63, op := Op.load 24 (Operand.tmp 62), type := 24, pos := "ref.go:311", after := #[{ on := 1, ground := Ground.data }], guard := none }, { dst := some 64, op := Op.call { callee := Callee.value (Operand.func 77), args := #[Operand.tmp 63], argTypes := #[24] }, type := 24, pos := "ref.go:311", after := #[{ on := 2, ground := Ground.data }], guard := none }, { dst := some 65, op := Op.fieldAddr 46 (Operand.tmp 11) 0, type := 0, pos := "ref.go:311", after := #[], guard := none }, { dst := some 66, op := Op.fieldAddr 44 (Operand.tmp 65) 1, type := 0, pos := "ref.go:311", after := #[{ on := 4, ground := Ground.data }], guard := none }, { dst := some 67, op := Op.load 24 (Operand.tmp 66), type := 24, pos := "ref.go:311", after := #[{ on := 5, ground := Ground.data }], guard := none }, { dst := some 68, op := Op.call { callee := Callee.value (Operand.func 77), args := #[Operand.tmp 67], argTypes := #[24] }, type := 24, pos := "ref.go:311", after := #[{ on := 6, ground := Ground.data }, { on := 3, ground := Ground.chain }], guard := none }, { dst := some 69, op := Op.fieldAddr 46 (Operand.tmp 11) 0, type := 0, pos := "ref.go:311", after := #[], guard := none }, { dst := some 70, op := Op.fieldAddr 44 (Operand.tmp 69) 2, type := 0, pos := "ref.go:311", after := #[{ on := 8, ground := Ground.data }], guard := none }, { dst := some 71, op := Op.load 24 (Operand.tmp 70), type := 24, pos := "ref.go:311", after := #[{ on := 9, ground := Ground.data }], guard := none }, { dst := some 72, op := Op.call { callee := Callee.value (Operand.func 77), args := #[Operand.tmp 71], argTypes := #[24] }, type := 24, pos := "ref.go:311", after := #[{ on := 10, ground := Ground.data }, { on := 7, ground := Ground.chain }], guard := none }, { dst := some 73, op := Op.build 44 #[(0, Operand.tmp 64), (1, Operand.tmp 68), (2, Operand.tmp 72)], type := 44, pos := "ref.go:311", after := #[{ on := 3, ground := Ground.data }, { on := 7, ground := Ground.data }, { on := 11, ground := Ground.data }], guard := none }, { dst := some 74, op := Op.fieldAddr 46 (Operand.tmp 11) 0, type := 0, pos := "ref.go:311", after := #[{ on := 0, ground := Ground.phase }, { on := 1, ground := Ground.phase }, { on := 2, ground := Ground.phase }, { on := 3, ground := Ground.phase }, { on := 4, ground := Ground.phase }, { on := 5, ground := Ground.phase }, { on := 6, ground := Ground.phase }, { on := 7, ground := Ground.phase }, { on := 8, ground := Ground.phase }, { on := 9, ground := Ground.phase }, { on := 10, ground := Ground.phase }, { on := 11, ground := Ground.phase }, { on := 12, ground := Ground.phase }], guard := none }, { dst := none, op := Op.store 44 (Operand.tmp 74) (Operand.tmp 73), type := 0, pos := "ref.go:311", after := #[{ on := 13, ground := Ground.data }, { on := 12, ground := Ground.data }, { on := 11, ground := Ground.chain }, { on := 0, ground := Ground.phase }, { on := 1, ground := Ground.phase }, { on := 2, ground := Ground.phase }, { on := 3, ground := Ground.phase }, { on := 4, ground := Ground.phase }, { on := 5, ground := Ground.phase }, { on := 6, ground := Ground.phase }, { on := 7, ground := Ground.phase }, { on := 8, ground := Ground.phase }, { on := 9, ground := Ground.phase }, { on := 10, ground := Ground.phase }, { on := 11, ground := Ground.phase }, { on := 12, ground := Ground.phase }], guard := none }]
def rmT (B : Nat) (y0 y1 y2 y3 y4 y5 y6 y7 y8 y9 y10 y12 y13 y14 y15 y16 y17 y18 y19 y20 y21 y22 y23 y24 y25 y26 y27 y28 y29 y30 y31 y32 y33 y34 y35 y36 y37 y38 y39 y40 y41 y42 y43 y44 y45 y46 y47 y48 y49 y50 y51 y52 y53 y54 y55 y56 y57 y58 y59 y60 y75 y76 y77 y78 y79 y80 y81 y82 y83 y84 : Value) (X : Nat → Value) : Array Value := #[y0, y1, y2, y3, y4, y5, y6, y7, y8, y9, y10, .pointer (some ⟨B, 0, none⟩), y12, y13, y14, y15, y16, y17, y18, y19, y20, y21, y22, y23, y24, y25, y26, y27, y28, y29, y30, y31, y32, y33, y34, y35, y36, y37, y38, y39, y40, y41, y42, y43, y44, y45, y46, y47, y48, y49, y50, y51, y52, y53, y54, y55, y56, y57, y58, y59, y60, X 61, X 62, X 63, X 64, X 65, X 66, X 67, X 68, X 69, X 70, X 71, X 72, X 73, X 74, y75, y76, y77, y78, y79, y80, y81, y82, y83, y84]
def rmI (G : World → Prop) (N : Nat) (p : Pu) (B : Nat) (y0 y1 y2 y3 y4 y5 y6 y7 y8 y9 y10 y12 y13 y14 y15 y16 y17 y18 y19 y20 y21 y22 y23 y24 y25 y26 y27 y28 y29 y30 y31 y32 y33 y34 y35 y36 y37 y38 y39 y40 y41 y42 y43 y44 y45 y46 y47 y48 y49 y50 y51 y52 y53 y54 y55 y56 y57 y58 y59 y60 y75 y76 y77 y78 y79 y80 y81 y82 y83 y84 : Value) (l : Array Bool) (A : Act) (W : World) : Prop :=
  l.size = 15 ∧ ∃ X : Nat → Value, A = { tmps := rmT B y0 y1 y2 y3 y4 y5 y6 y7 y8 y9 y10 y12 y13 y14 y15 y16 y17 y18 y19 y20 y21 y22 y23 y24 y25 y26 y27 y28 y29 y30 y31 y32 y33 y34 y35 y36 y37 y38 y39 y40 y41 y42 y43 y44 y45 y46 y47 y48 y49 y50 y51 y52 y53 y54 y55 y56 y57 y58 y59 y60 y75 y76 y77 y78 y79 y80 y81 y82 y83 y84 X, defers := [] } ∧ N ≤ W.heap.size ∧ G W ∧ MG l W B p ∧ PV l 0 (X 61) (.pointer (some ⟨B, 0, none⟩)) ∧ PV l 1 (X 62) (.pointer (some ⟨B, 0, none⟩)) ∧ PV l 2 (X 63) (ptv p.1.1) ∧ PV l 3 (X 64) (ptv (mir p.1.1)) ∧ PV l 4 (X 65) (.pointer (some ⟨B, 0, none⟩)) ∧ PV l 5 (X 66) (.pointer (some ⟨B, 3, none⟩)) ∧ PV l 6 (X 67) (ptv p.1.2.1) ∧ PV l 7 (X 68) (ptv (mir p.1.2.1)) ∧ PV l 8 (X 69) (.pointer (some ⟨B, 0, none⟩)) ∧ PV l 9 (X 70) (.pointer (some ⟨B, 6, none⟩)) ∧ PV l 10 (X 71) (ptv p.1.2.2) ∧ PV l 11 (X 72) (ptv (mir p.1.2.2)) ∧ PV l 12 (X 73) (pnv (mir p.1.1) (mir p.1.2.1) (mir p.1.2.2)) ∧ PV l 13 (X 74) (.pointer (some ⟨B, 0, none⟩)) ∧ Cl l 3 2 ∧ Cl l 7 6 ∧ Cl l 11 10 ∧ Cl l 12 3 ∧ Cl l 12 7 ∧ Cl l 12 11 ∧ Cl l 14 12
set_option maxRecDepth 100000 in
set_option maxHeartbeats 4000000 in
theorem rm_steps (G : World → Prop) (N : Nat) (p : Pu) (B : Nat) (y0 y1 y2 y3 y4 y5 y6 y7 y8 y9 y10 y12 y13 y14 y15 y16 y17 y18 y19 y20 y21 y22 y23 y24 y25 y26 y27 y28 y29 y30 y31 y32 y33 y34 y35 y36 y37 y38 y39 y40 y41 y42 y43 y44 y45 y46 y47 y48 y49 y50 y51 y52 y53 y54 y55 y56 y57 y58 y59 y60 y75 y76 y77 y78 y79 y80 y81 y82 y83 y84 : Value) (Q : Exit → Act → World → Prop) (Z0 : Hid (-4611686018427387904 ≤ p.1.1.2.2 ∧ p.1.1.2.2 ≤ 4611686018427387904)) (Z1 : Hid (-4611686018427387904 ≤ p.1.2.1.2.2 ∧ p.1.2.1.2.2 ≤ 4611686018427387904)) (Z2 : Hid (-4611686018427387904 ≤ p.1.2.2.2.2 ∧ p.1.2.2.2.2 ≤ 4611686018427387904)) (HB : Hid (B < N)) (GI : Hid (∀ W W' : World, Below N W W' → G W → G W')) (GS : Hid (∀ W : World, G W → G (((((((((W.setCell ⟨B, 0, none⟩ (.int .i64 (mir9 p.1).1.1)).setCell ⟨B, 1, none⟩ (.int .i64 (mir9 p.1).1.2.1)).setCell ⟨B, 2, none⟩ (.int .i64 (mir9 p.1).1.2.2)).setCell ⟨B, 3, none⟩ (.int .i64 (mir9 p.1).2.1.1)).setCell ⟨B, 4, none⟩ (.int .i64 (mir9 p.1).2.1.2.1)).setCell ⟨B, 5, none⟩ (.int .i64 (mir9 p.1).2.1.2.2)).setCell ⟨B, 6, none⟩ (.int .i64 (mir9 p.1).2.2.1)).setCell ⟨B, 7, none⟩ (.int .i64 (mir9 p.1).2.2.2.1)).setCell ⟨B, 8, none⟩ (.int .i64 (mir9 p.1).2.2.2.2)))) :
    allOps (fun i o => ∀ (l : Array Bool) (A : Act) (W : World), rmI G N p B y0 y1 y2 y3 y4 y5 y6 y7 y8 y9 y10 y12 y13 y14 y15 y16 y17 y18 y19 y20 y21 y22 y23 y24 y25 y26 y27 y28 y29 y30 y31 y32 y33 y34 y35 y36 y37 y38 y39 y40 y41 y42 y43 y44 y45 y46 y47 y48 y49 y50 y51 y52 y53 y54 y55 y56 y57 y58 y59 y60 y75 y76 y77 y78 y79 y80 y81 y82 y83 y84 l A W → l.getD i true = false → (∀ e ∈ o.after, Region.binds .any e = true → l.getD e.on false = true) → ∀ K' : Act → World → Prop, (∀ a w, rmI G N p B y0 y1 y2 y3 y4 y5 y6 y7 y8 y9 y10 y12 y13 y14 y15 y16 y17 y18 y19 y20 y21 y22 y23 y24 y25 y26 y27 y28 y29 y30 y31 y32 y33 y34 y35 y36 y37 y38 y39 y40 y41 y42 y43 y44 y45 y46 y47 y48 y49 y50 y51 y52 y53 y54 y55 y56 y57 y58 y59 y60 y75 y76 y77 y78 y79 y80 y81 y82 y83 y84 (l.setIfInBounds i true) a w → K' a w) → if Region.wanted o (yielded rmOps A.tmps) = true then Oper.wp Tryz.prog o A W K' Q else K' (A.put o.dst undef) W) 0 rmOps.toList := by
  simp only [rmOps, allOps]
  refine ⟨?_, ?_, ?_, ?_, ?_, ?_, ?_, ?_, ?_, ?_, ?_, ?_, ?_, ?_, ?_, trivial⟩
  · rintro l A W ⟨hl, X, rfl, hN, bw, g, p0, p1, p2, p3, p4, p5, p6, p7, p8, p9, p10, p11, p12, p13, k0, k1, k2, k3, k4, k5, k6⟩ h1 hp K hK
    have hT : ∀ X : Nat → Value, rmT B y0 y1 y2 y3 y4 y5 y6 y7 y8 y9 y10 y12 y13 y14 y15 y16 y17 y18 y19 y20 y21 y22 y23 y24 y25 y26 y27 y28 y29 y30 y31 y32 y33 y34 y35 y36 y37 y38 y39 y40 y41 y42 y43 y44 y45 y46 y47 y48 y49 y50 y51 y52 y53 y54 y55 y56 y57 y58 y59 y60 y75 y76 y77 y78 y79 y80 y81 y82 y83 y84 X = #[y0, y1, y2, y3, y4, y5, y6, y7, y8, y9, y10, .pointer (some ⟨B, 0, none⟩), y12, y13, y14, y15, y16, y17, y18, y19, y20, y21, y22, y23, y24, y25, y26, y27, y28, y29, y30, y31, y32, y33, y34, y35, y36, y37, y38, y39, y40, y41, y42, y43, y44, y45, y46, y47, y48, y49, y50, y51, y52, y53, y54, y55, y56, y57, y58, y59, y60, X 61, X 62, X 63, X 64, X 65, X 66, X 67, X 68, X 69, X 70, X 71, X 72, X 73, X 74, y75, y76, y77, y78, y79, y80, y81, y82, y83, y84] := fun _ => rfl
    rw [hT]
    have p0' := Lib.hid p0
    have p1' := Lib.hid p1
    have p2' := Lib.hid p2
    have p3' := Lib.hid p3
    have p4' := Lib.hid p4
    have p5' := Lib.hid p5
    have p6' := Lib.hid p6
    have p7' := Lib.hid p7
    have p8' := Lib.hid p8
    have p9' := Lib.hid p9
    have p10' := Lib.hid p10
    have p11' := Lib.hid p11
    have p12' := Lib.hid p12
    have p13' := Lib.hid p13
    have k0' := Lib.hid k0
    have k1' := Lib.hid k1
    have k2' := Lib.hid k2
    have k3' := Lib.hid k3
    have k4' := Lib.hid k4
    have k5' := Lib.hid k5
    have k6' := Lib.hid k6
    have g' := Lib.hid g
    have bw' := Lib.hid bw
    clear k6 k5 k4 k3 k2 k1 k0 p13 p12 p11 p10 p9 p8 p7 p6 p5 p4 p3 p2 p1 p0 g bw
    have hN' := Lib.hid hN; clear hN; have hl' := Lib.hid hl; clear hl; have h1' := Lib.hid h1; clear h1; have hp' := Lib.hid hp; clear hp; have hK' := Lib.hid hK; clear hK
    go_simp
    have hK := hK'.out; have hN := hN'.out; have hl := hl'.out; have h1 := h1'.out; have hp := hp'.out
    have p0 := p0'.out
    have p1 := p1'.out
    have p2 := p2'.out
    have p3 := p3'.out
    have p4 := p4'.out
    have p5 := p5'.out
    have p6 := p6'.out
    have p7 := p7'.out
    have p8 := p8'.out
    have p9 := p9'.out
    have p10 := p10'.out
    have p11 := p11'.out
    have p12 := p12'.out
    have p13 := p13'.out
    have k0 := k0'.out
    have k1 := k1'.out
    have k2 := k2'.out
    have k3 := k3'.out
    have k4 := k4'.out
    have k5 := k5'.out
    have k6 := k6'.out
    have g := g'.out
    have bw := bw'.out
    refine hK _ _ ⟨by simpa using hl, (upd X 61 (.pointer (some ⟨B, 0, none⟩))), rfl, hN, bw, g.keep (by decide) (fun _ h => h), PV.made rfl, p1.keep (by decide), p2.keep (by decide), p3.keep (by decide), p4.keep (by decide), p5.keep (by decide), p6.keep (by decide), p7.keep (by decide), p8.keep (by decide), p9.keep (by decide), p10.keep (by decide), p11.keep (by decide), p12.keep (by decide), p13.keep (by decide), k0.keep (by decide), k1.keep (by decide), k2.keep (by decide), k3.keep (by decide), k4.keep (by decide), k5.keep (by decide), k6.keep (by decide)⟩
  · rintro l A W ⟨hl, X, rfl, hN, bw, g, p0, p1, p2, p3, p4, p5, p6, p7, p8, p9, p10, p11, p12, p13, k0, k1, k2, k3, k4, k5, k6⟩ h1 hp K hK
    have e0 := p0 (hp ⟨0, .data⟩ (by simp) rfl)
    have hT : ∀ X : Nat → Value, rmT B y0 y1 y2 y3 y4 y5 y6 y7 y8 y9 y10 y12 y13 y14 y15 y16 y17 y18 y19 y20 y21 y22 y23 y24 y25 y26 y27 y28 y29 y30 y31 y32 y33 y34 y35 y36 y37 y38 y39 y40 y41 y42 y43 y44 y45 y46 y47 y48 y49 y50 y51 y52 y53 y54 y55 y56 y57 y58 y59 y60 y75 y76 y77 y78 y79 y80 y81 y82 y83 y84 X = #[y0, y1, y2, y3, y4, y5, y6, y7, y8, y9, y10, .pointer (some ⟨B, 0, none⟩), y12, y13, y14, y15, y16, y17, y18, y19, y20, y21, y22, y23, y24, y25, y26, y27, y28, y29, y30, y31, y32, y33, y34, y35, y36, y37, y38, y39, y40, y41, y42, y43, y44, y45, y46, y47, y48, y49, y50, y51, y52, y53, y54, y55, y56, y57, y58, y59, y60, X 61, X 62, X 63, X 64, X 65, X 66, X 67, X 68, X 69, X 70, X 71, X 72, X 73, X 74, y75, y76, y77, y78, y79, y80, y81, y82, y83, y84] := fun _ => rfl
    rw [hT]
    have p0' := Lib.hid p0
    have p1' := Lib.hid p1
    have p2' := Lib.hid p2
    have p3' := Lib.hid p3
    have p4' := Lib.hid p4
    have p5' := Lib.hid p5
    have p6' := Lib.hid p6
    have p7' := Lib.hid p7
    have p8' := Lib.hid p8
    have p9' := Lib.hid p9
    have p10' := Lib.hid p10
    have p11' := Lib.hid p11
    have p12' := Lib.hid p12
    have p13' := Lib.hid p13
    have k0' := Lib.hid k0
    have k1' := Lib.hid k1
    have k2' := Lib.hid k2
    have k3' := Lib.hid k3
    have k4' := Lib.hid k4
    have k5' := Lib.hid k5
    have k6' := Lib.hid k6
    have g' := Lib.hid g
    have bw' := Lib.hid bw
    clear k6 k5 k4 k3 k2 k1 k0 p13 p12 p11 p10 p9 p8 p7 p6 p5 p4 p3 p2 p1 p0 g bw
    have hN' := Lib.hid hN; clear hN; have hl' := Lib.hid hl; clear hl; have h1' := Lib.hid h1; clear h1; have hp' := Lib.hid hp; clear hp; have hK' := Lib.hid hK; clear hK
    go_simp
    have hK := hK'.out; have hN := hN'.out; have hl := hl'.out; have h1 := h1'.out; have hp := hp'.out
    have p0 := p0'.out
    have p1 := p1'.out
    have p2 := p2'.out
    have p3 := p3'.out
    have p4 := p4'.out
    have p5 := p5'.out
    have p6 := p6'.out
    have p7 := p7'.out
    have p8 := p8'.out
    have p9 := p9'.out
    have p10 := p10'.out
    have p11 := p11'.out
    have p12 := p12'.out
    have p13 := p13'.out
    have k0 := k0'.out
    have k1 := k1'.out
    have k2 := k2'.out
    have k3 := k3'.out
    have k4 := k4'.out
    have k5 := k5'.out
    have k6 := k6'.out
    have g := g'.out
    have bw := bw'.out
    refine hK _ _ ⟨by simpa using hl, (upd (upd X 61 (.pointer (some ⟨B, 0, none⟩))) 62 (.pointer (some ⟨B, 0, none⟩))), rfl, hN, bw, g.keep (by decide) (fun _ h => h), PV.made rfl, PV.made rfl, p2.keep (by decide), p3.keep (by decide), p4.keep (by decide), p5.keep (by decide), p6.keep (by decide), p7.keep (by decide), p8.keep (by decide), p9.keep (by decide), p10.keep (by decide), p11.keep (by decide), p12.keep (by decide), p13.keep (by decide), k0.keep (by decide), k1.keep (by decide), k2.keep (by decide), k3.keep (by decide), k4.keep (by decide), k5.keep (by decide), k6.keep (by decide)⟩
  · rintro l A W ⟨hl, X, rfl, hN, bw, g, p0, p1, p2, p3, p4, p5, p6, p7, p8, p9, p10, p11, p12, p13, k0, k1, k2, k3, k4, k5, k6⟩ h1 hp K hK
    have e1 := p1 (hp ⟨1, .data⟩ (by simp) rfl)
    obtain ⟨⟨⟨d0, d1, d2, d3, d4, d5, d6, d7, d8, d9, d10⟩, ol⟩, _⟩ := g.there (fun z => getD_flip h1 (k0 (k3 (k6 z))))
    have hT : ∀ X : Nat → Value, rmT B y0 y1 y2 y3 y4 y5 y6 y7 y8 y9 y10 y12 y13 y14 y15 y16 y17 y18 y19 y20 y21 y22 y23 y24 y25 y26 y27 y28 y29 y30 y31 y32 y33 y34 y35 y36 y37 y38 y39 y40 y41 y42 y43 y44 y45 y46 y47 y48 y49 y50 y51 y52 y53 y54 y55 y56 y57 y58 y59 y60 y75 y76 y77 y78 y79 y80 y81 y82 y83 y84 X = #[y0, y1, y2, y3, y4, y5, y6, y7, y8, y9, y10, .pointer (some ⟨B, 0, none⟩), y12, y13, y14, y15, y16, y17, y18, y19, y20, y21, y22, y23, y24, y25, y26, y27, y28, y29, y30, y31, y32, y33, y34, y35, y36, y37, y38, y39, y40, y41, y42, y43, y44, y45, y46, y47, y48, y49, y50, y51, y52, y53, y54, y55, y56, y57, y58, y59, y60, X 61, X 62, X 63, X 64, X 65, X 66, X 67, X 68, X 69, X 70, X 71, X 72, X 73, X 74, y75, y76, y77, y78, y79, y80, y81, y82, y83, y84] := fun _ => rfl
    rw [hT]
    have p0' := Lib.hid p0
    have p1' := Lib.hid p1
    have p2' := Lib.hid p2
    have p3' := Lib.hid p3
    have p4' := Lib.hid p4
    have p5' := Lib.hid p5
    have p6' := Lib.hid p6
    have p7' := Lib.hid p7
    have p8' := Lib.hid p8
    have p9' := Lib.hid p9
    have p10' := Lib.hid p10
    have p11' := Lib.hid p11
    have p12' := Lib.hid p12
    have p13' := Lib.hid p13
    have k0' := Lib.hid k0
    have k1' := Lib.hid k1
    have k2' := Lib.hid k2
    have k3' := Lib.hid k3
    have k4' := Lib.hid k4
    have k5' := Lib.hid k5
    have k6' := Lib.hid k6
    have g' := Lib.hid g
    have bw' := Lib.hid bw
    clear k6 k5 k4 k3 k2 k1 k0 p13 p12 p11 p10 p9 p8 p7 p6 p5 p4 p3 p2 p1 p0 g bw
    have hN' := Lib.hid hN; clear hN; have hl' := Lib.hid hl; clear hl; have h1' := Lib.hid h1; clear h1; have hp' := Lib.hid hp; clear hp; have hK' := Lib.hid hK; clear hK
    go_simp
    have hK := hK'.out; have hN := hN'.out; have hl := hl'.out; have h1 := h1'.out; have hp := hp'.out
    have p0 := p0'.out
    have p1 := p1'.out
    have p2 := p2'.out
    have p3 := p3'.out
    have p4 := p4'.out
    have p5 := p5'.out
    have p6 := p6'.out
    have p7 := p7'.out
    have p8 := p8'.out
    have p9 := p9'.out
    have p10 := p10'.out
    have p11 := p11'.out
    have p12 := p12'.out
    have p13 := p13'.out
    have k0 := k0'.out
    have k1 := k1'.out
    have k2 := k2'.out
    have k3 := k3'.out
    have k4 := k4'.out
    have k5 := k5'.out
    have k6 := k6'.out
    have g := g'.out
    have bw := bw'.out
    refine hK _ _ ⟨by simpa using hl, (upd (upd X 62 (.pointer (some ⟨B, 0, none⟩))) 63 (ptv p.1.1)), rfl, hN, bw, g.keep (by decide) (fun _ h => h), p0.keep (by decide), PV.made rfl, PV.made rfl, p3.keep (by decide), p4.keep (by decide), p5.keep (by decide), p6.keep (by decide), p7.keep (by decide), p8.keep (by decide), p9.keep (by decide), p10.keep (by decide), p11.keep (by decide), p12.keep (by decide), p13.keep (by decide), k0.keep (by decide), k1.keep (by decide), k2.keep (by decide), k3.keep (by decide), k4.keep (by decide), k5.keep (by decide), k6.keep (by decide)⟩
  · rintro l A W ⟨hl, X, rfl, hN, bw, g, p0, p1, p2, p3, p4, p5, p6, p7, p8, p9, p10, p11, p12, p13, k0, k1, k2, k3, k4, k5, k6⟩ h1 hp K hK
    have e2 := p2 (hp ⟨2, .data⟩ (by simp) rfl)
    have hT : ∀ X : Nat → Value, rmT B y0 y1 y2 y3 y4 y5 y6 y7 y8 y9 y10 y12 y13 y14 y15 y16 y17 y18 y19 y20 y21 y22 y23 y24 y25 y26 y27 y28 y29 y30 y31 y32 y33 y34 y35 y36 y37 y38 y39 y40 y41 y42 y43 y44 y45 y46 y47 y48 y49 y50 y51 y52 y53 y54 y55 y56 y57 y58 y59 y60 y75 y76 y77 y78 y79 y80 y81 y82 y83 y84 X = #[y0, y1, y2, y3, y4, y5, y6, y7, y8, y9, y10, .pointer (some ⟨B, 0, none⟩), y12, y13, y14, y15, y16, y17, y18, y19, y20, y21, y22, y23, y24, y25, y26, y27, y28, y29, y30, y31, y32, y33, y34, y35, y36, y37, y38, y39, y40, y41, y42, y43, y44, y45, y46, y47, y48, y49, y50, y51, y52, y53, y54, y55, y56, y57, y58, y59, y60, X 61, X 62, X 63, X 64, X 65, X 66, X 67, X 68, X 69, X 70, X 71, X 72, X 73, X 74, y75, y76, y77, y78, y79, y80, y81, y82, y83, y84] := fun _ => rfl
    rw [hT]
    have p0' := Lib.hid p0
    have p1' := Lib.hid p1
    have p2' := Lib.hid p2
    have p3' := Lib.hid p3
    have p4' := Lib.hid p4
    have p5' := Lib.hid p5
    have p6' := Lib.hid p6
    have p7' := Lib.hid p7
    have p8' := Lib.hid p8
    have p9' := Lib.hid p9
    have p10' := Lib.hid p10
    have p11' := Lib.hid p11
    have p12' := Lib.hid p12
    have p13' := Lib.hid p13
    have k0' := Lib.hid k0
    have k1' := Lib.hid k1
    have k2' := Lib.hid k2
    have k3' := Lib.hid k3
    have k4' := Lib.hid k4
    have k5' := Lib.hid k5
    have k6' := Lib.hid k6
    have g' := Lib.hid g
    have bw' := Lib.hid bw
    clear k6 k5 k4 k3 k2 k1 k0 p13 p12 p11 p10 p9 p8 p7 p6 p5 p4 p3 p2 p1 p0 g bw
    have hN' := Lib.hid hN; clear hN; have hl' := Lib.hid hl; clear hl; have h1' := Lib.hid h1; clear h1; have hp' := Lib.hid hp; clear hp; have hK' := Lib.hid hK; clear hK
    go_simp
    go_at_call 77
    refine (rmir_any p.1.1 _ Z0.out.1 Z0.out.2).mono ?_
    rintro e W1 ⟨rfl, hb⟩
    (try dsimp only)
    have hK := hK'.out; have hN := hN'.out; have hl := hl'.out; have h1 := h1'.out; have hp := hp'.out
    have p0 := p0'.out
    have p1 := p1'.out
    have p2 := p2'.out
    have p3 := p3'.out
    have p4 := p4'.out
    have p5 := p5'.out
    have p6 := p6'.out
    have p7 := p7'.out
    have p8 := p8'.out
    have p9 := p9'.out
    have p10 := p10'.out
    have p11 := p11'.out
    have p12 := p12'.out
    have p13 := p13'.out
    have k0 := k0'.out
    have k1 := k1'.out
    have k2 := k2'.out
    have k3 := k3'.out
    have k4 := k4'.out
    have k5 := k5'.out
    have k6 := k6'.out
    have g := g'.out
    have bw := bw'.out
    refine hK _ _ ⟨by simpa using hl, (upd (upd X 63 (ptv p.1.1)) 64 (ptv (mir p.1.1))), rfl, Nat.le_trans hN hb.size, GI.out _ _ (hb.mono hN) bw, g.keep (by decide) (fun _ h => opf_in h (hb.mono hN) HB.out), p0.keep (by decide), p1.keep (by decide), PV.made rfl, PV.made rfl, p4.keep (by decide), p5.keep (by decide), p6.keep (by decide), p7.keep (by decide), p8.keep (by decide), p9.keep (by decide), p10.keep (by decide), p11.keep (by decide), p12.keep (by decide), p13.keep (by decide), Cl.made (hp ⟨2, .data⟩ (by simp) rfl), k1.keep (by decide), k2.keep (by decide), k3.keep (by decide), k4.keep (by decide), k5.keep (by decide), k6.keep (by decide)⟩
  · rintro l A W ⟨hl, X, rfl, hN, bw, g, p0, p1, p2, p3, p4, p5, p6, p7, p8, p9, p10, p11, p12, p13, k0, k1, k2, k3, k4, k5, k6⟩ h1 hp K hK
    have hT : ∀ X : Nat → Value, rmT B y0 y1 y2 y3 y4 y5 y6 y7 y8 y9 y10 y12 y13 y14 y15 y16 y17 y18 y19 y20 y21 y22 y23 y24 y25 y26 y27 y28 y29 y30 y31 y32 y33 y34 y35 y36 y37 y38 y39 y40 y41 y42 y43 y44 y45 y46 y47 y48 y49 y50 y51 y52 y53 y54 y55 y56 y57 y58 y59 y60 y75 y76 y77 y78 y79 y80 y81 y82 y83 y84 X = #[y0, y1, y2, y3, y4, y5, y6, y7, y8, y9, y10, .pointer (some ⟨B, 0, none⟩), y12, y13, y14, y15, y16, y17, y18, y19, y20, y21, y22, y23, y24, y25, y26, y27, y28, y29, y30, y31, y32, y33, y34, y35, y36, y37, y38, y39, y40, y41, y42, y43, y44, y45, y46, y47, y48, y49, y50, y51, y52, y53, y54, y55, y56, y57, y58, y59, y60, X 61, X 62, X 63, X 64, X 65, X 66, X 67, X 68, X 69, X 70, X 71, X 72, X 73, X 74, y75, y76, y77, y78, y79, y80, y81, y82, y83, y84] := fun _ => rfl
    rw [hT]
    have p0' := Lib.hid p0
    have p1' := Lib.hid p1
    have p2' := Lib.hid p2
    have p3' := Lib.hid p3
    have p4' := Lib.hid p4
    have p5' := Lib.hid p5
    have p6' := Lib.hid p6
    have p7' := Lib.hid p7
    have p8' := Lib.hid p8
    have p9' := Lib.hid p9
    have p10' := Lib.hid p10
    have p11' := Lib.hid p11
    have p12' := Lib.hid p12
    have p13' := Lib.hid p13
    have k0' := Lib.hid k0
    have k1' := Lib.hid k1
    have k2' := Lib.hid k2
    have k3' := Lib.hid k3
    have k4' := Lib.hid k4
    have k5' := Lib.hid k5
    have k6' := Lib.hid k6
    have g' := Lib.hid g
    have bw' := Lib.hid bw
    clear k6 k5 k4 k3 k2 k1 k0 p13 p12 p11 p10 p9 p8 p7 p6 p5 p4 p3 p2 p1 p0 g bw
    have hN' := Lib.hid hN; clear hN; have hl' := Lib.hid hl; clear hl; have h1' := Lib.hid h1; clear h1; have hp' := Lib.hid hp; clear hp; have hK' := Lib.hid hK; clear hK
    go_simp
    have hK := hK'.out; have hN := hN'.out; have hl := hl'.out; have h1 := h1'.out; have hp := hp'.out
    have p0 := p0'.out
    have p1 := p1'.out
    have p2 := p2'.out
    have p3 := p3'.out
    have p4 := p4'.out
    have p5 := p5'.out
    have p6 := p6'.out
    have p7 := p7'.out
    have p8 := p8'.out
    have p9 := p9'.out
    have p10 := p10'.out
    have p11 := p11'.out
    have p12 := p12'.out
    have p13 := p13'.out
    have k0 := k0'.out
    have k1 := k1'.out
    have k2 := k2'.out
    have k3 := k3'.out
    have k4 := k4'.out
    have k5 := k5'.out
    have k6 := k6'.out
    have g := g'.out
    have bw := bw'.out
    refine hK _ _ ⟨by simpa using hl, (upd X 65 (.pointer (some ⟨B, 0, none⟩))), rfl, hN, bw, g.keep (by decide) (fun _ h => h), p0.keep (by decide), p1.keep (by decide), p2.keep (by decide), p3.keep (by decide), PV.made rfl, p5.keep (by decide), p6.keep (by decide), p7.keep (by decide), p8.keep (by decide), p9.keep (by decide), p10.keep (by decide), p11.keep (by decide), p12.keep (by decide), p13.keep (by decide), k0.keep (by decide), k1.keep (by decide), k2.keep (by decide), k3.keep (by decide), k4.keep (by decide), k5.keep (by decide), k6.keep (by decide)⟩
  · rintro l A W ⟨hl, X, rfl, hN, bw, g, p0, p1, p2, p3, p4, p5, p6, p7, p8, p9, p10, p11, p12, p13, k0, k1, k2, k3, k4, k5, k6⟩ h1 hp K hK
    have e4 := p4 (hp ⟨4, .data⟩ (by simp) rfl)
    have hT : ∀ X : Nat → Value, rmT B y0 y1 y2 y3 y4 y5 y6 y7 y8 y9 y10 y12 y13 y14 y15 y16 y17 y18 y19 y20 y21 y22 y23 y24 y25 y26 y27 y28 y29 y30 y31 y32 y33 y34 y35 y36 y37 y38 y39 y40 y41 y42 y43 y44 y45 y46 y47 y48 y49 y50 y51 y52 y53 y54 y55 y56 y57 y58 y59 y60 y75 y76 y77 y78 y79 y80 y81 y82 y83 y84 X = #[y0, y1, y2, y3, y4, y5, y6, y7, y8, y9, y10, .pointer (some ⟨B, 0, none⟩), y12, y13, y14, y15, y16, y17, y18, y19, y20, y21, y22, y23, y24, y25, y26, y27, y28, y29, y30, y31, y32, y33, y34, y35, y36, y37, y38, y39, y40, y41, y42, y43, y44, y45, y46, y47, y48, y49, y50, y51, y52, y53, y54, y55, y56, y57, y58, y59, y60, X 61, X 62, X 63, X 64, X 65, X 66, X 67, X 68, X 69, X 70, X 71, X 72, X 73, X 74, y75, y76, y77, y78, y79, y80, y81, y82, y83, y84] := fun _ => rfl
    rw [hT]
    have p0' := Lib.hid p0
    have p1' := Lib.hid p1
    have p2' := Lib.hid p2
    have p3' := Lib.hid p3
    have p4' := Lib.hid p4
    have p5' := Lib.hid p5
    have p6' := Lib.hid p6
    have p7' := Lib.hid p7
    have p8' := Lib.hid p8
    have p9' := Lib.hid p9
    have p10' := Lib.hid p10
    have p11' := Lib.hid p11
    have p12' := Lib.hid p12
    have p13' := Lib.hid p13
    have k0' := Lib.hid k0
    have k1' := Lib.hid k1
    have k2' := Lib.hid k2
    have k3' := Lib.hid k3
    have k4' := Lib.hid k4
    have k5' := Lib.hid k5
    have k6' := Lib.hid k6
    have g' := Lib.hid g
    have bw' := Lib.hid bw
    clear k6 k5 k4 k3 k2 k1 k0 p13 p12 p11 p10 p9 p8 p7 p6 p5 p4 p3 p2 p1 p0 g bw
    have hN' := Lib.hid hN; clear hN; have hl' := Lib.hid hl; clear hl; have h1' := Lib.hid h1; clear h1; have hp' := Lib.hid hp; clear hp; have hK' := Lib.hid hK; clear hK
    go_simp
    have hK := hK'.out; have hN := hN'.out; have hl := hl'.out; have h1 := h1'.out; have hp := hp'.out
    have p0 := p0'.out
    have p1 := p1'.out
    have p2 := p2'.out
    have p3 := p3'.out
    have p4 := p4'.out
    have p5 := p5'.out
    have p6 := p6'.out
    have p7 := p7'.out
    have p8 := p8'.out
    have p9 := p9'.out
    have p10 := p10'.out
    have p11 := p11'.out
    have p12 := p12'.out
    have p13 := p13'.out
    have k0 := k0'.out
    have k1 := k1'.out
    have k2 := k2'.out
    have k3 := k3'.out
    have k4 := k4'.out
    have k5 := k5'.out
    have k6 := k6'.out
    have g := g'.out
    have bw := bw'.out
    refine hK _ _ ⟨by simpa using hl, (upd (upd X 65 (.pointer (some ⟨B, 0, none⟩))) 66 (.pointer (some ⟨B, 3, none⟩))), rfl, hN, bw, g.keep (by decide) (fun _ h => h), p0.keep (by decide), p1.keep (by decide), p2.keep (by decide), p3.keep (by decide), PV.made rfl, PV.made rfl, p6.keep (by decide), p7.keep (by decide), p8.keep (by decide), p9.keep (by decide), p10.keep (by decide), p11.keep (by decide), p12.keep (by decide), p13.keep (by decide), k0.keep (by decide), k1.keep (by decide), k2.keep (by decide), k3.keep (by decide), k4.keep (by decide), k5.keep (by decide), k6.keep (by decide)⟩
  · rintro l A W ⟨hl, X, rfl, hN, bw, g, p0, p1, p2, p3, p4, p5, p6, p7, p8, p9, p10, p11, p12, p13, k0, k1, k2, k3, k4, k5, k6⟩ h1 hp K hK
    have e5 := p5 (hp ⟨5, .data⟩ (by simp) rfl)
    obtain ⟨⟨⟨d0, d1, d2, d3, d4, d5, d6, d7, d8, d9, d10⟩, ol⟩, _⟩ := g.there (fun z => getD_flip h1 (k1 (k4 (k6 z))))
    have hT : ∀ X : Nat → Value, rmT B y0 y1 y2 y3 y4 y5 y6 y7 y8 y9 y10 y12 y13 y14 y15 y16 y17 y18 y19 y20 y21 y22 y23 y24 y25 y26 y27 y28 y29 y30 y31 y32 y33 y34 y35 y36 y37 y38 y39 y40 y41 y42 y43 y44 y45 y46 y47 y48 y49 y50 y51 y52 y53 y54 y55 y56 y57 y58 y59 y60 y75 y76 y77 y78 y79 y80 y81 y82 y83 y84 X = #[y0, y1, y2, y3, y4, y5, y6, y7, y8, y9, y10, .pointer (some ⟨B, 0, none⟩), y12, y13, y14, y15, y16, y17, y18, y19, y20, y21, y22, y23, y24, y25, y26, y27, y28, y29, y30, y31, y32, y33, y34, y35, y36, y37, y38, y39, y40, y41, y42, y43, y44, y45, y46, y47, y48, y49, y50, y51, y52, y53, y54, y55, y56, y57, y58, y59, y60, X 61, X 62, X 63, X 64, X 65, X 66, X 67, X 68, X 69, X 70, X 71, X 72, X 73, X 74, y75, y76, y77, y78, y79, y80, y81, y82, y83, y84] := fun _ => rfl
    rw [hT]
    have p0' := Lib.hid p0
    have p1' := Lib.hid p1
    have p2' := Lib.hid p2
    have p3' := Lib.hid p3
    have p4' := Lib.hid p4
    have p5' := Lib.hid p5
    have p6' := Lib.hid p6
    have p7' := Lib.hid p7
    have p8' := Lib.hid p8
    have p9' := Lib.hid p9
    have p10' := Lib.hid p10
    have p11' := Lib.hid p11
    have p12' := Lib.hid p12
    have p13' := Lib.hid p13
    have k0' := Lib.hid k0
    have k1' := Lib.hid k1
    have k2' := Lib.hid k2
    have k3' := Lib.hid k3
    have k4' := Lib.hid k4
    have k5' := Lib.hid k5
    have k6' := Lib.hid k6
    have g' := Lib.hid g
    have bw' := Lib.hid bw
    clear k6 k5 k4 k3 k2 k1 k0 p13 p12 p11 p10 p9 p8 p7 p6 p5 p4 p3 p2 p1 p0 g bw
    have hN' := Lib.hid hN; clear hN; have hl' := Lib.hid hl; clear hl; have h1' := Lib.hid h1; clear h1; have hp' := Lib.hid hp; clear hp; have hK' := Lib.hid hK; clear hK
    go_simp
    have hK := hK'.out; have hN := hN'.out; have hl := hl'.out; have h1 := h1'.out; have hp := hp'.out
    have p0 := p0'.out
    have p1 := p1'.out
    have p2 := p2'.out
    have p3 := p3'.out
    have p4 := p4'.out
    have p5 := p5'.out
    have p6 := p6'.out
    have p7 := p7'.out
    have p8 := p8'.out
    have p9 := p9'.out
    have p10 := p10'.out
    have p11 := p11'.out
    have p12 := p12'.out
    have p13 := p13'.out
    have k0 := k0'.out
    have k1 := k1'.out
    have k2 := k2'.out
    have k3 := k3'.out
    have k4 := k4'.out
    have k5 := k5'.out
    have k6 := k6'.out
    have g := g'.out
    have bw := bw'.out
    refine hK _ _ ⟨by simpa using hl, (upd (upd X 66 (.pointer (some ⟨B, 3, none⟩))) 67 (ptv p.1.2.1)), rfl, hN, bw, g.keep (by decide) (fun _ h => h), p0.keep (by decide), p1.keep (by decide), p2.keep (by decide), p3.keep (by decide), p4.keep (by decide), PV.made rfl, PV.made rfl, p7.keep (by decide), p8.keep (by decide), p9.keep (by decide), p10.keep (by decide), p11.keep (by decide), p12.keep (by decide), p13.keep (by decide), k0.keep (by decide), k1.keep (by decide), k2.keep (by decide), k3.keep (by decide), k4.keep (by decide), k5.keep (by decide), k6.keep (by decide)⟩
  · rintro l A W ⟨hl, X, rfl, hN, bw, g, p0, p1, p2, p3, p4, p5, p6, p7, p8, p9, p10, p11, p12, p13, k0, k1, k2, k3, k4, k5, k6⟩ h1 hp K hK
    have e6 := p6 (hp ⟨6, .data⟩ (by simp) rfl)
    have hT : ∀ X : Nat → Value, rmT B y0 y1 y2 y3 y4 y5 y6 y7 y8 y9 y10 y12 y13 y14 y15 y16 y17 y18 y19 y20 y21 y22 y23 y24 y25 y26 y27 y28 y29 y30 y31 y32 y33 y34 y35 y36 y37 y38 y39 y40 y41 y42 y43 y44 y45 y46 y47 y48 y49 y50 y51 y52 y53 y54 y55 y56 y57 y58 y59 y60 y75 y76 y77 y78 y79 y80 y81 y82 y83 y84 X = #[y0, y1, y2, y3, y4, y5, y6, y7, y8, y9, y10, .pointer (some ⟨B, 0, none⟩), y12, y13, y14, y15, y16, y17, y18, y19, y20, y21, y22, y23, y24, y25, y26, y27, y28, y29, y30, y31, y32, y33, y34, y35, y36, y37, y38, y39, y40, y41, y42, y43, y44, y45, y46, y47, y48, y49, y50, y51, y52, y53, y54, y55, y56, y57, y58, y59, y60, X 61, X 62, X 63, X 64, X 65, X 66, X 67, X 68, X 69, X 70, X 71, X 72, X 73, X 74, y75, y76, y77, y78, y79, y80, y81, y82, y83, y84] := fun _ => rfl
    rw [hT]
    have p0' := Lib.hid p0
    have p1' := Lib.hid p1
    have p2' := Lib.hid p2
    have p3' := Lib.hid p3
    have p4' := Lib.hid p4
    have p5' := Lib.hid p5
    have p6' := Lib.hid p6
    have p7' := Lib.hid p7
    have p8' := Lib.hid p8
    have p9' := Lib.hid p9
    have p10' := Lib.hid p10
    have p11' := Lib.hid p11
    have p12' := Lib.hid p12
    have p13' := Lib.hid p13
    have k0' := Lib.hid k0
    have k1' := Lib.hid k1
    have k2' := Lib.hid k2
    have k3' := Lib.hid k3
    have k4' := Lib.hid k4
    have k5' := Lib.hid k5
    have k6' := Lib.hid k6
    have g' := Lib.hid g
    have bw' := Lib.hid bw
    clear k6 k5 k4 k3 k2 k1 k0 p13 p12 p11 p10 p9 p8 p7 p6 p5 p4 p3 p2 p1 p0 g bw
    have hN' := Lib.hid hN; clear hN; have hl' := Lib.hid hl; clear hl; have h1' := Lib.hid h1; clear h1; have hp' := Lib.hid hp; clear hp; have hK' := Lib.hid hK; clear hK
    go_simp
    go_at_call 77
    refine (rmir_any p.1.2.1 _ Z1.out.1 Z1.out.2).mono ?_
    rintro e W1 ⟨rfl, hb⟩
    (try dsimp only)
    have hK := hK'.out; have hN := hN'.out; have hl := hl'.out; have h1 := h1'.out; have hp := hp'.out
    have p0 := p0'.out
    have p1 := p1'.out
    have p2 := p2'.out
    have p3 := p3'.out
    have p4 := p4'.out
    have p5 := p5'.out
    have p6 := p6'.out
    have p7 := p7'.out
    have p8 := p8'.out
    have p9 := p9'.out
    have p10 := p10'.out
    have p11 := p11'.out
    have p12 := p12'.out
    have p13 := p13'.out
    have k0 := k0'.out
    have k1 := k1'.out
    have k2 := k2'.out
    have k3 := k3'.out
    have k4 := k4'.out
    have k5 := k5'.out
    have k6 := k6'.out
    have g := g'.out
    have bw := bw'.out
    refine hK _ _ ⟨by simpa using hl, (upd (upd X 67 (ptv p.1.2.1)) 68 (ptv (mir p.1.2.1))), rfl, Nat.le_trans hN hb.size, GI.out _ _ (hb.mono hN) bw, g.keep (by decide) (fun _ h => opf_in h (hb.mono hN) HB.out), p0.keep (by decide), p1.keep (by decide), p2.keep (by decide), p3.keep (by decide), p4.keep (by decide), p5.keep (by decide), PV.made rfl, PV.made rfl, p8.keep (by decide), p9.keep (by decide), p10.keep (by decide), p11.keep (by decide), p12.keep (by decide), p13.keep (by decide), k0.keep (by decide), Cl.made (hp ⟨6, .data⟩ (by simp) rfl), k2.keep (by decide), k3.keep (by decide), k4.keep (by decide), k5.keep (by decide), k6.keep (by decide)⟩
  · rintro l A W ⟨hl, X, rfl, hN, bw, g, p0, p1, p2, p3, p4, p5, p6, p7, p8, p9, p10, p11, p12, p13, k0, k1, k2, k3, k4, k5, k6⟩ h1 hp K hK
    have hT : ∀ X : Nat → Value, rmT B y0 y1 y2 y3 y4 y5 y6 y7 y8 y9 y10 y12 y13 y14 y15 y16 y17 y18 y19 y20 y21 y22 y23 y24 y25 y26 y27 y28 y29 y30 y31 y32 y33 y34 y35 y36 y37 y38 y39 y40 y41 y42 y43 y44 y45 y46 y47 y48 y49 y50 y51 y52 y53 y54 y55 y56 y57 y58 y59 y60 y75 y76 y77 y78 y79 y80 y81 y82 y83 y84 X = #[y0, y1, y2, y3, y4, y5, y6, y7, y8, y9, y10, .pointer (some ⟨B, 0, none⟩), y12, y13, y14, y15, y16, y17, y18, y19, y20, y21, y22, y23, y24, y25, y26, y27, y28, y29, y30, y31, y32, y33, y34, y35, y36, y37, y38, y39, y40, y41, y42, y43, y44, y45, y46, y47, y48, y49, y50, y51, y52, y53, y54, y55, y56, y57, y58, y59, y60, X 61, X 62, X 63, X 64, X 65, X 66, X 67, X 68, X 69, X 70, X 71, X 72, X 73, X 74, y75, y76, y77, y78, y79, y80, y81, y82, y83, y84] := fun _ => rfl
    rw [hT]
    have p0' := Lib.hid p0
    have p1' := Lib.hid p1
    have p2' := Lib.hid p2
    have p3' := Lib.hid p3
    have p4' := Lib.hid p4
    have p5' := Lib.hid p5
    have p6' := Lib.hid p6
    have p7' := Lib.hid p7
    have p8' := Lib.hid p8
    have p9' := Lib.hid p9
    have p10' := Lib.hid p10
    have p11' := Lib.hid p11
    have p12' := Lib.hid p12
    have p13' := Lib.hid p13
    have k0' := Lib.hid k0
    have k1' := Lib.hid k1
    have k2' := Lib.hid k2
    have k3' := Lib.hid k3
    have k4' := Lib.hid k4
    have k5' := Lib.hid k5
    have k6' := Lib.hid k6
    have g' := Lib.hid g
    have bw' := Lib.hid bw
    clear k6 k5 k4 k3 k2 k1 k0 p13 p12 p11 p10 p9 p8 p7 p6 p5 p4 p3 p2 p1 p0 g bw
    have hN' := Lib.hid hN; clear hN; have hl' := Lib.hid hl; clear hl; have h1' := Lib.hid h1; clear h1; have hp' := Lib.hid hp; clear hp; have hK' := Lib.hid hK; clear hK
    go_simp
    have hK := hK'.out; have hN := hN'.out; have hl := hl'.out; have h1 := h1'.out; have hp := hp'.out
    have p0 := p0'.out
    have p1 := p1'.out
    have p2 := p2'.out
    have p3 := p3'.out
    have p4 := p4'.out
    have p5 := p5'.out
    have p6 := p6'.out
    have p7 := p7'.out
    have p8 := p8'.out
    have p9 := p9'.out
    have p10 := p10'.out
    have p11 := p11'.out
    have p12 := p12'.out
    have p13 := p13'.out
    have k0 := k0'.out
    have k1 := k1'.out
    have k2 := k2'.out
    have k3 := k3'.out
    have k4 := k4'.out
    have k5 := k5'.out
    have k6 := k6'.out
    have g := g'.out
    have bw := bw'.out
    refine hK _ _ ⟨by simpa using hl, (upd X 69 (.pointer (some ⟨B, 0, none⟩))), rfl, hN, bw, g.keep (by decide) (fun _ h => h), p0.keep (by decide), p1.keep (by decide), p2.keep (by decide), p3.keep (by decide), p4.keep (by decide), p5.keep (by decide), p6.keep (by decide), p7.keep (by decide), PV.made rfl, p9.keep (by decide), p10.keep (by decide), p11.keep (by decide), p12.keep (by decide), p13.keep (by decide), k0.keep (by decide), k1.keep (by decide), k2.keep (by decide), k3.keep (by decide), k4.keep (by decide), k5.keep (by decide), k6.keep (by decide)⟩
  · rintro l A W ⟨hl, X, rfl, hN, bw, g, p0, p1, p2, p3, p4, p5, p6, p7, p8, p9, p10, p11, p12, p13, k0, k1, k2, k3, k4, k5, k6⟩ h1 hp K hK
    have e8 := p8 (hp ⟨8, .data⟩ (by simp) rfl)
    have hT : ∀ X : Nat → Value, rmT B y0 y1 y2 y3 y4 y5 y6 y7 y8 y9 y10 y12 y13 y14 y15 y16 y17 y18 y19 y20 y21 y22 y23 y24 y25 y26 y27 y28 y29 y30 y31 y32 y33 y34 y35 y36 y37 y38 y39 y40 y41 y42 y43 y44 y45 y46 y47 y48 y49 y50 y51 y52 y53 y54 y55 y56 y57 y58 y59 y60 y75 y76 y77 y78 y79 y80 y81 y82 y83 y84 X = #[y0, y1, y2, y3, y4, y5, y6, y7, y8, y9, y10, .pointer (some ⟨B, 0, none⟩), y12, y13, y14, y15, y16, y17, y18, y19, y20, y21, y22, y23, y24, y25, y26, y27, y28, y29, y30, y31, y32, y33, y34, y35, y36, y37, y38, y39, y40, y41, y42, y43, y44, y45, y46, y47, y48, y49, y50, y51, y52, y53, y54, y55, y56, y57, y58, y59, y60, X 61, X 62, X 63, X 64, X 65, X 66, X 67, X 68, X 69, X 70, X 71, X 72, X 73, X 74, y75, y76, y77, y78, y79, y80, y81, y82, y83, y84] := fun _ => rfl
    rw [hT]
    have p0' := Lib.hid p0
    have p1' := Lib.hid p1
    have p2' := Lib.hid p2
    have p3' := Lib.hid p3
    have p4' := Lib.hid p4
    have p5' := Lib.hid p5
    have p6' := Lib.hid p6
    have p7' := Lib.hid p7
    have p8' := Lib.hid p8
    have p9' := Lib.hid p9
    have p10' := Lib.hid p10
    have p11' := Lib.hid p11
    have p12' := Lib.hid p12
    have p13' := Lib.hid p13
    have k0' := Lib.hid k0
    have k1' := Lib.hid k1
    have k2' := Lib.hid k2
    have k3' := Lib.hid k3
    have k4' := Lib.hid k4
    have k5' := Lib.hid k5
    have k6' := Lib.hid k6
    have g' := Lib.hid g
    have bw' := Lib.hid bw
    clear k6 k5 k4 k3 k2 k1 k0 p13 p12 p11 p10 p9 p8 p7 p6 p5 p4 p3 p2 p1 p0 g bw
    have hN' := Lib.hid hN; clear hN; have hl' := Lib.hid hl; clear hl; have h1' := Lib.hid h1; clear h1; have hp' := Lib.hid hp; clear hp; have hK' := Lib.hid hK; clear hK
    go_simp
    have hK := hK'.out; have hN := hN'.out; have hl := hl'.out; have h1 := h1'.out; have hp := hp'.out
    have p0 := p0'.out
    have p1 := p1'.out
    have p2 := p2'.out
    have p3 := p3'.out
    have p4 := p4'.out
    have p5 := p5'.out
    have p6 := p6'.out
    have p7 := p7'.out
    have p8 := p8'.out
    have p9 := p9'.out
    have p10 := p10'.out
    have p11 := p11'.out
    have p12 := p12'.out
    have p13 := p13'.out
    have k0 := k0'.out
    have k1 := k1'.out
    have k2 := k2'.out
    have k3 := k3'.out
    have k4 := k4'.out
    have k5 := k5'.out
    have k6 := k6'.out
    have g := g'.out
    have bw := bw'.out
    refine hK _ _ ⟨by simpa using hl, (upd (upd X 69 (.pointer (some ⟨B, 0, none⟩))) 70 (.pointer (some ⟨B, 6, none⟩))), rfl, hN, bw, g.keep (by decide) (fun _ h => h), p0.keep (by decide), p1.keep (by decide), p2.keep (by decide), p3.keep (by decide), p4.keep (by decide), p5.keep (by decide), p6.keep (by decide), p7.keep (by decide), PV.made rfl, PV.made rfl, p10.keep (by decide), p11.keep (by decide), p12.keep (by decide), p13.keep (by decide), k0.keep (by decide), k1.keep (by decide), k2.keep (by decide), k3.keep (by decide), k4.keep (by decide), k5.keep (by decide), k6.keep (by decide)⟩
  · rintro l A W ⟨hl, X, rfl, hN, bw, g, p0, p1, p2, p3, p4, p5, p6, p7, p8, p9, p10, p11, p12, p13, k0, k1, k2, k3, k4, k5, k6⟩ h1 hp K hK
    have e9 := p9 (hp ⟨9, .data⟩ (by simp) rfl)
    obtain ⟨⟨⟨d0, d1, d2, d3, d4, d5, d6, d7, d8, d9, d10⟩, ol⟩, _⟩ := g.there (fun z => getD_flip h1 (k2 (k5 (k6 z))))
    have hT : ∀ X : Nat → Value, rmT B y0 y1 y2 y3 y4 y5 y6 y7 y8 y9 y10 y12 y13 y14 y15 y16 y17 y18 y19 y20 y21 y22 y23 y24 y25 y26 y27 y28 y29 y30 y31 y32 y33 y34 y35 y36 y37 y38 y39 y40 y41 y42 y43 y44 y45 y46 y47 y48 y49 y50 y51 y52 y53 y54 y55 y56 y57 y58 y59 y60 y75 y76 y77 y78 y79 y80 y81 y82 y83 y84 X = #[y0, y1, y2, y3, y4, y5, y6, y7, y8, y9, y10, .pointer (some ⟨B, 0, none⟩), y12, y13, y14, y15, y16, y17, y18, y19, y20, y21, y22, y23, y24, y25, y26, y27, y28, y29, y30, y31, y32, y33, y34, y35, y36, y37, y38, y39, y40, y41, y42, y43, y44, y45, y46, y47, y48, y49, y50, y51, y52, y53, y54, y55, y56, y57, y58, y59, y60, X 61, X 62, X 63, X 64, X 65, X 66, X 67, X 68, X 69, X 70, X 71, X 72, X 73, X 74, y75, y76, y77, y78, y79, y80, y81, y82, y83, y84] := fun _ => rfl
    rw [hT]
    have p0' := Lib.hid p0
    have p1' := Lib.hid p1
    have p2' := Lib.hid p2
    have p3' := Lib.hid p3
    have p4' := Lib.hid p4
    have p5' := Lib.hid p5
    have p6' := Lib.hid p6
    have p7' := Lib.hid p7
    have p8' := Lib.hid p8
    have p9' := Lib.hid p9
    have p10' := Lib.hid p10
    have p11' := Lib.hid p11
    have p12' := Lib.hid p12
    have p13' := Lib.hid p13
    have k0' := Lib.hid k0
    have k1' := Lib.hid k1
    have k2' := Lib.hid k2
    have k3' := Lib.hid k3
    have k4' := Lib.hid k4
    have k5' := Lib.hid k5
    have k6' := Lib.hid k6
    have g' := Lib.hid g
    have bw' := Lib.hid bw
    clear k6 k5 k4 k3 k2 k1 k0 p13 p12 p11 p10 p9 p8 p7 p6 p5 p4 p3 p2 p1 p0 g bw
    have hN' := Lib.hid hN; clear hN; have hl' := Lib.hid hl; clear hl; have h1' := Lib.hid h1; clear h1; have hp' := Lib.hid hp; clear hp; have hK' := Lib.hid hK; clear hK
    go_simp
    have hK := hK'.out; have hN := hN'.out; have hl := hl'.out; have h1 := h1'.out; have hp := hp'.out
    have p0 := p0'.out
    have p1 := p1'.out
    have p2 := p2'.out
    have p3 := p3'.out
    have p4 := p4'.out
    have p5 := p5'.out
    have p6 := p6'.out
    have p7 := p7'.out
    have p8 := p8'.out
    have p9 := p9'.out
    have p10 := p10'.out
    have p11 := p11'.out
    have p12 := p12'.out
    have p13 := p13'.out
    have k0 := k0'.out
    have k1 := k1'.out
    have k2 := k2'.out
    have k3 := k3'.out
    have k4 := k4'.out
    have k5 := k5'.out
    have k6 := k6'.out
    have g := g'.out
    have bw := bw'.out
    refine hK _ _ ⟨by simpa using hl, (upd (upd X 70 (.pointer (some ⟨B, 6, none⟩))) 71 (ptv p.1.2.2)), rfl, hN, bw, g.keep (by decide) (fun _ h => h), p0.keep (by decide), p1.keep (by decide), p2.keep (by decide), p3.keep (by decide), p4.keep (by decide), p5.keep (by decide), p6.keep (by decide), p7.keep (by decide), p8.keep (by decide), PV.made rfl, PV.made rfl, p11.keep (by decide), p12.keep (by decide), p13.keep (by decide), k0.keep (by decide), k1.keep (by decide), k2.keep (by decide), k3.keep (by decide), k4.keep (by decide), k5.keep (by decide), k6.keep (by decide)⟩
  · rintro l A W ⟨hl, X, rfl, hN, bw, g, p0, p1, p2, p3, p4, p5, p6, p7, p8, p9, p10, p11, p12, p13, k0, k1, k2, k3, k4, k5, k6⟩ h1 hp K hK
    have e10 := p10 (hp ⟨10, .data⟩ (by simp) rfl)
    have hT : ∀ X : Nat → Value, rmT B y0 y1 y2 y3 y4 y5 y6 y7 y8 y9 y10 y12 y13 y14 y15 y16 y17 y18 y19 y20 y21 y22 y23 y24 y25 y26 y27 y28 y29 y30 y31 y32 y33 y34 y35 y36 y37 y38 y39 y40 y41 y42 y43 y44 y45 y46 y47 y48 y49 y50 y51 y52 y53 y54 y55 y56 y57 y58 y59 y60 y75 y76 y77 y78 y79 y80 y81 y82 y83 y84 X = #[y0, y1, y2, y3, y4, y5, y6, y7, y8, y9, y10, .pointer (some ⟨B, 0, none⟩), y12, y13, y14, y15, y16, y17, y18, y19, y20, y21, y22, y23, y24, y25, y26, y27, y28, y29, y30, y31, y32, y33, y34, y35, y36, y37, y38, y39, y40, y41, y42, y43, y44, y45, y46, y47, y48, y49, y50, y51, y52, y53, y54, y55, y56, y57, y58, y59, y60, X 61, X 62, X 63, X 64, X 65, X 66, X 67, X 68, X 69, X 70, X 71, X 72, X 73, X 74, y75, y76, y77, y78, y79, y80, y81, y82, y83, y84] := fun _ => rfl
    rw [hT]
    have p0' := Lib.hid p0
    have p1' := Lib.hid p1
    have p2' := Lib.hid p2
    have p3' := Lib.hid p3
    have p4' := Lib.hid p4
    have p5' := Lib.hid p5
    have p6' := Lib.hid p6
    have p7' := Lib.hid p7
    have p8' := Lib.hid p8
    have p9' := Lib.hid p9
    have p10' := Lib.hid p10
    have p11' := Lib.hid p11
    have p12' := Lib.hid p12
    have p13' := Lib.hid p13
    have k0' := Lib.hid k0
    have k1' := Lib.hid k1
    have k2' := Lib.hid k2
    have k3' := Lib.hid k3
    have k4' := Lib.hid k4
    have k5' := Lib.hid k5
    have k6' := Lib.hid k6
    have g' := Lib.hid g
    have bw' := Lib.hid bw
    clear k6 k5 k4 k3 k2 k1 k0 p13 p12 p11 p10 p9 p8 p7 p6 p5 p4 p3 p2 p1 p0 g bw
    have hN' := Lib.hid hN; clear hN; have hl' := Lib.hid hl; clear hl; have h1' := Lib.hid h1; clear h1; have hp' := Lib.hid hp; clear hp; have hK' := Lib.hid hK; clear hK
    go_simp
    go_at_call 77
    refine (rmir_any p.1.2.2 _ Z2.out.1 Z2.out.2).mono ?_
    rintro e W1 ⟨rfl, hb⟩
    (try dsimp only)
    have hK := hK'.out; have hN := hN'.out; have hl := hl'.out; have h1 := h1'.out; have hp := hp'.out
    have p0 := p0'.out
    have p1 := p1'.out
    have p2 := p2'.out
    have p3 := p3'.out
    have p4 := p4'.out
    have p5 := p5'.out
    have p6 := p6'.out
    have p7 := p7'.out
    have p8 := p8'.out
    have p9 := p9'.out
    have p10 := p10'.out
    have p11 := p11'.out
    have p12 := p12'.out
    have p13 := p13'.out
    have k0 := k0'.out
    have k1 := k1'.out
    have k2 := k2'.out
    have k3 := k3'.out
    have k4 := k4'.out
    have k5 := k5'.out
    have k6 := k6'.out
    have g := g'.out
    have bw := bw'.out
    refine hK _ _ ⟨by simpa using hl, (upd (upd X 71 (ptv p.1.2.2)) 72 (ptv (mir p.1.2.2))), rfl, Nat.le_trans hN hb.size, GI.out _ _ (hb.mono hN) bw, g.keep (by decide) (fun _ h => opf_in h (hb.mono hN) HB.out), p0.keep (by decide), p1.keep (by decide), p2.keep (by decide), p3.keep (by decide), p4.keep (by decide), p5.keep (by decide), p6.keep (by decide), p7.keep (by decide), p8.keep (by decide), p9.keep (by decide), PV.made rfl, PV.made rfl, p12.keep (by decide), p13.keep (by decide), k0.keep (by decide), k1.keep (by decide), Cl.made (hp ⟨10, .data⟩ (by simp) rfl), k3.keep (by decide), k4.keep (by decide), k5.keep (by decide), k6.keep (by decide)⟩
  · rintro l A W ⟨hl, X, rfl, hN, bw, g, p0, p1, p2, p3, p4, p5, p6, p7, p8, p9, p10, p11, p12, p13, k0, k1, k2, k3, k4, k5, k6⟩ h1 hp K hK
    have e3 := p3 (hp ⟨3, .data⟩ (by simp) rfl)
    have e7 := p7 (hp ⟨7, .data⟩ (by simp) rfl)
    have e11 := p11 (hp ⟨11, .data⟩ (by simp) rfl)
    have hT : ∀ X : Nat → Value, rmT B y0 y1 y2 y3 y4 y5 y6 y7 y8 y9 y10 y12 y13 y14 y15 y16 y17 y18 y19 y20 y21 y22 y23 y24 y25 y26 y27 y28 y29 y30 y31 y32 y33 y34 y35 y36 y37 y38 y39 y40 y41 y42 y43 y44 y45 y46 y47 y48 y49 y50 y51 y52 y53 y54 y55 y56 y57 y58 y59 y60 y75 y76 y77 y78 y79 y80 y81 y82 y83 y84 X = #[y0, y1, y2, y3, y4, y5, y6, y7, y8, y9, y10, .pointer (some ⟨B, 0, none⟩), y12, y13, y14, y15, y16, y17, y18, y19, y20, y21, y22, y23, y24, y25, y26, y27, y28, y29, y30, y31, y32, y33, y34, y35, y36, y37, y38, y39, y40, y41, y42, y43, y44, y45, y46, y47, y48, y49, y50, y51, y52, y53, y54, y55, y56, y57, y58, y59, y60, X 61, X 62, X 63, X 64, X 65, X 66, X 67, X 68, X 69, X 70, X 71, X 72, X 73, X 74, y75, y76, y77, y78, y79, y80, y81, y82, y83, y84] := fun _ => rfl
    rw [hT]
    have p0' := Lib.hid p0
    have p1' := Lib.hid p1
    have p2' := Lib.hid p2
    have p3' := Lib.hid p3
    have p4' := Lib.hid p4
    have p5' := Lib.hid p5
    have p6' := Lib.hid p6
    have p7' := Lib.hid p7
    have p8' := Lib.hid p8
    have p9' := Lib.hid p9
    have p10' := Lib.hid p10
    have p11' := Lib.hid p11
    have p12' := Lib.hid p12
    have p13' := Lib.hid p13
    have k0' := Lib.hid k0
    have k1' := Lib.hid k1
    have k2' := Lib.hid k2
    have k3' := Lib.hid k3
    have k4' := Lib.hid k4
    have k5' := Lib.hid k5
    have k6' := Lib.hid k6
    have g' := Lib.hid g
    have bw' := Lib.hid bw
    clear k6 k5 k4 k3 k2 k1 k0 p13 p12 p11 p10 p9 p8 p7 p6 p5 p4 p3 p2 p1 p0 g bw
    have hN' := Lib.hid hN; clear hN; have hl' := Lib.hid hl; clear hl; have h1' := Lib.hid h1; clear h1; have hp' := Lib.hid hp; clear hp; have hK' := Lib.hid hK; clear hK
    go_simp
    have hK := hK'.out; have hN := hN'.out; have hl := hl'.out; have h1 := h1'.out; have hp := hp'.out
    have p0 := p0'.out
    have p1 := p1'.out
    have p2 := p2'.out
    have p3 := p3'.out
    have p4 := p4'.out
    have p5 := p5'.out
    have p6 := p6'.out
    have p7 := p7'.out
    have p8 := p8'.out
    have p9 := p9'.out
    have p10 := p10'.out
    have p11 := p11'.out
    have p12 := p12'.out
    have p13 := p13'.out
    have k0 := k0'.out
    have k1 := k1'.out
    have k2 := k2'.out
    have k3 := k3'.out
    have k4 := k4'.out
    have k5 := k5'.out
    have k6 := k6'.out
    have g := g'.out
    have bw := bw'.out
    refine hK _ _ ⟨by simpa using hl, (upd (upd (upd (upd X 64 (ptv (mir p.1.1))) 68 (ptv (mir p.1.2.1))) 72 (ptv (mir p.1.2.2))) 73 (pnv (mir p.1.1) (mir p.1.2.1) (mir p.1.2.2))), rfl, hN, bw, g.keep (by decide) (fun _ h => h), p0.keep (by decide), p1.keep (by decide), p2.keep (by decide), PV.made rfl, p4.keep (by decide), p5.keep (by decide), p6.keep (by decide), PV.made rfl, p8.keep (by decide), p9.keep (by decide), p10.keep (by decide), PV.made rfl, PV.made rfl, p13.keep (by decide), k0.keep (by decide), k1.keep (by decide), k2.keep (by decide), Cl.made (hp ⟨3, .data⟩ (by simp) rfl), Cl.made (hp ⟨7, .data⟩ (by simp) rfl), Cl.made (hp ⟨11, .data⟩ (by simp) rfl), k6.keep (by decide)⟩
  · rintro l A W ⟨hl, X, rfl, hN, bw, g, p0, p1, p2, p3, p4, p5, p6, p7, p8, p9, p10, p11, p12, p13, k0, k1, k2, k3, k4, k5, k6⟩ h1 hp K hK
    have hT : ∀ X : Nat → Value, rmT B y0 y1 y2 y3 y4 y5 y6 y7 y8 y9 y10 y12 y13 y14 y15 y16 y17 y18 y19 y20 y21 y22 y23 y24 y25 y26 y27 y28 y29 y30 y31 y32 y33 y34 y35 y36 y37 y38 y39 y40 y41 y42 y43 y44 y45 y46 y47 y48 y49 y50 y51 y52 y53 y54 y55 y56 y57 y58 y59 y60 y75 y76 y77 y78 y79 y80 y81 y82 y83 y84 X = #[y0, y1, y2, y3, y4, y5, y6, y7, y8, y9, y10, .pointer (some ⟨B, 0, none⟩), y12, y13, y14, y15, y16, y17, y18, y19, y20, y21, y22, y23, y24, y25, y26, y27, y28, y29, y30, y31, y32, y33, y34, y35, y36, y37, y38, y39, y40, y41, y42, y43, y44, y45, y46, y47, y48, y49, y50, y51, y52, y53, y54, y55, y56, y57, y58, y59, y60, X 61, X 62, X 63, X 64, X 65, X 66, X 67, X 68, X 69, X 70, X 71, X 72, X 73, X 74, y75, y76, y77, y78, y79, y80, y81, y82, y83, y84] := fun _ => rfl
    rw [hT]
    have p0' := Lib.hid p0
    have p1' := Lib.hid p1
    have p2' := Lib.hid p2
    have p3' := Lib.hid p3
    have p4' := Lib.hid p4
    have p5' := Lib.hid p5
    have p6' := Lib.hid p6
    have p7' := Lib.hid p7
    have p8' := Lib.hid p8
    have p9' := Lib.hid p9
    have p10' := Lib.hid p10
    have p11' := Lib.hid p11
    have p12' := Lib.hid p12
    have p13' := Lib.hid p13
    have k0' := Lib.hid k0
    have k1' := Lib.hid k1
    have k2' := Lib.hid k2
    have k3' := Lib.hid k3
    have k4' := Lib.hid k4
    have k5' := Lib.hid k5
    have k6' := Lib.hid k6
    have g' := Lib.hid g
    have bw' := Lib.hid bw
    clear k6 k5 k4 k3 k2 k1 k0 p13 p12 p11 p10 p9 p8 p7 p6 p5 p4 p3 p2 p1 p0 g bw
    have hN' := Lib.hid hN; clear hN; have hl' := Lib.hid hl; clear hl; have h1' := Lib.hid h1; clear h1; have hp' := Lib.hid hp; clear hp; have hK' := Lib.hid hK; clear hK
    go_simp
    have hK := hK'.out; have hN := hN'.out; have hl := hl'.out; have h1 := h1'.out; have hp := hp'.out
    have p0 := p0'.out
    have p1 := p1'.out
    have p2 := p2'.out
    have p3 := p3'.out
    have p4 := p4'.out
    have p5 := p5'.out
    have p6 := p6'.out
    have p7 := p7'.out
    have p8 := p8'.out
    have p9 := p9'.out
    have p10 := p10'.out
    have p11 := p11'.out
    have p12 := p12'.out
    have p13 := p13'.out
    have k0 := k0'.out
    have k1 := k1'.out
    have k2 := k2'.out
    have k3 := k3'.out
    have k4 := k4'.out
    have k5 := k5'.out
    have k6 := k6'.out
    have g := g'.out
    have bw := bw'.out
    refine hK _ _ ⟨by simpa using hl, (upd X 74 (.pointer (some ⟨B, 0, none⟩))), rfl, hN, bw, g.keep (by decide) (fun _ h => h), p0.keep (by decide), p1.keep (by decide), p2.keep (by decide), p3.keep (by decide), p4.keep (by decide), p5.keep (by decide), p6.keep (by decide), p7.keep (by decide), p8.keep (by decide), p9.keep (by decide), p10.keep (by decide), p11.keep (by decide), p12.keep (by decide), PV.made rfl, k0.keep (by decide), k1.keep (by decide), k2.keep (by decide), k3.keep (by decide), k4.keep (by decide), k5.keep (by decide), k6.keep (by decide)⟩
  · rintro l A W ⟨hl, X, rfl, hN, bw, g, p0, p1, p2, p3, p4, p5, p6, p7, p8, p9, p10, p11, p12, p13, k0, k1, k2, k3, k4, k5, k6⟩ h1 hp K hK
    have e12 := p12 (hp ⟨12, .data⟩ (by simp) rfl)
    have e13 := p13 (hp ⟨13, .data⟩ (by simp) rfl)
    have gg := g.there (getD_flip h1)
    obtain ⟨⟨⟨d0, d1, d2, d3, d4, d5, d6, d7, d8, d9, d10⟩, ol⟩, oz⟩ := id gg
    have z0 := oz 0 (by decide)
    have z1 := oz 1 (by decide)
    have z2 := oz 2 (by decide)
    have z3 := oz 3 (by decide)
    have z4 := oz 4 (by decide)
    have z5 := oz 5 (by decide)
    have z6 := oz 6 (by decide)
    have z7 := oz 7 (by decide)
    have z8 := oz 8 (by decide)
    clear oz
    have hT : ∀ X : Nat → Value, rmT B y0 y1 y2 y3 y4 y5 y6 y7 y8 y9 y10 y12 y13 y14 y15 y16 y17 y18 y19 y20 y21 y22 y23 y24 y25 y26 y27 y28 y29 y30 y31 y32 y33 y34 y35 y36 y37 y38 y39 y40 y41 y42 y43 y44 y45 y46 y47 y48 y49 y50 y51 y52 y53 y54 y55 y56 y57 y58 y59 y60 y75 y76 y77 y78 y79 y80 y81 y82 y83 y84 X = #[y0, y1, y2, y3, y4, y5, y6, y7, y8, y9, y10, .pointer (some ⟨B, 0, none⟩), y12, y13, y14, y15, y16, y17, y18, y19, y20, y21, y22, y23, y24, y25, y26, y27, y28, y29, y30, y31, y32, y33, y34, y35, y36, y37, y38, y39, y40, y41, y42, y43, y44, y45, y46, y47, y48, y49, y50, y51, y52, y53, y54, y55, y56, y57, y58, y59, y60, X 61, X 62, X 63, X 64, X 65, X 66, X 67, X 68, X 69, X 70, X 71, X 72, X 73, X 74, y75, y76, y77, y78, y79, y80, y81, y82, y83, y84] := fun _ => rfl
    rw [hT]
    have p0' := Lib.hid p0
    have p1' := Lib.hid p1
    have p2' := Lib.hid p2
    have p3' := Lib.hid p3
    have p4' := Lib.hid p4
    have p5' := Lib.hid p5
    have p6' := Lib.hid p6
    have p7' := Lib.hid p7
    have p8' := Lib.hid p8
    have p9' := Lib.hid p9
    have p10' := Lib.hid p10
    have p11' := Lib.hid p11
    have p12' := Lib.hid p12
    have p13' := Lib.hid p13
    have k0' := Lib.hid k0
    have k1' := Lib.hid k1
    have k2' := Lib.hid k2
    have k3' := Lib.hid k3
    have k4' := Lib.hid k4
    have k5' := Lib.hid k5
    have k6' := Lib.hid k6
    have g' := Lib.hid g
    have bw' := Lib.hid bw
    clear k6 k5 k4 k3 k2 k1 k0 p13 p12 p11 p10 p9 p8 p7 p6 p5 p4 p3 p2 p1 p0 g bw
    have hN' := Lib.hid hN; clear hN; have hl' := Lib.hid hl; clear hl; have h1' := Lib.hid h1; clear h1; have hp' := Lib.hid hp; clear hp; have hK' := Lib.hid hK; clear hK
    have gg' := Lib.hid gg; clear gg
    go_simp
    have hK := hK'.out; have hN := hN'.out; have hl := hl'.out; have h1 := h1'.out; have hp := hp'.out
    have p0 := p0'.out
    have p1 := p1'.out
    have p2 := p2'.out
    have p3 := p3'.out
    have p4 := p4'.out
    have p5 := p5'.out
    have p6 := p6'.out
    have p7 := p7'.out
    have p8 := p8'.out
    have p9 := p9'.out
    have p10 := p10'.out
    have p11 := p11'.out
    have p12 := p12'.out
    have p13 := p13'.out
    have k0 := k0'.out
    have k1 := k1'.out
    have k2 := k2'.out
    have k3 := k3'.out
    have k4 := k4'.out
    have k5 := k5'.out
    have k6 := k6'.out
    have g := g'.out
    have bw := bw'.out
    have gg := gg'.out
    refine hK _ _ ⟨by simpa using hl, (upd (upd X 73 (pnv (mir p.1.1) (mir p.1.2.1) (mir p.1.2.2))) 74 (.pointer (some ⟨B, 0, none⟩))), rfl, (by simpa using hN), GS.out _ bw, MG.put (by rw [hl]; decide) (opf_put gg), p0.keep (by decide), p1.keep (by decide), p2.keep (by decide), p3.keep (by decide), p4.keep (by decide), p5.keep (by decide), p6.keep (by decide), p7.keep (by decide), p8.keep (by decide), p9.keep (by decide), p10.keep (by decide), p11.keep (by decide), PV.made rfl, PV.made rfl, k0.keep (by decide), k1.keep (by decide), k2.keep (by decide), k3.keep (by decide), k4.keep (by decide), k5.keep (by decide), Cl.made (hp ⟨12, .data⟩ (by simp) rfl)⟩
set_option maxRecDepth 100000 in
set_option maxHeartbeats 4000000 in
theorem rm_reg (G : World → Prop) (N : Nat) (p : Pu) (B : Nat) {y0 y1 y2 y3 y4 y5 y6 y7 y8 y9 y10 y12 y13 y14 y15 y16 y17 y18 y19 y20 y21 y22 y23 y24 y25 y26 y27 y28 y29 y30 y31 y32 y33 y34 y35 y36 y37 y38 y39 y40 y41 y42 y43 y44 y45 y46 y47 y48 y49 y50 y51 y52 y53 y54 y55 y56 y57 y58 y59 y60 y75 y76 y77 y78 y79 y80 y81 y82 y83 y84 x61 x62 x63 x64 x65 x66 x67 x68 x69 x70 x71 x72 x73 x74 : Value} {W : World} {Q : Exit → Act → World → Prop} (Z0 : Hid (-4611686018427387904 ≤ p.1.1.2.2 ∧ p.1.1.2.2 ≤ 4611686018427387904)) (Z1 : Hid (-4611686018427387904 ≤ p.1.2.1.2.2 ∧ p.1.2.1.2.2 ≤ 4611686018427387904)) (Z2 : Hid (-4611686018427387904 ≤ p.1.2.2.2.2 ∧ p.1.2.2.2.2 ≤ 4611686018427387904)) (HB : Hid (B < N)) (GI : Hid (∀ W W' : World, Below N W W' → G W → G W')) (GS : Hid (∀ W : World, G W → G (((((((((W.setCell ⟨B, 0, none⟩ (.int .i64 (mir9 p.1).1.1)).setCell ⟨B, 1, none⟩ (.int .i64 (mir9 p.1).1.2.1)).setCell ⟨B, 2, none⟩ (.int .i64 (mir9 p.1).1.2.2)).setCell ⟨B, 3, none⟩ (.int .i64 (mir9 p.1).2.1.1)).setCell ⟨B, 4, none⟩ (.int .i64 (mir9 p.1).2.1.2.1)).setCell ⟨B, 5, none⟩ (.int .i64 (mir9 p.1).2.1.2.2)).setCell ⟨B, 6, none⟩ (.int .i64 (mir9 p.1).2.2.1)).setCell ⟨B, 7, none⟩ (.int .i64 (mir9 p.1).2.2.2.1)).setCell ⟨B, 8, none⟩ (.int .i64 (mir9 p.1).2.2.2.2)))) (hN : N ≤ W.heap.size) (g0 : G W.drew) (o0 : OPF W B p)
    (hK : ∀ (x61 x62 x63 x64 x65 x66 x67 x68 x69 x70 x71 x72 x73 x74 : Value) (W' : World), N ≤ W'.heap.size → G W' → OPF W' B (mir9 p.1, p.2) → Q .normal { tmps := #[y0, y1, y2, y3, y4, y5, y6, y7, y8, y9, y10, .pointer (some ⟨B, 0, none⟩), y12, y13, y14, y15, y16, y17, y18, y19, y20, y21, y22, y23, y24, y25, y26, y27, y28, y29, y30, y31, y32, y33, y34, y35, y36, y37, y38, y39, y40, y41, y42, y43, y44, y45, y46, y47, y48, y49, y50, y51, y52, y53, y54, y55, y56, y57, y58, y59, y60, x61, x62, x63, x64, x65, x66, x67, x68, x69, x70, x71, x72, x73, x74, y75, y76, y77, y78, y79, y80, y81, y82, y83, y84], defers := [] } W') :
    Code.wp Tryz.prog (.region 17 rmOps true) Q { tmps := #[y0, y1, y2, y3, y4, y5, y6, y7, y8, y9, y10, .pointer (some ⟨B, 0, none⟩), y12, y13, y14, y15, y16, y17, y18, y19, y20, y21, y22, y23, y24, y25, y26, y27, y28, y29, y30, y31, y32, y33, y34, y35, y36, y37, y38, y39, y40, y41, y42, y43, y44, y45, y46, y47, y48, y49, y50, y51, y52, y53, y54, y55, y56, y57, y58, y59, y60, x61, x62, x63, x64, x65, x66, x67, x68, x69, x70, x71, x72, x73, x74, y75, y76, y77, y78, y79, y80, y81, y82, y83, y84], defers := [] } W := by
  refine wp_region_inv (rmI G N p B y0 y1 y2 y3 y4 y5 y6 y7 y8 y9 y10 y12 y13 y14 y15 y16 y17 y18 y19 y20 y21 y22 y23 y24 y25 y26 y27 y28 y29 y30 y31 y32 y33 y34 y35 y36 y37 y38 y39 y40 y41 y42 y43 y44 y45 y46 y47 y48 y49 y50 y51 y52 y53 y54 y55 y56 y57 y58 y59 y60 y75 y76 y77 y78 y79 y80 y81 y82 y83 y84) (by kernel_rfl) ?_ (rm_steps G N p B y0 y1 y2 y3 y4 y5 y6 y7 y8 y9 y10 y12 y13 y14 y15 y16 y17 y18 y19 y20 y21 y22 y23 y24 y25 y26 y27 y28 y29 y30 y31 y32 y33 y34 y35 y36 y37 y38 y39 y40 y41 y42 y43 y44 y45 y46 y47 y48 y49 y50 y51 y52 y53 y54 y55 y56 y57 y58 y59 y60 y75 y76 y77 y78 y79 y80 y81 y82 y83 y84 Q Z0 Z1 Z2 HB GI GS) ?_
  · exact ⟨by simp [rmOps], fun i => (#[x61, x62, x63, x64, x65, x66, x67, x68, x69, x70, x71, x72, x73, x74] : Array Value).getD (i - 61) undef, rfl, hN, g0, MG.nought (opf_drew o0), PV.nought, PV.nought, PV.nought, PV.nought, PV.nought, PV.nought, PV.nought, PV.nought, PV.nought, PV.nought, PV.nought, PV.nought, PV.nought, PV.nought, Cl.nought, Cl.nought, Cl.nought, Cl.nought, Cl.nought, Cl.nought, Cl.nought⟩
  · rintro l A W ⟨hl, X, rfl, hN, bw, g, p0, p1, p2, p3, p4, p5, p6, p7, p8, p9, p10, p11, p12, p13, k0, k1, k2, k3, k4, k5, k6⟩ hr
    unfold rmOps at hr
    have l0 := ready_end hr 0 (by rw [hl]; decide) rfl (fun e he _ => by
      simp at he
      (try (repeat (rcases he with rfl | he; · assumption)))
      (try (first | (subst he; assumption) | exact he.elim)))
    have l1 := ready_end hr 1 (by rw [hl]; decide) rfl (fun e he _ => by
      simp at he
      (try (repeat (rcases he with rfl | he; · assumption)))
      (try (first | (subst he; assumption) | exact he.elim)))
    have l2 := ready_end hr 2 (by rw [hl]; decide) rfl (fun e he _ => by
      simp at he
      (try (repeat (rcases he with rfl | he; · assumption)))
      (try (first | (subst he; assumption) | exact he.elim)))
    have l3 := ready_end hr 3 (by rw [hl]; decide) rfl (fun e he _ => by
      simp at he
      (try (repeat (rcases he with rfl | he; · assumption)))
      (try (first | (subst he; assumption) | exact he.elim)))
    have l4 := ready_end hr 4 (by rw [hl]; decide) rfl (fun e he _ => by
      simp at he
      (try (repeat (rcases he with rfl | he; · assumption)))
      (try (first | (subst he; assumption) | exact he.elim)))
    have l5 := ready_end hr 5 (by rw [hl]; decide) rfl (fun e he _ => by
      simp at he
      (try (repeat (rcases he with rfl | he; · assumption)))
      (try (first | (subst he; assumption) | exact he.elim)))
    have l6 := ready_end hr 6 (by rw [hl]; decide) rfl (fun e he _ => by
      simp at he
      (try (repeat (rcases he with rfl | he; · assumption)))
      (try (first | (subst he; assumption) | exact he.elim)))
    have l7 := ready_end hr 7 (by rw [hl]; decide) rfl (fun e he _ => by
      simp at he
      (try (repeat (rcases he with rfl | he; · assumption)))
      (try (first | (subst he; assumption) | exact he.elim)))
    have l8 := ready_end hr 8 (by rw [hl]; decide) rfl (fun e he _ => by
      simp at he
      (try (repeat (rcases he with rfl | he; · assumption)))
      (try (first | (subst he; assumption) | exact he.elim)))
    have l9 := ready_end hr 9 (by rw [hl]; decide) rfl (fun e he _ => by
      simp at he
      (try (repeat (rcases he with rfl | he; · assumption)))
      (try (first | (subst he; assumption) | exact he.elim)))
    have l10 := ready_end hr 10 (by rw [hl]; decide) rfl (fun e he _ => by
      simp at he
      (try (repeat (rcases he with rfl | he; · assumption)))
      (try (first | (subst he; assumption) | exact he.elim)))
    have l11 := ready_end hr 11 (by rw [hl]; decide) rfl (fun e he _ => by
      simp at he
      (try (repeat (rcases he with rfl | he; · assumption)))
      (try (first | (subst he; assumption) | exact he.elim)))
    have l12 := ready_end hr 12 (by rw [hl]; decide) rfl (fun e he _ => by
      simp at he
      (try (repeat (rcases he with rfl | he; · assumption)))
      (try (first | (subst he; assumption) | exact he.elim)))
    have l13 := ready_end hr 13 (by rw [hl]; decide) rfl (fun e he _ => by
      simp at he
      (try (repeat (rcases he with rfl | he; · assumption)))
      (try (first | (subst he; assumption) | exact he.elim)))
    have l14 := ready_end hr 14 (by rw [hl]; decide) rfl (fun e he _ => by
      simp at he
      (try (repeat (rcases he with rfl | he; · assumption)))
      (try (first | (subst he; assumption) | exact he.elim)))
    exact hK (X 61) (X 62) (X 63) (X 64) (X 65) (X 66) (X 67) (X 68) (X 69) (X 70) (X 71) (X 72) (X 73) (X 74) W hN bw (g.1 l14)

end Go.Proofs.YtemchbdlckcmkaaGreat
namespace Go.Proofs.YtemchbdlckcmkaaGreat
open Go.ChangeShapes Go.WideShapes Go.RowKit
open Sh
theorem rims_v (a : Option Addr) (n c : Nat) (s : Bool) (vc : Int) (w : World) (V : Hid (∀ W, Below w.heap.size w W → Calls Tryz.prog 23 #[.slice a n c] W fun e w' => e = .returned (.int .i64 vc) ∧ Below W.heap.size W w')) (z : (vc != 0) = true) : Calls Tryz.prog 38 #[.slice a n c, .bool s] w fun e w' => e = .returned (.tuple #[.slice none 0 0, .int .i64 vc]) ∧ Below w.heap.size w w' := by
  go_enter Tryz.func38, Tryz.ntmps38
  go_wp2_with fail
  refine (V.out _ (Below.refl _ w)).mono ?_
  rintro e w1 ⟨rfl, hb1⟩
  go_wp2
  go_ret2
  exact ⟨rfl, by (repeat' (first | exact Below.refl _ _ | refine bstep ?_ hb1 | refine Below.setCell ?_ (by simp <;> omega) _ | refine balloc ?_ _ | refine Below.drew ?_ | refine bdrewN ?_ _))⟩
set_option maxRecDepth 100000 in
set_option maxHeartbeats 2000000 in
theorem rims_b (b off n c : Nat) (s : Bool) (Q : Nat → Pu) (w : World) (V : Hid (∀ W, Below w.heap.size w W → Calls Tryz.prog 23 #[.slice (some ⟨b, off, none⟩) n c] W fun e w' => e = .returned (.int .i64 0) ∧ Below W.heap.size W w')) (r : RowU w b off n Q) (hn : n ≤ 16) (hy : anyB Q n = true) : Calls Tryz.prog 38 #[.slice (some ⟨b, off, none⟩) n c, .bool s] w fun e w' => e = .returned (.tuple #[.slice none 0 0, .int .i64 1]) ∧ Below w.heap.size w w' := by
  have hn' : (n : Int) ≤ 16 := by omega
  have R := Lib.hid r
  have hbl := r.1
  clear r
  go_enter Tryz.func38, Tryz.ntmps38
  go_wp2_with fail
  refine (V.out _ (Below.refl _ w)).mono ?_
  rintro e w1 ⟨rfl, hb1⟩
  have BB := Lib.hid hb1
  clear hb1
  go_wp2
  go_loopw [7] (fun kv wr => ∃ k : Nat, k ≤ n ∧ kv = .int .i64 k ∧ anyB Q k = false ∧ Below w.heap.size w wr) (fun kv _ => n - (intOf kv).toNat)
  case atStart => exact ⟨0, Nat.zero_le _, rfl, rfl, BB.out⟩
  case round =>
    clear BB
    obtain ⟨k, hk, rfl, good, hbb⟩ := hrel
    have GOOD := Lib.hid good
    have BB := Lib.hid hbb
    clear good hbb
    by_cases hlt : k < n
    · have hk1 : (k : Int) < (n : Int) := by omega
      have r2 := rowU_in R.out BB.out hbl
      obtain ⟨c0, c1, c2, c3, c4, c5, c6, c7, c8, c9, c10⟩ := r2.2 k hlt
      have r5 := r2.1
      clear r2
      have HIT := Lib.hid (fun h : bhB (Q k) = true => anyB_hit h hlt)
      have NEXT := Lib.hid (fun h : bhB (Q k) = false => anyB_next GOOD.out h)
      generalize Q k = q at *
      have hB := BB.out
      by_cases zz : bhB q = true
      · have A1 := HIT.out zz
        clear HIT NEXT
        clear A1
        by_cases y1 : q.1.1.2.2 < 0
        · go_wp2
          go_ret2
          exact ⟨rfl, by (repeat' (first | exact Below.refl _ _ | refine bstep ?_ hB | refine Below.setCell ?_ (by simp <;> omega) _ | refine balloc ?_ _ | refine Below.drew ?_ | refine bdrewN ?_ _))⟩
        · by_cases y2 : q.1.2.1.2.2 < 0
          · go_wp2
            go_ret2
            exact ⟨rfl, by (repeat' (first | exact Below.refl _ _ | refine bstep ?_ hB | refine Below.setCell ?_ (by simp <;> omega) _ | refine balloc ?_ _ | refine Below.drew ?_ | refine bdrewN ?_ _))⟩
          · have y3 : q.1.2.2.2.2 < 0 := by have := bhB_iff.1 zz; omega
            go_wp2
            go_ret2
            exact ⟨rfl, by (repeat' (first | exact Below.refl _ _ | refine bstep ?_ hB | refine Below.setCell ?_ (by simp <;> omega) _ | refine balloc ?_ _ | refine Below.drew ?_ | refine bdrewN ?_ _))⟩
      · have zf : bhB q = false := Bool.eq_false_iff.2 zz
        have NX := Lib.hid (NEXT.out zf)
        clear HIT NEXT
        have n3 : ¬ (q.1.1.2.2 < 0 ∨ q.1.2.1.2.2 < 0 ∨ q.1.2.2.2.2 < 0) := fun h => zz (bhB_iff.2 h)
        have y1 : ¬ q.1.1.2.2 < 0 := fun h => n3 (Or.inl h)
        have y2 : ¬ q.1.2.1.2.2 < 0 := fun h => n3 (Or.inr (Or.inl h))
        have y3 : ¬ q.1.2.2.2.2 < 0 := fun h => n3 (Or.inr (Or.inr h))
        clear n3 zz zf
        go_wp2
        go_roundw
        case rel => exact ⟨k + 1, by omega, by go_num, NX.out, by (repeat' (first | exact Below.refl _ _ | refine bstep ?_ hB | refine Below.setCell ?_ (by simp <;> omega) _ | refine balloc ?_ _ | refine Below.drew ?_ | refine bdrewN ?_ _))⟩
        case measure => simp [intOf]; omega
    · obtain rfl : k = n := by omega
      have g := GOOD.out
      rw [hy] at g
      cases g
set_option maxRecDepth 100000 in
set_option maxHeartbeats 2000000 in
theorem rims_l (b off n c : Nat) (s : Bool) (Q : Nat → Pu) (w : World) (V : Hid (∀ W, Below w.heap.size w W → Calls Tryz.prog 23 #[.slice (some ⟨b, off, none⟩) n c] W fun e w' => e = .returned (.int .i64 0) ∧ Below W.heap.size W w')) (r : RowU w b off n Q) (hn : n ≤ 16) (h8 : 8 < n) (hy : anyB Q n = false) : Calls Tryz.prog 38 #[.slice (some ⟨b, off, none⟩) n c, .bool s] w fun e w' => e = .returned (.tuple #[.slice none 0 0, .int .i64 4]) ∧ Below w.heap.size w w' := by
  have h1 : (8 : Int) < n := by omega
  have hn' : (n : Int) ≤ 16 := by omega
  have R := Lib.hid r
  have hbl := r.1
  clear r
  go_enter Tryz.func38, Tryz.ntmps38
  go_wp2_with fail
  refine (V.out _ (Below.refl _ w)).mono ?_
  rintro e w1 ⟨rfl, hb1⟩
  have BB := Lib.hid hb1
  clear hb1
  go_wp2
  go_loopw [7] (fun kv wr => ∃ k : Nat, k ≤ n ∧ kv = .int .i64 k ∧ anyB Q k = false ∧ Below w.heap.size w wr) (fun kv _ => n - (intOf kv).toNat)
  case atStart => exact ⟨0, Nat.zero_le _, rfl, rfl, BB.out⟩
  case round =>
    clear BB
    obtain ⟨k, hk, rfl, good, hbb⟩ := hrel
    have GOOD := Lib.hid good
    have BB := Lib.hid hbb
    clear good hbb
    by_cases hlt : k < n
    · have hk1 : (k : Int) < (n : Int) := by omega
      have r2 := rowU_in R.out BB.out hbl
      obtain ⟨c0, c1, c2, c3, c4, c5, c6, c7, c8, c9, c10⟩ := r2.2 k hlt
      have r5 := r2.1
      clear r2
      have HIT := Lib.hid (fun h : bhB (Q k) = true => anyB_hit h hlt)
      have NEXT := Lib.hid (fun h : bhB (Q k) = false => anyB_next GOOD.out h)
      generalize Q k = q at *
      have hB := BB.out
      by_cases zz : bhB q = true
      · have A1 := HIT.out zz
        clear HIT NEXT
        rw [hy] at A1
        cases A1
      · have zf : bhB q = false := Bool.eq_false_iff.2 zz
        have NX := Lib.hid (NEXT.out zf)
        clear HIT NEXT
        have n3 : ¬ (q.1.1.2.2 < 0 ∨ q.1.2.1.2.2 < 0 ∨ q.1.2.2.2.2 < 0) := fun h => zz (bhB_iff.2 h)
        have y1 : ¬ q.1.1.2.2 < 0 := fun h => n3 (Or.inl h)
        have y2 : ¬ q.1.2.1.2.2 < 0 := fun h => n3 (Or.inr (Or.inl h))
        have y3 : ¬ q.1.2.2.2.2 < 0 := fun h => n3 (Or.inr (Or.inr h))
        clear n3 zz zf
        go_wp2
        go_roundw
        case rel => exact ⟨k + 1, by omega, by go_num, NX.out, by (repeat' (first | exact Below.refl _ _ | refine bstep ?_ hB | refine Below.setCell ?_ (by simp <;> omega) _ | refine balloc ?_ _ | refine Below.drew ?_ | refine bdrewN ?_ _))⟩
        case measure => simp [intOf]; omega
    · obtain rfl : k = n := by omega
      have hB := BB.out
      go_wp2
      go_ret2
      exact ⟨rfl, by (repeat' (first | exact Below.refl _ _ | refine bstep ?_ hB | refine Below.setCell ?_ (by simp <;> omega) _ | refine balloc ?_ _ | refine Below.drew ?_ | refine bdrewN ?_ _))⟩

end Go.Proofs.YtemchbdlckcmkaaGreat
namespace Go.Proofs.YtemchbdlckcmkaaGreat
open Go.ChangeShapes Go.WideShapes Go.RowKit
open Sh
theorem own_in9 {w w1 : World} {N base : Nat} {e : TypeId} {n : Nat} {v : Value} {k : Nat} {xs : List Value} (h : w.ownsRow base e n v k xs) (hb : Below N w w1) (hg : ∀ g, v.ownBlock = some g → g < N) : w1.ownsRow base e n v k xs := by
  refine ⟨h.1, ?_⟩
  rcases h.2 with hn | ⟨g, cap, cur, rfl, hg', hgg, rest⟩
  · exact .inl hn
  · exact .inr ⟨g, cap, cur, rfl, hg', by rw [hb.block g (hg g rfl)]; exact hgg, rest⟩
/-- what the region holds besides: the list so far -/
def GIr (w : World) (B : Nat) (v : Value) (n : Nat) (xs : List Value) (W : World) : Prop := Below w.heap.size w W ∧ W.ownsRow w.heap.size 46 11 v n xs ∧ ∀ g, v.ownBlock = some g → g < B
theorem gir_in {w W W' : World} {B : Nat} {v : Value} {n : Nat} {xs : List Value} (h : GIr w B v n xs W) (hs : w.heap.size ≤ B) (hb : Below B W W') : GIr w B v n xs W' := ⟨h.1.trans (hb.mono hs), own_in9 h.2.1 hb h.2.2, h.2.2⟩
set_option maxRecDepth 100000 in
set_option maxHeartbeats 2000000 in
theorem rims_rf (b off n c : Nat) (Q : Nat → Pu) (w : World) (V : Hid (∀ W, Below w.heap.size w W → Calls Tryz.prog 23 #[.slice (some ⟨b, off, none⟩) n c] W fun e w' => e = .returned (.int .i64 0) ∧ Below W.heap.size W w')) (r : RowU w b off n Q) (hn : n ≤ 8) (hy : anyB Q n = false) (hq : ∀ k, k < n → (-4611686018427387904 ≤ (Q k).1.1.2.2 ∧ (Q k).1.1.2.2 ≤ 4611686018427387904) ∧ (-4611686018427387904 ≤ (Q k).1.2.1.2.2 ∧ (Q k).1.2.1.2.2 ≤ 4611686018427387904) ∧ (-4611686018427387904 ≤ (Q k).1.2.2.2.2 ∧ (Q k).1.2.2.2.2 ≤ 4611686018427387904) ∧ -4611686018427387904 ≤ (Q k).2.2 ∧ (Q k).2.2 ≤ 4611686018427387904) : Calls Tryz.prog 38 #[.slice (some ⟨b, off, none⟩) n c, .bool false] w fun e w' => ∃ v, e = .returned (.tuple #[v, .int .i64 0]) ∧ w'.ownsRow w.heap.size 46 11 v (n + n) (pucs (bth false Q n) (n + n)) ∧ Below w.heap.size w w' := by
  obtain ⟨i0, hi, hz0, hz1, hz2⟩ := info_parts infoPu8
  have HI := Lib.hid hi
  have HZ0 := Lib.hid hz0
  have HZ1 := Lib.hid hz1
  have HZ2 := Lib.hid hz2
  have HQ := Lib.hid hq
  clear hq hi hz0 hz1 hz2
  have hn' : (n : Int) ≤ 16 := by omega
  have R := Lib.hid r
  have hbl := r.1
  clear r
  go_enter Tryz.func38, Tryz.ntmps38
  go_wp2_with fail
  refine (V.out _ (Below.refl _ w)).mono ?_
  rintro e w1 ⟨rfl, hb1⟩
  have BB := Lib.hid hb1
  clear hb1
  go_wp2
  go_loopw [7] (fun kv wr => ∃ k : Nat, k ≤ n ∧ kv = .int .i64 k ∧ anyB Q k = false ∧ Below w.heap.size w wr) (fun kv _ => n - (intOf kv).toNat)
  case atStart => exact ⟨0, Nat.zero_le _, rfl, rfl, BB.out⟩
  case round =>
    clear BB
    obtain ⟨k, hk, rfl, good, hbb⟩ := hrel
    have GOOD := Lib.hid good
    have BB := Lib.hid hbb
    clear good hbb
    by_cases hlt : k < n
    · have hk1 : (k : Int) < (n : Int) := by omega
      have r2 := rowU_in R.out BB.out hbl
      obtain ⟨c0, c1, c2, c3, c4, c5, c6, c7, c8, c9, c10⟩ := r2.2 k hlt
      have r5 := r2.1
      clear r2
      have HIT := Lib.hid (fun h : bhB (Q k) = true => anyB_hit h hlt)
      have NEXT := Lib.hid (fun h : bhB (Q k) = false => anyB_next GOOD.out h)
      generalize Q k = q at *
      have hB := BB.out
      by_cases zz : bhB q = true
      · have A1 := HIT.out zz
        clear HIT NEXT
        rw [hy] at A1
        cases A1
      · have zf : bhB q = false := Bool.eq_false_iff.2 zz
        have NX := Lib.hid (NEXT.out zf)
        clear HIT NEXT
        have n3 : ¬ (q.1.1.2.2 < 0 ∨ q.1.2.1.2.2 < 0 ∨ q.1.2.2.2.2 < 0) := fun h => zz (bhB_iff.2 h)
        have y1 : ¬ q.1.1.2.2 < 0 := fun h => n3 (Or.inl h)
        have y2 : ¬ q.1.2.1.2.2 < 0 := fun h => n3 (Or.inr (Or.inl h))
        have y3 : ¬ q.1.2.2.2.2 < 0 := fun h => n3 (Or.inr (Or.inr h))
        clear n3 zz zf
        go_wp2
        go_roundw
        case rel => exact ⟨k + 1, by omega, by go_num, NX.out, by (repeat' (first | exact Below.refl _ _ | refine bstep ?_ hB | refine Below.setCell ?_ (by simp <;> omega) _ | refine balloc ?_ _ | refine Below.drew ?_ | refine bdrewN ?_ _))⟩
        case measure => simp [intOf]; omega
    · obtain rfl : k = n := by omega
      have W1 := BB.out
      clear BB GOOD
      have RM := Lib.hid (fun o => rowU_mem (row_allocU (rowU_in R.out W1 hbl) o))
      have OE := Lib.hid (World.ownsRow_lit (base := w.heap.size) (e := 46) (size := 11) wr #[] 0 W1.size (by unfold maxLen; omega) rfl)
      have szr := W1.size
      go_wp2_with (at_builtin; go_loud (refine wpList_append_own _ rfl _ _ 22 rfl w.heap.size 46 i0 (.agg #[.int .i64 0, .int .i64 0, .int .i64 0, .int .i64 0, .int .i64 0, .int .i64 0, .int .i64 0, .int .i64 0, .int .i64 0, .int .i64 0, .int .i64 0]) 11 88 Tryz.underlying22 HI.out HZ0.out HZ1.out HZ2.out rfl (by decide) _ 0 [] rfl OE.out ⟨b, off, none⟩ k c (pucs Q k) rfl (pucs_len Q k) (RM.out _) (pucs_one Q k) (by unfold maxLen; omega) (by omega) (by simp; omega) ?_); intro v' w2 hown' hgrow _; have OW := Lib.hid hown'; have GR := Lib.hid hgrow; clear hown' hgrow)
      have BB := Lib.hid (show Below w.heap.size w w2 from W1.trans (((Below.refl w.heap.size wr).alloc szr _).grown GR.out (by simp; omega) (fun gg hg => (OE.out.lt gg hg).1)))
      have OW0 := Lib.hid (show w2.ownsRow w.heap.size 46 11 v' (k + 0) (pucs (bth false Q k) (k + 0)) by have z := OW.out; rw [Nat.zero_add, List.nil_append] at z; rw [Nat.add_zero, bth_zero]; exact z)
      clear OW GR OE RM W1 szr
      clear V
      go_loopw [9, 10] (fun sv kv wr => ∃ m : Nat, m ≤ k ∧ kv = .int .i64 m ∧ wr.ownsRow w.heap.size 46 11 sv (k + m) (pucs (bth false Q k) (k + m)) ∧ Below w.heap.size w wr) (fun _ kv _ => k - (intOf kv).toNat)
      case atStart => exact ⟨0, Nat.zero_le _, rfl, OW0.out, BB.out⟩
      case round =>
        clear OW0 BB
        obtain ⟨m, hm, rfl, how, hbb⟩ := hrel
        have OW := Lib.hid how
        have BB := Lib.hid hbb
        clear how hbb
        by_cases hlt2 : m < k
        · have hk1 : (m : Int) < (k : Int) := by omega
          have r2 := rowU_in R.out BB.out hbl
          obtain ⟨c0, c1, c2, c3, c4, c5, c6, c7, c8, c9, c10⟩ := r2.2 m hlt2
          have r5 := r2.1
          clear r2
          have ZZ := Lib.hid (HQ.out m hlt2)
          have GS := Lib.hid (bth_next false Q k m)
          have szw := BB.out.size
          generalize Q m = q at *
          obtain ⟨z0, z1, z2, q1, q2⟩ := ZZ.out
          have GIV := Lib.hid (show GIr w wr.heap.size u9 (k + m) (pucs (bth false Q k) (k + m)) wr from ⟨BB.out, OW.out, fun g hg => (OW.out.lt g hg).2⟩)
          go_wp2_with fail
          rename_i K9 hK9
          have HK := Lib.hid hK9
          clear hK9
          clear c0 c1 c2 c3 c4 c5 c6 c7 c8 c9 c10
          refine rm_reg (GIr w wr.heap.size u9 (k + m) (pucs (bth false Q k) (k + m))) (wr.heap.size + 1) q wr.heap.size (Lib.hid z0) (Lib.hid z1) (Lib.hid z2) (Lib.hid (by omega)) (Lib.hid fun W W' hb h => gir_in h szw (hb.mono (by omega))) (Lib.hid fun W h => gir_in h szw (below_put9 (Nat.le_refl _))) (by simp) (gir_in GIV.out szw (Below.drew ((Below.refl _ _).alloc (Nat.le_refl _) _))) (opf_new wr q _) ?_
          intro x61 x62 x63 x64 x65 x66 x67 x68 x69 x70 x71 x72 x73 x74 w5 hN5 g5 o5
          obtain ⟨q2', hq2⟩ : ∃ q2, (mir9 q.1, q.2) = q2 := ⟨_, rfl⟩
          rw [hq2] at o5
          have GQ : img false q = (q2'.1, q2'.2.1, q2'.2.2) := by rw [← hq2]; rfl
          have b1 : -4611686018427387904 ≤ q2'.2.2 := by rw [← hq2]; exact q1
          have b2 : q2'.2.2 ≤ 4611686018427387904 := by rw [← hq2]; exact q2
          rw [GQ] at GS
          clear hq2 GQ z0 z1 z2 q1 q2 ZZ GIV
          obtain ⟨⟨⟨d0, d1, d2, d3, d4, d5, d6, d7, d8, d9, d10⟩, dl⟩, dz⟩ := o5
          have f10 := dz 10 (by decide)
          have OW5 := Lib.hid (own_below9 (w1 := w5) g5.2.1 (Below.refl _ _))
          have GW := Lib.hid (show GIr w wr.heap.size u9 (k + m) (pucs (bth false Q k) (k + m)) w5 from g5)
          have sz5 : w.heap.size ≤ w5.heap.size := g5.1.size
          clear dz g5 OW5
          refine HK.out _ _ ?_
          clear HK
          go_wp2_with (at_builtin; go_loud (refine wpList_append_own _ rfl _ _ 22 rfl w.heap.size 46 i0 (.agg #[.int .i64 0, .int .i64 0, .int .i64 0, .int .i64 0, .int .i64 0, .int .i64 0, .int .i64 0, .int .i64 0, .int .i64 0, .int .i64 0, .int .i64 0]) 11 88 Tryz.underlying22 HI.out HZ0.out HZ1.out HZ2.out rfl (by decide) _ (k + m) (pucs (bth false Q k) (k + m)) rfl (World.ownsRow.alloc GW.out.2.1 _) ⟨_, 0, none⟩ 1 1 (pucl (q2'.1, q2'.2.1, q2'.2.2)) rfl rfl (pu_new8' _ _ _ _ (by simp)) (pucl_one _) (by unfold maxLen; omega) (by omega) (by simp; omega) ?_); intro v6 w6 hown' hgrow _; have O2 := Lib.hid hown'; have GR := Lib.hid hgrow; clear hown' hgrow)
          have BG := Lib.hid ((GW.out.1.alloc (by first | omega | (simp; omega)) _).grown GR.out (by simp; omega) (fun gg hg => (GW.out.2.1.lt gg hg).1))
          go_roundw
          case rel => exact ⟨m + 1, by omega, by go_num, by rw [show k + (m + 1) = k + m + 1 by omega, GS.out]; exact O2.out, BG.out⟩
          case measure => simp [intOf]; omega
        · obtain rfl : m = k := by omega
          go_wp2
          go_ret2
          exact ⟨_, rfl, OW.out, BB.out⟩
set_option maxRecDepth 100000 in
set_option maxHeartbeats 2000000 in
theorem rims_rt (b off n c : Nat) (Q : Nat → Pu) (w : World) (V : Hid (∀ W, Below w.heap.size w W → Calls Tryz.prog 23 #[.slice (some ⟨b, off, none⟩) n c] W fun e w' => e = .returned (.int .i64 0) ∧ Below W.heap.size W w')) (r : RowU w b off n Q) (hn : n ≤ 8) (hy : anyB Q n = false) (hq : ∀ k, k < n → (-4611686018427387904 ≤ (Q k).1.1.2.2 ∧ (Q k).1.1.2.2 ≤ 4611686018427387904) ∧ (-4611686018427387904 ≤ (Q k).1.2.1.2.2 ∧ (Q k).1.2.1.2.2 ≤ 4611686018427387904) ∧ (-4611686018427387904 ≤ (Q k).1.2.2.2.2 ∧ (Q k).1.2.2.2.2 ≤ 4611686018427387904) ∧ -4611686018427387904 ≤ (Q k).2.2 ∧ (Q k).2.2 ≤ 4611686018427387904) : Calls Tryz.prog 38 #[.slice (some ⟨b, off, none⟩) n c, .bool true] w fun e w' => ∃ v, e = .returned (.tuple #[v, .int .i64 0]) ∧ w'.ownsRow w.heap.size 46 11 v (n + n) (pucs (bth true Q n) (n + n)) ∧ Below w.heap.size w w' := by
  obtain ⟨i0, hi, hz0, hz1, hz2⟩ := info_parts infoPu8
  have HI := Lib.hid hi
  have HZ0 := Lib.hid hz0
  have HZ1 := Lib.hid hz1
  have HZ2 := Lib.hid hz2
  have HQ := Lib.hid hq
  clear hq hi hz0 hz1 hz2
  have hn' : (n : Int) ≤ 16 := by omega
  have R := Lib.hid r
  have hbl := r.1
  clear r
  go_enter Tryz.func38, Tryz.ntmps38
  go_wp2_with fail
  refine (V.out _ (Below.refl _ w)).mono ?_
  rintro e w1 ⟨rfl, hb1⟩
  have BB := Lib.hid hb1
  clear hb1
  go_wp2
  go_loopw [7] (fun kv wr => ∃ k : Nat, k ≤ n ∧ kv = .int .i64 k ∧ anyB Q k = false ∧ Below w.heap.size w wr) (fun kv _ => n - (intOf kv).toNat)
  case atStart => exact ⟨0, Nat.zero_le _, rfl, rfl, BB.out⟩
  case round =>
    clear BB
    obtain ⟨k, hk, rfl, good, hbb⟩ := hrel
    have GOOD := Lib.hid good
    have BB := Lib.hid hbb
    clear good hbb
    by_cases hlt : k < n
    · have hk1 : (k : Int) < (n : Int) := by omega
      have r2 := rowU_in R.out BB.out hbl
      obtain ⟨c0, c1, c2, c3, c4, c5, c6, c7, c8, c9, c10⟩ := r2.2 k hlt
      have r5 := r2.1
      clear r2
      have HIT := Lib.hid (fun h : bhB (Q k) = true => anyB_hit h hlt)
      have NEXT := Lib.hid (fun h : bhB (Q k) = false => anyB_next GOOD.out h)
      generalize Q k = q at *
      have hB := BB.out
      by_cases zz : bhB q = true
      · have A1 := HIT.out zz
        clear HIT NEXT
        rw [hy] at A1
        cases A1
      · have zf : bhB q = false := Bool.eq_false_iff.2 zz
        have NX := Lib.hid (NEXT.out zf)
        clear HIT NEXT
        have n3 : ¬ (q.1.1.2.2 < 0 ∨ q.1.2.1.2.2 < 0 ∨ q.1.2.2.2.2 < 0) := fun h => zz (bhB_iff.2 h)
        have y1 : ¬ q.1.1.2.2 < 0 := fun h => n3 (Or.inl h)
        have y2 : ¬ q.1.2.1.2.2 < 0 := fun h => n3 (Or.inr (Or.inl h))
        have y3 : ¬ q.1.2.2.2.2 < 0 := fun h => n3 (Or.inr (Or.inr h))
        clear n3 zz zf
        go_wp2
        go_roundw
        case rel => exact ⟨k + 1, by omega, by go_num, NX.out, by (repeat' (first | exact Below.refl _ _ | refine bstep ?_ hB | refine Below.setCell ?_ (by simp <;> omega) _ | refine balloc ?_ _ | refine Below.drew ?_ | refine bdrewN ?_ _))⟩
        case measure => simp [intOf]; omega
    · obtain rfl : k = n := by omega
      have W1 := BB.out
      clear BB GOOD
      have RM := Lib.hid (fun o => rowU_mem (row_allocU (rowU_in R.out W1 hbl) o))
      have OE := Lib.hid (World.ownsRow_lit (base := w.heap.size) (e := 46) (size := 11) wr #[] 0 W1.size (by unfold maxLen; omega) rfl)
      have szr := W1.size
      go_wp2_with (at_builtin; go_loud (refine wpList_append_own _ rfl _ _ 22 rfl w.heap.size 46 i0 (.agg #[.int .i64 0, .int .i64 0, .int .i64 0, .int .i64 0, .int .i64 0, .int .i64 0, .int .i64 0, .int .i64 0, .int .i64 0, .int .i64 0, .int .i64 0]) 11 88 Tryz.underlying22 HI.out HZ0.out HZ1.out HZ2.out rfl (by decide) _ 0 [] rfl OE.out ⟨b, off, none⟩ k c (pucs Q k) rfl (pucs_len Q k) (RM.out _) (pucs_one Q k) (by unfold maxLen; omega) (by omega) (by simp; omega) ?_); intro v' w2 hown' hgrow _; have OW := Lib.hid hown'; have GR := Lib.hid hgrow; clear hown' hgrow)
      have BB := Lib.hid (show Below w.heap.size w w2 from W1.trans (((Below.refl w.heap.size wr).alloc szr _).grown GR.out (by simp; omega) (fun gg hg => (OE.out.lt gg hg).1)))
      have OW0 := Lib.hid (show w2.ownsRow w.heap.size 46 11 v' (k + 0) (pucs (bth true Q k) (k + 0)) by have z := OW.out; rw [Nat.zero_add, List.nil_append] at z; rw [Nat.add_zero, bth_zero]; exact z)
      clear OW GR OE RM W1 szr
      clear V
      go_loopw [9, 10] (fun sv kv wr => ∃ m : Nat, m ≤ k ∧ kv = .int .i64 m ∧ wr.ownsRow w.heap.size 46 11 sv (k + m) (pucs (bth true Q k) (k + m)) ∧ Below w.heap.size w wr) (fun _ kv _ => k - (intOf kv).toNat)
      case atStart => exact ⟨0, Nat.zero_le _, rfl, OW0.out, BB.out⟩
      case round =>
        clear OW0 BB
        obtain ⟨m, hm, rfl, how, hbb⟩ := hrel
        have OW := Lib.hid how
        have BB := Lib.hid hbb
        clear how hbb
        by_cases hlt2 : m < k
        · have hk1 : (m : Int) < (k : Int) := by omega
          have r2 := rowU_in R.out BB.out hbl
          obtain ⟨c0, c1, c2, c3, c4, c5, c6, c7, c8, c9, c10⟩ := r2.2 m hlt2
          have r5 := r2.1
          clear r2
          have ZZ := Lib.hid (HQ.out m hlt2)
          have GS := Lib.hid (bth_next true Q k m)
          have szw := BB.out.size
          generalize Q m = q at *
          obtain ⟨z0, z1, z2, q1, q2⟩ := ZZ.out
          have GIV := Lib.hid (show GIr w wr.heap.size u9 (k + m) (pucs (bth true Q k) (k + m)) wr from ⟨BB.out, OW.out, fun g hg => (OW.out.lt g hg).2⟩)
          go_wp2_with fail
          rename_i K9 hK9
          have HK := Lib.hid hK9
          clear hK9
          clear c0 c1 c2 c3 c4 c5 c6 c7 c8 c9 c10
          refine rm_reg (GIr w wr.heap.size u9 (k + m) (pucs (bth true Q k) (k + m))) (wr.heap.size + 1) q wr.heap.size (Lib.hid z0) (Lib.hid z1) (Lib.hid z2) (Lib.hid (by omega)) (Lib.hid fun W W' hb h => gir_in h szw (hb.mono (by omega))) (Lib.hid fun W h => gir_in h szw (below_put9 (Nat.le_refl _))) (by simp) (gir_in GIV.out szw (Below.drew ((Below.refl _ _).alloc (Nat.le_refl _) _))) (opf_new wr q _) ?_
          intro x61 x62 x63 x64 x65 x66 x67 x68 x69 x70 x71 x72 x73 x74 w5 hN5 g5 o5
          obtain ⟨q2', hq2⟩ : ∃ q2, (mir9 q.1, q.2) = q2 := ⟨_, rfl⟩
          rw [hq2] at o5
          have GQ : img true q = (q2'.1, q2'.2.1, -q2'.2.2) := by rw [← hq2]; rfl
          have b1 : -4611686018427387904 ≤ q2'.2.2 := by rw [← hq2]; exact q1
          have b2 : q2'.2.2 ≤ 4611686018427387904 := by rw [← hq2]; exact q2
          rw [GQ] at GS
          clear hq2 GQ z0 z1 z2 q1 q2 ZZ GIV
          obtain ⟨⟨⟨d0, d1, d2, d3, d4, d5, d6, d7, d8, d9, d10⟩, dl⟩, dz⟩ := o5
          have f10 := dz 10 (by decide)
          have OW5 := Lib.hid (own_below9 (w1 := w5) g5.2.1 (Below.refl _ _))
          have GW := Lib.hid (show GIr w wr.heap.size u9 (k + m) (pucs (bth true Q k) (k + m)) (w5.setCell ⟨wr.heap.size, 10, none⟩ (.int .i64 (-q2'.2.2))) from gir_in g5 szw ((Below.refl _ w5).setCell (p := ⟨wr.heap.size, 10, none⟩) (Nat.le_refl _) _))
          have sz5 : w.heap.size ≤ w5.heap.size := g5.1.size
          clear dz g5 OW5
          refine HK.out _ _ ?_
          clear HK
          go_wp2_with (at_builtin; go_loud (refine wpList_append_own _ rfl _ _ 22 rfl w.heap.size 46 i0 (.agg #[.int .i64 0, .int .i64 0, .int .i64 0, .int .i64 0, .int .i64 0, .int .i64 0, .int .i64 0, .int .i64 0, .int .i64 0, .int .i64 0, .int .i64 0]) 11 88 Tryz.underlying22 HI.out HZ0.out HZ1.out HZ2.out rfl (by decide) _ (k + m) (pucs (bth true Q k) (k + m)) rfl (World.ownsRow.alloc GW.out.2.1 _) ⟨_, 0, none⟩ 1 1 (pucl (q2'.1, q2'.2.1, -q2'.2.2)) rfl rfl (pu_new8' _ _ _ _ (by simp)) (pucl_one _) (by unfold maxLen; omega) (by omega) (by simp; omega) ?_); intro v6 w6 hown' hgrow _; have O2 := Lib.hid hown'; have GR := Lib.hid hgrow; clear hown' hgrow)
          have BG := Lib.hid ((GW.out.1.alloc (by first | omega | (simp; omega)) _).grown GR.out (by simp; omega) (fun gg hg => (GW.out.2.1.lt gg hg).1))
          go_roundw
          case rel => exact ⟨m + 1, by omega, by go_num, by rw [show k + (m + 1) = k + m + 1 by omega, GS.out]; exact O2.out, BG.out⟩
          case measure => simp [intOf]; omega
        · obtain rfl : m = k := by omega
          go_wp2
          go_ret2
          exact ⟨_, rfl, OW.out, BB.out⟩

end Go.Proofs.YtemchbdlckcmkaaGreat
namespace Go.Proofs.YtemchbdlckcmkaaGreat
open Go.ChangeShapes Go.WideShapes Go.RowKit
open Sh
set_option maxRecDepth 100000 in
set_option maxHeartbeats 2000000 in
theorem rims_z0 (ad : Addr) (c : Nat) (s : Bool) (w : World) (V : Hid (∀ W, Below w.heap.size w W → Calls Tryz.prog 23 #[.slice (some ad) 0 c] W fun e w' => e = .returned (.int .i64 0) ∧ Below W.heap.size W w')) : Calls Tryz.prog 38 #[.slice (some ad) 0 c, .bool s] w fun e w' => ∃ v, e = .returned (.tuple #[v, .int .i64 0]) ∧ w'.ownsRow w.heap.size 46 11 v 0 [] ∧ Below w.heap.size w w' := by
  obtain ⟨i0, hi, hz0, hz1, hz2⟩ := info_parts infoPu8
  have HI := Lib.hid hi
  have HZ0 := Lib.hid hz0
  have HZ1 := Lib.hid hz1
  have HZ2 := Lib.hid hz2
  have OE := Lib.hid (fun (W : World) h => World.ownsRow_lit (base := w.heap.size) (e := 46) (size := 11) W #[] 0 h (by unfold maxLen; omega) rfl)
  clear hi hz0 hz1 hz2
  go_enter Tryz.func38, Tryz.ntmps38
  go_wp2_with fail
  refine (V.out _ (Below.refl _ w)).mono ?_
  rintro e w1 ⟨rfl, hb1⟩
  go_wp2
  refine wp_loop_rounds 1 ?_
  rw [rounds_succ]
  go_wp2_with (at_builtin; go_loud (refine wpList_append_own _ rfl _ _ 22 rfl w.heap.size 46 i0 (.agg #[.int .i64 0, .int .i64 0, .int .i64 0, .int .i64 0, .int .i64 0, .int .i64 0, .int .i64 0, .int .i64 0, .int .i64 0, .int .i64 0, .int .i64 0]) 11 88 Tryz.underlying22 HI.out HZ0.out HZ1.out HZ2.out rfl (by decide) _ 0 [] rfl (OE.out _ hb1.size) ad 0 c [] rfl rfl (fun j u hu => by cases hu) (fun u hu => by cases hu) (by unfold maxLen; omega) (by omega) (by have := hb1.size; simp; omega) ?_); intro v' w2 hown' hgrow _; have OW := Lib.hid hown'; have GR := Lib.hid hgrow; clear hown' hgrow)
  refine wp_loop_rounds 1 ?_
  rw [rounds_succ]
  go_wp2
  go_ret2
  have z := OW.out
  rw [Nat.zero_add, List.nil_append] at z
  have BB : Below w.heap.size w w2 := hb1.trans (((Below.refl w.heap.size w1).alloc hb1.size _).grown GR.out (by have := hb1.size; simp; omega) (fun gg hg => ((OE.out w1 hb1.size).lt gg hg).1))
  exact ⟨_, rfl, z, BB⟩
set_option maxRecDepth 100000 in
set_option maxHeartbeats 2000000 in
theorem rims_n (s : Bool) (w : World) (V : Hid (∀ W, Below w.heap.size w W → Calls Tryz.prog 23 #[.slice none 0 0] W fun e w' => e = .returned (.int .i64 0) ∧ Below W.heap.size W w')) : Calls Tryz.prog 38 #[.slice none 0 0, .bool s] w fun e w' => ∃ v, e = .returned (.tuple #[v, .int .i64 0]) ∧ w'.ownsRow w.heap.size 46 11 v 0 [] ∧ Below w.heap.size w w' := by
  have OE := Lib.hid (fun (W : World) h => World.ownsRow_lit (base := w.heap.size) (e := 46) (size := 11) W #[] 0 h (by unfold maxLen; omega) rfl)
  go_enter Tryz.func38, Tryz.ntmps38
  go_wp2_with fail
  refine (V.out _ (Below.refl _ w)).mono ?_
  rintro e w1 ⟨rfl, hb1⟩
  have hsz := hb1.size
  go_wp2
  refine wp_loop_rounds 1 ?_
  rw [rounds_succ]
  go_wp2
  refine wp_loop_rounds 1 ?_
  rw [rounds_succ]
  go_wp2
  go_ret2
  exact ⟨_, rfl, OE.out _ hb1.size, by (repeat' (first | exact Below.refl _ _ | refine bstep ?_ hb1 | refine Below.setCell ?_ (by simp <;> omega) _ | refine balloc ?_ _ | refine Below.drew ?_ | refine bdrewN ?_ _))⟩

end Go.Proofs.YtemchbdlckcmkaaGreat
