/-
  The law's own look at the document's example: it answers true.
-/
import Derived.Test.YtofjnbebipkgkaaDoorMoOf
import Derived.Test.YtofjnbebipkgkaaDoorMoSj
import Derived.Test.YtofjnbebipkgkaaDoorMoAf
namespace Go.Proofs.YtofjnbebipkgkaaDoor
open Go.ChangeShapes Go.WideShapes Go.RowKit
open Sh
/-- the panel of the document's example -/
def exQ : Nat → Ch := fun _ => (((0, 0, 0), (3, 0, 0), (0, 3, 0)), 2)
def exM : Mo := ⟨2, 2, (6, 6, 0), 36, 18, 0, 36, 0, 0⟩
def exS : Mo := ⟨2, 2, (0, 0, 0), 12, -6, 0, 12, 0, 0⟩
theorem ex_code : ocode 1 exQ (0, 0, 0) = 0 := by decide
theorem ex_of : mof (0, 0, 0) exQ 1 = exM := by kernel_rfl
theorem ex_sh : shR exM (1, 1, 0) = (exS, 0) := by kernel_rfl
set_option maxRecDepth 100000 in
/-- six numbers held against themselves -/
theorem same6 (n : Nat) (a0 a1 a2 a3 a4 a5 : Int) (w : World) : (Op.equalIn (n + 1 + 1) 26 (.agg #[.int .i64 a0, .int .i64 a1, .int .i64 a2, .int .i64 a3, .int .i64 a4, .int .i64 a5]) (.agg #[.int .i64 a0, .int .i64 a1, .int .i64 a2, .int .i64 a3, .int .i64 a4, .int .i64 a5])).run Tryd.prog w = .ok true w := by
  obtain ⟨i, hi⟩ : ∃ i, Tryd.prog.info? 3 = some i := by
    cases h : Tryd.prog.info? 3 with
    | none => exact absurd h (by decide +kernel)
    | some i => exact ⟨i, rfl⟩
  have h1 : Tryd.prog.cellsOf 3 = 1 := by kernel_rfl
  rw [run_equalIn_array w (n + 1) _ _ Tryd.underlying26 hi, h1]
  simp [Op.eqItems, List.range, List.range.loop]
  go_simp
theorem ex_row (w : World) (t : TypeId) : RowC (w.alloc (.cells #[.int .i64 0, .int .i64 0, .int .i64 0, .int .i64 3, .int .i64 0, .int .i64 0, .int .i64 0, .int .i64 3, .int .i64 0, .int .i64 2] t)) w.heap.size 0 1 exQ := by
  refine ⟨by simp, fun k hk => ?_⟩
  obtain rfl : k = 0 := by omega
  exact ⟨by go_simp; rfl, by go_simp; rfl, by go_simp; rfl, by go_simp; rfl, by go_simp; rfl, by go_simp; rfl, by go_simp; rfl, by go_simp; rfl, by go_simp; rfl, by go_simp; rfl⟩
theorem of_ex (W : World) (b : Nat) (r : RowC W b 0 1 exQ) (pl : Plc W) : Calls Tryd.prog 5 #[.slice (some ⟨b, 0, none⟩) 1 1, .agg #[.int .i64 0, .int .i64 0, .int .i64 0]] W fun e w' => e = .returned (.tuple #[.agg #[.int .i64 2, .int .i64 2, .int .i64 6, .int .i64 6, .int .i64 0, .int .i64 36, .int .i64 18, .int .i64 0, .int .i64 36, .int .i64 0, .int .i64 0], .int .i64 0]) ∧ Below W.heap.size W w' := by
  have z := of_any (some ⟨b, 0, none⟩) 1 1 exQ (0, 0, 0) W pl (fun _ => ⟨b, 0, rfl, r⟩) (by decide)
  rw [ex_code, if_pos rfl, ex_of] at z
  exact z
theorem sh_ex (W : World) (pl : Plc W) : Calls Tryd.prog 9 #[.agg #[.int .i64 2, .int .i64 2, .int .i64 6, .int .i64 6, .int .i64 0, .int .i64 36, .int .i64 18, .int .i64 0, .int .i64 36, .int .i64 0, .int .i64 0], .agg #[.int .i64 1, .int .i64 1, .int .i64 0]] W fun e w' => e = .returned (.tuple #[.agg #[.int .i64 2, .int .i64 2, .int .i64 0, .int .i64 0, .int .i64 0, .int .i64 12, .int .i64 (-6), .int .i64 0, .int .i64 12, .int .i64 0, .int .i64 0], .int .i64 0]) ∧ Below W.heap.size W w' := by
  have z := mshf_any exM (1, 1, 0) W pl
  rw [ex_sh] at z
  exact z
set_option maxRecDepth 100000 in
set_option maxHeartbeats 1000000 in
theorem sane_any (w : World) (pl : Plc w) : Calls Tryd.prog 4 #[] w fun e w' => e = .returned (.bool true) ∧ Below w.heap.size w w' := by
  have PL := Lib.hid pl
  clear pl
  go_enter Tryd.func4, Tryd.ntmps4
  go_wp2_with fail
  refine (of_ex _ _ (ex_row w _) (plc_alloc PL.out _)).mono ?_
  rintro e w1 ⟨rfl, hb1⟩
  have PL1 := Lib.hid (plc_below (plc_alloc PL.out _) hb1)
  have B1 := Lib.hid (bstep (balloc (Below.refl _ w) _) hb1)
  clear hb1
  go_wp2_with fail
  refine (sh_ex _ (plc_alloc PL1.out _)).mono ?_
  rintro e w2 ⟨rfl, hb2⟩
  have OM := Lib.hid (ownMo_below (ownMo_new w1 exM 28) hb2)
  have B2 := Lib.hid (bstep (balloc B1.out _) hb2)
  clear hb2
  have OM' := OM.out
  simp only [OwnMo, exM] at OM'
  obtain ⟨⟨x0, x1, x2, x3, x4, x5, x6, x7, x8, x9, x10⟩, _, ll⟩ := OM'
  have e6 := same6 9998
  have e7 := same6 9997
  go_wp2
  go_ret
  exact ⟨rfl, by have hB := B2.out; (repeat' (first | exact Below.refl _ _ | refine bstep ?_ hB | refine Below.setCell ?_ (by simp <;> omega) _ | refine balloc ?_ _ | refine Below.drew ?_ | refine bdrewN ?_ _))⟩

end Go.Proofs.YtofjnbebipkgkaaDoor
