/-
  The contracts of Trace, Neutral and of the results that may be too large, in the program and in the document's answer.
-/
import Derived.Test.YtofjnbebipkgkaaDoorCharged
import Derived.ChangeKeysEq
namespace Go.Proofs.YtofjnbebipkgkaaDoor
open Go.ChangeShapes Go.WideShapes Go.RowKit
open Sh
/-- the program's table of the axes, as it stands in memory -/
def Plc (w : World) : Prop := (w.cell? ⟨0, 0, none⟩ = some (.int .i64 0) ∧ w.cell? ⟨0, 1, none⟩ = some (.int .i64 0) ∧ w.cell? ⟨0, 2, none⟩ = some (.int .i64 0) ∧ w.cell? ⟨0, 3, none⟩ = some (.int .i64 1) ∧ w.cell? ⟨0, 4, none⟩ = some (.int .i64 0) ∧ w.cell? ⟨0, 5, none⟩ = some (.int .i64 2) ∧ w.cell? ⟨0, 6, none⟩ = some (.int .i64 1) ∧ w.cell? ⟨0, 7, none⟩ = some (.int .i64 1) ∧ w.cell? ⟨0, 8, none⟩ = some (.int .i64 1) ∧ w.cell? ⟨0, 9, none⟩ = some (.int .i64 2) ∧ w.cell? ⟨0, 10, none⟩ = some (.int .i64 2) ∧ w.cell? ⟨0, 11, none⟩ = some (.int .i64 2)) ∧ 0 < w.heap.size
theorem plc_in {w wr : World} {B : Nat} (h : Plc w) (hb : Below B w wr) (l : 0 < B) : Plc wr := by
  obtain ⟨⟨h0, h1, h2, h3, h4, h5, h6, h7, h8, h9, h10, h11⟩, g⟩ := h
  exact ⟨⟨(hb.cell (p := ⟨0, 0, none⟩) l).trans h0, (hb.cell (p := ⟨0, 1, none⟩) l).trans h1, (hb.cell (p := ⟨0, 2, none⟩) l).trans h2, (hb.cell (p := ⟨0, 3, none⟩) l).trans h3, (hb.cell (p := ⟨0, 4, none⟩) l).trans h4, (hb.cell (p := ⟨0, 5, none⟩) l).trans h5, (hb.cell (p := ⟨0, 6, none⟩) l).trans h6, (hb.cell (p := ⟨0, 7, none⟩) l).trans h7, (hb.cell (p := ⟨0, 8, none⟩) l).trans h8, (hb.cell (p := ⟨0, 9, none⟩) l).trans h9, (hb.cell (p := ⟨0, 10, none⟩) l).trans h10, (hb.cell (p := ⟨0, 11, none⟩) l).trans h11⟩, Nat.lt_of_lt_of_le g hb.size⟩
theorem plc_below {w w1 : World} (h : Plc w) (hb : Below w.heap.size w w1) : Plc w1 := plc_in h hb h.2
theorem plc_alloc {w : World} (h : Plc w) (o : Obj) : Plc (w.alloc o) := plc_below h ((Below.refl _ _).alloc (Nat.le_refl _) _)
theorem ownMo_set {w : World} {q r o : Nat} {v : Value} {m : Mo} (h : OwnMo w q m) (n : q ≠ r) : OwnMo (w.setCell ⟨r, o, none⟩ v) q m := by
  obtain ⟨⟨h0, h1, h2, h3, h4, h5, h6, h7, h8, h9, h10⟩, ⟨f0, f1, f2, f3, f4, f5, f6, f7, f8, f9, f10⟩, l⟩ := h
  have n' : ¬ r = q := fun e => n e.symm
  exact ⟨⟨by go_simp, by go_simp, by go_simp, by go_simp, by go_simp, by go_simp, by go_simp, by go_simp, by go_simp, by go_simp, by go_simp⟩, ⟨by go_simp, by go_simp, by go_simp, by go_simp, by go_simp, by go_simp, by go_simp, by go_simp, by go_simp, by go_simp, by go_simp⟩, by simpa using l⟩
theorem below_put11 {a w : World} {B r : Nat} {v0 v1 v2 v3 v4 v5 v6 v7 v8 v9 v10 : Value} (h : Below B a w) (n : B ≤ r) : Below B a (((((((((((w.setCell ⟨r, 0, none⟩ v0).setCell ⟨r, 1, none⟩ v1).setCell ⟨r, 2, none⟩ v2).setCell ⟨r, 3, none⟩ v3).setCell ⟨r, 4, none⟩ v4).setCell ⟨r, 5, none⟩ v5).setCell ⟨r, 6, none⟩ v6).setCell ⟨r, 7, none⟩ v7).setCell ⟨r, 8, none⟩ v8).setCell ⟨r, 9, none⟩ v9).setCell ⟨r, 10, none⟩ v10) := (((((((((((h.setCell n _).setCell n _).setCell n _).setCell n _).setCell n _).setCell n _).setCell n _).setCell n _).setCell n _).setCell n _).setCell n _)
abbrev mov0 : Value := .agg #[.int .i64 0, .int .i64 0, .int .i64 0, .int .i64 0, .int .i64 0, .int .i64 0, .int .i64 0, .int .i64 0, .int .i64 0, .int .i64 0, .int .i64 0]
abbrev mob0 (t : TypeId) : Obj := .cells #[.int .i64 0, .int .i64 0, .int .i64 0, .int .i64 0, .int .i64 0, .int .i64 0, .int .i64 0, .int .i64 0, .int .i64 0, .int .i64 0, .int .i64 0] t
theorem ownMo_new0 (w : World) (t : TypeId) : OwnMo (w.alloc (mob0 t)) w.heap.size mzero := ownMo_new w mzero t
theorem mval_ok (m : Mo) (w : World) (h : mokB m = true) : Calls Tryd.prog 22 #[mov m] w fun e w' => e = .returned (.int .i64 0) ∧ Below w.heap.size w w' :=
  (mval_any m w).mono fun _ _ ⟨q, r⟩ => ⟨by rw [q, mcode_ok h], r⟩
theorem mval_bad (m : Mo) (w : World) (h : mokB m = false) : Calls Tryd.prog 22 #[mov m] w fun e w' => e = .returned (.int .i64 1) ∧ Below w.heap.size w w' :=
  (mval_any m w).mono fun _ _ ⟨q, r⟩ => ⟨by rw [q, mcode_no h], r⟩
set_option maxHeartbeats 2000000 in
theorem nlg_ok (m : Mo) (w : World) (h : mokB m = true) :
    Calls Tryd.prog 27 #[mov m] w fun e w' => e = .returned (.tuple #[mov m, .int .i64 0]) ∧ Below w.heap.size w w' := by
  have V := Lib.hid (fun W => mval_ok m W h)
  clear h
  go_enter Tryd.func27, Tryd.ntmps27
  go_wp2_with fail
  refine (V.out _).mono ?_
  rintro e w1 ⟨rfl, hb1⟩
  have OM := Lib.hid (ownMo_below (ownMo_alloc (ownMo_new w m 28) (mob0 28)) hb1)
  have OR := Lib.hid (ownMo_below (ownMo_new0 (w.alloc (mob m 28)) 28) hb1)
  obtain ⟨⟨x0, x1, x2, x3, x4, x5, x6, x7, x8, x9, x10⟩, _, ll⟩ := OM.out
  have OR' := OR.out
  simp only [World.size_alloc, OwnMo, mzero] at OR'
  obtain ⟨⟨y0, y1, y2, y3, y4, y5, y6, y7, y8, y9, y10⟩, ⟨f0, f1, f2, f3, f4, f5, f6, f7, f8, f9, f10⟩, lr⟩ := OR'
  go_wp2
  refine bodyPost_ret (v := .tuple #[mov m, .int .i64 0]) (by rw [results_cell_tmp rfl]; go_simp) rfl ⟨rfl, ?_⟩
  exact below_put11 (bstep (balloc (balloc (Below.refl _ w) _) _) hb1) (by omega)
set_option maxHeartbeats 2000000 in
theorem nlg_bad (m : Mo) (w : World) (h : mokB m = false) :
    Calls Tryd.prog 27 #[mov m] w fun e w' => e = .returned (.tuple #[mov0, .int .i64 4]) ∧ Below w.heap.size w w' := by
  have V := Lib.hid (fun W => mval_bad m W h)
  clear h
  go_enter Tryd.func27, Tryd.ntmps27
  go_wp2_with fail
  refine (V.out _).mono ?_
  rintro e w1 ⟨rfl, hb1⟩
  have OM := Lib.hid (ownMo_below (ownMo_alloc (ownMo_new w m 28) (mob0 28)) hb1)
  have OR := Lib.hid (ownMo_below (ownMo_new0 (w.alloc (mob m 28)) 28) hb1)
  obtain ⟨⟨x0, x1, x2, x3, x4, x5, x6, x7, x8, x9, x10⟩, _, ll⟩ := OM.out
  have OR' := OR.out
  simp only [World.size_alloc, OwnMo, mzero] at OR'
  obtain ⟨⟨y0, y1, y2, y3, y4, y5, y6, y7, y8, y9, y10⟩, ⟨f0, f1, f2, f3, f4, f5, f6, f7, f8, f9, f10⟩, lr⟩ := OR'
  go_wp2
  refine bodyPost_ret (v := .tuple #[mov0, .int .i64 4]) (by rw [results_cell_tmp rfl]; go_simp) rfl ⟨rfl, ?_⟩
  exact below_put11 (bstep (balloc (balloc (Below.refl _ w) _) _) hb1) (by omega)
theorem nlg_any (m : Mo) (w : World) : Calls Tryd.prog 27 #[mov m] w fun e w' => e = .returned (.tuple #[mov (mtold m), .int .i64 (mlarge m)]) ∧ Below w.heap.size w w' := by
  unfold mtold mlarge
  cases h : mokB m with
  | true => exact nlg_ok m w h
  | false => exact nlg_bad m w h
end Go.Proofs.YtofjnbebipkgkaaDoor
