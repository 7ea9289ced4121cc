/-
  The contracts of the document's Block and of both Octa.
-/
import Derived.Test.YtfpenkgkcjpknaaSame
import Derived.Test.YtfpenkgkcjpknaaBlock
import Derived.OwnWalk
namespace Go.Proofs.Ytfpenkgkcjpknaa
open Go.ChangeShapes Go.WideShapes Go.RowKit
open Sh
theorem below_put2 {a w : World} {r : Nat} {x y : Value} (h : Below a.heap.size a w) (n : a.heap.size ≤ r) : Below a.heap.size a ((w.setCell ⟨r, 0, none⟩ x).setCell ⟨r, 1, none⟩ y) := (h.setCell n _).setCell n _
theorem lst_put2 {w : World} {a : Option Addr} {n : Nat} {P : Nat → P3} {r : Nat} {x y : Value} (h : Lst w a n P) (k : ∀ b, a = some b → b.block ≠ r) : Lst ((w.setCell ⟨r, 0, none⟩ x).setCell ⟨r, 1, none⟩ y) a n P := fun h0 => by
  obtain ⟨b, off, e, q⟩ := h h0
  have ne := k _ e
  exact ⟨b, off, e, row3_set (row3_set q (fun z => ne z.symm)) (fun z => ne z.symm)⟩
/-- the points and the faces of an octahedron -/
def octP (r : Int) (k : Nat) : P3 := [(r, 0, 0), (-r, 0, 0), (0, r, 0), (0, -r, 0), (0, 0, r), (0, 0, -r)].getD k (0, 0, 0)
def octF (k : Nat) : P3 := [(0, 2, 4), (2, 1, 4), (1, 3, 4), (3, 0, 4), (2, 0, 5), (1, 2, 5), (3, 1, 5), (0, 3, 5)].getD k (0, 0, 0)
theorem oct_points (r : Int) (w : World) (t : TypeId) : Row3 (w.alloc (.cells #[.int .i64 r, .int .i64 0, .int .i64 0, .int .i64 (-r), .int .i64 0, .int .i64 0, .int .i64 0, .int .i64 r, .int .i64 0, .int .i64 0, .int .i64 (-r), .int .i64 0, .int .i64 0, .int .i64 0, .int .i64 r, .int .i64 0, .int .i64 0, .int .i64 (-r)] t)) w.heap.size 0 6 (octP r) :=
  ⟨by simp, fun k hk => by
    match k, hk with
    | 0, _ => exact ⟨by go_simp; rfl, by go_simp; rfl, by go_simp; rfl⟩
    | 1, _ => exact ⟨by go_simp; rfl, by go_simp; rfl, by go_simp; rfl⟩
    | 2, _ => exact ⟨by go_simp; rfl, by go_simp; rfl, by go_simp; rfl⟩
    | 3, _ => exact ⟨by go_simp; rfl, by go_simp; rfl, by go_simp; rfl⟩
    | 4, _ => exact ⟨by go_simp; rfl, by go_simp; rfl, by go_simp; rfl⟩
    | 5, _ => exact ⟨by go_simp; rfl, by go_simp; rfl, by go_simp; rfl⟩⟩
theorem oct_faces (w : World) (t : TypeId) : Row3 (w.alloc (.cells #[.int .i64 0, .int .i64 2, .int .i64 4, .int .i64 2, .int .i64 1, .int .i64 4, .int .i64 1, .int .i64 3, .int .i64 4, .int .i64 3, .int .i64 0, .int .i64 4, .int .i64 2, .int .i64 0, .int .i64 5, .int .i64 1, .int .i64 2, .int .i64 5, .int .i64 3, .int .i64 1, .int .i64 5, .int .i64 0, .int .i64 3, .int .i64 5] t)) w.heap.size 0 8 octF :=
  ⟨by simp, fun k hk => by
    match k, hk with
    | 0, _ => exact ⟨by go_simp; rfl, by go_simp; rfl, by go_simp; rfl⟩
    | 1, _ => exact ⟨by go_simp; rfl, by go_simp; rfl, by go_simp; rfl⟩
    | 2, _ => exact ⟨by go_simp; rfl, by go_simp; rfl, by go_simp; rfl⟩
    | 3, _ => exact ⟨by go_simp; rfl, by go_simp; rfl, by go_simp; rfl⟩
    | 4, _ => exact ⟨by go_simp; rfl, by go_simp; rfl, by go_simp; rfl⟩
    | 5, _ => exact ⟨by go_simp; rfl, by go_simp; rfl, by go_simp; rfl⟩
    | 6, _ => exact ⟨by go_simp; rfl, by go_simp; rfl, by go_simp; rfl⟩
    | 7, _ => exact ⟨by go_simp; rfl, by go_simp; rfl, by go_simp; rfl⟩⟩
theorem block_bad0 (a b c : Int) (w : World) (ha : szB a = false) :
    Calls Try.prog 23 #[.int .i64 a, .int .i64 b, .int .i64 c] w fun e w' => e = .returned (.tuple #[msv none 0 0 none 0 0, .int .i64 1]) ∧ Below w.heap.size w w' := by
  have Sa := Lib.hid (fun W => (ha ▸ size_any a W : Calls Try.prog 57 #[.int .i64 a] W fun e w' => e = .returned (.bool false) ∧ W = w'))
  clear ha
  go_enter Try.func23, Try.ntmps23
  go_wp2_with fail
  refine (Sa.out _).mono ?_
  rintro e w' ⟨rfl, rfl⟩
  go_wp2
  refine bodyPost_ret (v := .tuple #[msv none 0 0 none 0 0, .int .i64 1]) (by rw [results_cell_tmp rfl]; go_simp) rfl ⟨rfl, ?_⟩
  (repeat' (first | exact Below.refl _ _ | refine Below.setCell ?_ (by simp <;> omega) _ | refine balloc ?_ _ | refine Below.drew ?_ | refine bdrewN ?_ _))
theorem block_bad1 (a b c : Int) (w : World) (ha : szB a = true) (hb : szB b = false) :
    Calls Try.prog 23 #[.int .i64 a, .int .i64 b, .int .i64 c] w fun e w' => e = .returned (.tuple #[msv none 0 0 none 0 0, .int .i64 1]) ∧ Below w.heap.size w w' := by
  have Sa := Lib.hid (fun W => (ha ▸ size_any a W : Calls Try.prog 57 #[.int .i64 a] W fun e w' => e = .returned (.bool true) ∧ W = w'))
  have Sb := Lib.hid (fun W => (hb ▸ size_any b W : Calls Try.prog 57 #[.int .i64 b] W fun e w' => e = .returned (.bool false) ∧ W = w'))
  clear ha hb
  go_enter Try.func23, Try.ntmps23
  go_wp2_with fail
  refine (Sa.out _).mono ?_
  rintro e w' ⟨rfl, rfl⟩
  go_wp2_with fail
  refine (Sb.out _).mono ?_
  rintro e w' ⟨rfl, rfl⟩
  go_wp2
  refine bodyPost_ret (v := .tuple #[msv none 0 0 none 0 0, .int .i64 1]) (by rw [results_cell_tmp rfl]; go_simp) rfl ⟨rfl, ?_⟩
  (repeat' (first | exact Below.refl _ _ | refine Below.setCell ?_ (by simp <;> omega) _ | refine balloc ?_ _ | refine Below.drew ?_ | refine bdrewN ?_ _))
theorem block_bad2 (a b c : Int) (w : World) (ha : szB a = true) (hb : szB b = true) (hc : szB c = false) :
    Calls Try.prog 23 #[.int .i64 a, .int .i64 b, .int .i64 c] w fun e w' => e = .returned (.tuple #[msv none 0 0 none 0 0, .int .i64 1]) ∧ Below w.heap.size w w' := by
  have Sa := Lib.hid (fun W => (ha ▸ size_any a W : Calls Try.prog 57 #[.int .i64 a] W fun e w' => e = .returned (.bool true) ∧ W = w'))
  have Sb := Lib.hid (fun W => (hb ▸ size_any b W : Calls Try.prog 57 #[.int .i64 b] W fun e w' => e = .returned (.bool true) ∧ W = w'))
  have Sc := Lib.hid (fun W => (hc ▸ size_any c W : Calls Try.prog 57 #[.int .i64 c] W fun e w' => e = .returned (.bool false) ∧ W = w'))
  clear ha hb hc
  go_enter Try.func23, Try.ntmps23
  go_wp2_with fail
  refine (Sa.out _).mono ?_
  rintro e w' ⟨rfl, rfl⟩
  go_wp2_with fail
  refine (Sb.out _).mono ?_
  rintro e w' ⟨rfl, rfl⟩
  go_wp2_with fail
  refine (Sc.out _).mono ?_
  rintro e w' ⟨rfl, rfl⟩
  go_wp2
  refine bodyPost_ret (v := .tuple #[msv none 0 0 none 0 0, .int .i64 1]) (by rw [results_cell_tmp rfl]; go_simp) rfl ⟨rfl, ?_⟩
  (repeat' (first | exact Below.refl _ _ | refine Below.setCell ?_ (by simp <;> omega) _ | refine balloc ?_ _ | refine Below.drew ?_ | refine bdrewN ?_ _))
end Go.Proofs.Ytfpenkgkcjpknaa
