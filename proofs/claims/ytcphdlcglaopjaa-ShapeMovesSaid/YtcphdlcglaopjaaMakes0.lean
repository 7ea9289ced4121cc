/-
  The contracts of the document's Block and of both Octa.
-/
import Derived.Test.YtcphdlcglaopjaaSame
import Derived.Test.YtcphdlcglaopjaaBlock
import Derived.OwnWalk
namespace Go.Proofs.Ytcphdlcglaopjaa
open Go.ChangeShapes Go.WideShapes Go.RowKit
open Sh
theorem below_put2 {a w : World} {r : Nat} {x y : Value} (h : Below a.heap.size a w) (n : a.heap.size ≤ r) : Below a.heap.size a ((w.setCell ⟨r, 0, none⟩ x).setCell ⟨r, 1, none⟩ y) := (h.setCell n _).setCell n _
theorem lst_put2 {w : World} {a : Option Addr} {n : Nat} {P : Nat → P3} {r : Nat} {x y : Value} (h : Lst w a n P) (k : ∀ b, a = some b → b.block ≠ r) : Lst ((w.setCell ⟨r, 0, none⟩ x).setCell ⟨r, 1, none⟩ y) a n P := fun h0 => by
  obtain ⟨b, off, e, q⟩ := h h0
  have ne := k _ e
  exact ⟨b, off, e, row3_set (row3_set q (fun z => ne z.symm)) (fun z => ne z.symm)⟩
/-- the points and the faces of an octahedron -/
def octP (r : Int) (k : Nat) : P3 := [(r, 0, 0), (-r, 0, 0), (0, r, 0), (0, -r, 0), (0, 0, r), (0, 0, -r)].getD k (0, 0, 0)
def octF (k : Nat) : P3 := [(0, 2, 4), (2, 1, 4), (1, 3, 4), (3, 0, 4), (2, 0, 5), (1, 2, 5), (3, 1, 5), (0, 3, 5)].getD k (0, 0, 0)
theorem oct_points (r : Int) (w : World) (t : TypeId) : Row3 (w.alloc (.cells #[.int .i64 r, .int .i64 0, .int .i64 0, .int .i64 (-r), .int .i64 0, .int .i64 0, .int .i64 0, .int .i64 r, .int .i64 0, .int .i64 0, .int .i64 (-r), .int .i64 0, .int .i64 0, .int .i64 0, .int .i64 r, .int .i64 0, .int .i64 0, .int .i64 (-r)] t)) w.heap.size 0 6 (octP r) :=
  ⟨by simp, fun k hk => by
    match k, hk with
    | 0, _ => exact ⟨by go_simp; rfl, by go_simp; rfl, by go_simp; rfl⟩
    | 1, _ => exact ⟨by go_simp; rfl, by go_simp; rfl, by go_simp; rfl⟩
    | 2, _ => exact ⟨by go_simp; rfl, by go_simp; rfl, by go_simp; rfl⟩
    | 3, _ => exact ⟨by go_simp; rfl, by go_simp; rfl, by go_simp; rfl⟩
    | 4, _ => exact ⟨by go_simp; rfl, by go_simp; rfl, by go_simp; rfl⟩
    | 5, _ => exact ⟨by go_simp; rfl, by go_simp; rfl, by go_simp; rfl⟩⟩
theorem oct_faces (w : World) (t : TypeId) : Row3 (w.alloc (.cells #[.int .i64 0, .int .i64 2, .int .i64 4, .int .i64 2, .int .i64 1, .int .i64 4, .int .i64 1, .int .i64 3, .int .i64 4, .int .i64 3, .int .i64 0, .int .i64 4, .int .i64 2, .int .i64 0, .int .i64 5, .int .i64 1, .int .i64 2, .int .i64 5, .int .i64 3, .int .i64 1, .int .i64 5, .int .i64 0, .int .i64 3, .int .i64 5] t)) w.heap.size 0 8 octF :=
  ⟨by simp, fun k hk => by
    match k, hk with
    | 0, _ => exact ⟨by go_simp; rfl, by go_simp; rfl, by go_simp; rfl⟩
    | 1, _ => exact ⟨by go_simp; rfl, by go_simp; rfl, by go_simp; rfl⟩
    | 2, _ => exact ⟨by go_simp; rfl, by go_simp; rfl, by go_simp; rfl⟩
    | 3, _ => exact ⟨by go_simp; rfl, by go_simp; rfl, by go_simp; rfl⟩
    | 4, _ => exact ⟨by go_simp; rfl, by go_simp; rfl, by go_simp; rfl⟩
    | 5, _ => exact ⟨by go_simp; rfl, by go_simp; rfl, by go_simp; rfl⟩
    | 6, _ => exact ⟨by go_simp; rfl, by go_simp; rfl, by go_simp; rfl⟩
    | 7, _ => exact ⟨by go_simp; rfl, by go_simp; rfl, by go_simp; rfl⟩⟩
theorem block_bad0 (a b c : Int) (w : World) (ha : szB a = false) :
    Calls Try.prog 53 #[.int .i64 a, .int .i64 b, .int .i64 c] w fun e w' => e = .returned (.tuple #[msv none 0 0 none 0 0, .int .i64 1]) ∧ Below w.heap.size w w' := by
  have Sa := Lib.hid (fun W => (ha ▸ size_any a W : Calls Try.prog 108 #[.int .i64 a] W fun e w' => e = .returned (.bool false) ∧ W = w'))
  clear ha
  go_enter Try.func53, Try.ntmps53
  go_wp2_with fail
  refine (Sa.out _).mono ?_
  rintro e w' ⟨rfl, rfl⟩
  go_wp2
  refine bodyPost_ret (v := .tuple #[msv none 0 0 none 0 0, .int .i64 1]) (by rw [results_cell_tmp rfl]; go_simp) rfl ⟨rfl, ?_⟩
  (repeat' (first | exact Below.refl _ _ | refine Below.setCell ?_ (by simp <;> omega) _ | refine balloc ?_ _ | refine Below.drew ?_ | refine bdrewN ?_ _))
theorem block_bad1 (a b c : Int) (w : World) (ha : szB a = true) (hb : szB b = false) :
    Calls Try.prog 53 #[.int .i64 a, .int .i64 b, .int .i64 c] w fun e w' => e = .returned (.tuple #[msv none 0 0 none 0 0, .int .i64 1]) ∧ Below w.heap.size w w' := by
  have Sa := Lib.hid (fun W => (ha ▸ size_any a W : Calls Try.prog 108 #[.int .i64 a] W fun e w' => e = .returned (.bool true) ∧ W = w'))
  have Sb := Lib.hid (fun W => (hb ▸ size_any b W : Calls Try.prog 108 #[.int .i64 b] W fun e w' => e = .returned (.bool false) ∧ W = w'))
  clear ha hb
  go_enter Try.func53, Try.ntmps53
  go_wp2_with fail
  refine (Sa.out _).mono ?_
  rintro e w' ⟨rfl, rfl⟩
  go_wp2_with fail
  refine (Sb.out _).mono ?_
  rintro e w' ⟨rfl, rfl⟩
  go_wp2
  refine bodyPost_ret (v := .tuple #[msv none 0 0 none 0 0, .int .i64 1]) (by rw [results_cell_tmp rfl]; go_simp) rfl ⟨rfl, ?_⟩
  (repeat' (first | exact Below.refl _ _ | refine Below.setCell ?_ (by simp <;> omega) _ | refine balloc ?_ _ | refine Below.drew ?_ | refine bdrewN ?_ _))
theorem block_bad2 (a b c : Int) (w : World) (ha : szB a = true) (hb : szB b = true) (hc : szB c = false) :
    Calls Try.prog 53 #[.int .i64 a, .int .i64 b, .int .i64 c] w fun e w' => e = .returned (.tuple #[msv none 0 0 none 0 0, .int .i64 1]) ∧ Below w.heap.size w w' := by
  have Sa := Lib.hid (fun W => (ha ▸ size_any a W : Calls Try.prog 108 #[.int .i64 a] W fun e w' => e = .returned (.bool true) ∧ W = w'))
  have Sb := Lib.hid (fun W => (hb ▸ size_any b W : Calls Try.prog 108 #[.int .i64 b] W fun e w' => e = .returned (.bool true) ∧ W = w'))
  have Sc := Lib.hid (fun W => (hc ▸ size_any c W : Calls Try.prog 108 #[.int .i64 c] W fun e w' => e = .returned (.bool false) ∧ W = w'))
  clear ha hb hc
  go_enter Try.func53, Try.ntmps53
  go_wp2_with fail
  refine (Sa.out _).mono ?_
  rintro e w' ⟨rfl, rfl⟩
  go_wp2_with fail
  refine (Sb.out _).mono ?_
  rintro e w' ⟨rfl, rfl⟩
  go_wp2_with fail
  refine (Sc.out _).mono ?_
  rintro e w' ⟨rfl, rfl⟩
  go_wp2
  refine bodyPost_ret (v := .tuple #[msv none 0 0 none 0 0, .int .i64 1]) (by rw [results_cell_tmp rfl]; go_simp) rfl ⟨rfl, ?_⟩
  (repeat' (first | exact Below.refl _ _ | refine Below.setCell ?_ (by simp <;> omega) _ | refine balloc ?_ _ | refine Below.drew ?_ | refine bdrewN ?_ _))
theorem rblock_bad0 (a b c : Int) (w : World) (ha : szB a = false) :
    Calls Try.prog 54 #[.int .i64 a, .int .i64 b, .int .i64 c] w fun e w' => e = .returned (.tuple #[msv none 0 0 none 0 0, .int .i64 1]) ∧ Below w.heap.size w w' := by
  have Sa := Lib.hid (fun W => (show Calls Try.prog 68 #[.int .i64 a, .int .i64 1, .int .i64 64] W fun e w' => e = .returned (.bool false) ∧ W = w' by have z := rwithin_any a 1 64 W; rw [show decide (1 ≤ a ∧ a ≤ 64) = false from ha] at z; exact z))
  clear ha
  go_enter Try.func54, Try.ntmps54
  go_wp2_with fail
  refine (Sa.out _).mono ?_
  rintro e w' ⟨rfl, rfl⟩
  go_wp2
  refine bodyPost_ret (v := .tuple #[msv none 0 0 none 0 0, .int .i64 1]) (by rw [results_cell_tmp rfl]; go_simp) rfl ⟨rfl, ?_⟩
  (repeat' (first | exact Below.refl _ _ | refine Below.setCell ?_ (by simp <;> omega) _ | refine balloc ?_ _ | refine Below.drew ?_ | refine bdrewN ?_ _))
theorem rblock_bad1 (a b c : Int) (w : World) (ha : szB a = true) (hb : szB b = false) :
    Calls Try.prog 54 #[.int .i64 a, .int .i64 b, .int .i64 c] w fun e w' => e = .returned (.tuple #[msv none 0 0 none 0 0, .int .i64 1]) ∧ Below w.heap.size w w' := by
  have Sa := Lib.hid (fun W => (show Calls Try.prog 68 #[.int .i64 a, .int .i64 1, .int .i64 64] W fun e w' => e = .returned (.bool true) ∧ W = w' by have z := rwithin_any a 1 64 W; rw [show decide (1 ≤ a ∧ a ≤ 64) = true from ha] at z; exact z))
  have Sb := Lib.hid (fun W => (show Calls Try.prog 68 #[.int .i64 b, .int .i64 1, .int .i64 64] W fun e w' => e = .returned (.bool false) ∧ W = w' by have z := rwithin_any b 1 64 W; rw [show decide (1 ≤ b ∧ b ≤ 64) = false from hb] at z; exact z))
  clear ha hb
  go_enter Try.func54, Try.ntmps54
  go_wp2_with fail
  refine (Sa.out _).mono ?_
  rintro e w' ⟨rfl, rfl⟩
  go_wp2_with fail
  refine (Sb.out _).mono ?_
  rintro e w' ⟨rfl, rfl⟩
  go_wp2
  refine bodyPost_ret (v := .tuple #[msv none 0 0 none 0 0, .int .i64 1]) (by rw [results_cell_tmp rfl]; go_simp) rfl ⟨rfl, ?_⟩
  (repeat' (first | exact Below.refl _ _ | refine Below.setCell ?_ (by simp <;> omega) _ | refine balloc ?_ _ | refine Below.drew ?_ | refine bdrewN ?_ _))
theorem rblock_bad2 (a b c : Int) (w : World) (ha : szB a = true) (hb : szB b = true) (hc : szB c = false) :
    Calls Try.prog 54 #[.int .i64 a, .int .i64 b, .int .i64 c] w fun e w' => e = .returned (.tuple #[msv none 0 0 none 0 0, .int .i64 1]) ∧ Below w.heap.size w w' := by
  have Sa := Lib.hid (fun W => (show Calls Try.prog 68 #[.int .i64 a, .int .i64 1, .int .i64 64] W fun e w' => e = .returned (.bool true) ∧ W = w' by have z := rwithin_any a 1 64 W; rw [show decide (1 ≤ a ∧ a ≤ 64) = true from ha] at z; exact z))
  have Sb := Lib.hid (fun W => (show Calls Try.prog 68 #[.int .i64 b, .int .i64 1, .int .i64 64] W fun e w' => e = .returned (.bool true) ∧ W = w' by have z := rwithin_any b 1 64 W; rw [show decide (1 ≤ b ∧ b ≤ 64) = true from hb] at z; exact z))
  have Sc := Lib.hid (fun W => (show Calls Try.prog 68 #[.int .i64 c, .int .i64 1, .int .i64 64] W fun e w' => e = .returned (.bool false) ∧ W = w' by have z := rwithin_any c 1 64 W; rw [show decide (1 ≤ c ∧ c ≤ 64) = false from hc] at z; exact z))
  clear ha hb hc
  go_enter Try.func54, Try.ntmps54
  go_wp2_with fail
  refine (Sa.out _).mono ?_
  rintro e w' ⟨rfl, rfl⟩
  go_wp2_with fail
  refine (Sb.out _).mono ?_
  rintro e w' ⟨rfl, rfl⟩
  go_wp2_with fail
  refine (Sc.out _).mono ?_
  rintro e w' ⟨rfl, rfl⟩
  go_wp2
  refine bodyPost_ret (v := .tuple #[msv none 0 0 none 0 0, .int .i64 1]) (by rw [results_cell_tmp rfl]; go_simp) rfl ⟨rfl, ?_⟩
  (repeat' (first | exact Below.refl _ _ | refine Below.setCell ?_ (by simp <;> omega) _ | refine balloc ?_ _ | refine Below.drew ?_ | refine bdrewN ?_ _))
theorem octa_bad0 (r : Int) (w : World) (hr : szB r = false) :
    Calls Try.prog 55 #[.int .i64 r] w fun e w' => e = .returned (.tuple #[msv none 0 0 none 0 0, .int .i64 1]) ∧ Below w.heap.size w w' := by
  have Sr := Lib.hid (fun W => (hr ▸ size_any r W : Calls Try.prog 108 #[.int .i64 r] W fun e w' => e = .returned (.bool false) ∧ W = w'))
  clear hr
  go_enter Try.func55, Try.ntmps55
  go_wp2_with fail
  refine (Sr.out _).mono ?_
  rintro e w' ⟨rfl, rfl⟩
  go_wp2
  refine bodyPost_ret (v := .tuple #[msv none 0 0 none 0 0, .int .i64 1]) (by rw [results_cell_tmp rfl]; go_simp) rfl ⟨rfl, ?_⟩
  (repeat' (first | exact Below.refl _ _ | refine Below.setCell ?_ (by simp <;> omega) _ | refine balloc ?_ _ | refine Below.drew ?_ | refine bdrewN ?_ _))
theorem rocta_bad0 (r : Int) (w : World) (hr : szB r = false) :
    Calls Try.prog 56 #[.int .i64 r] w fun e w' => e = .returned (.tuple #[msv none 0 0 none 0 0, .int .i64 1]) ∧ Below w.heap.size w w' := by
  have Sr := Lib.hid (fun W => (show Calls Try.prog 68 #[.int .i64 r, .int .i64 1, .int .i64 64] W fun e w' => e = .returned (.bool false) ∧ W = w' by have z := rwithin_any r 1 64 W; rw [show decide (1 ≤ r ∧ r ≤ 64) = false from hr] at z; exact z))
  clear hr
  go_enter Try.func56, Try.ntmps56
  go_wp2_with fail
  refine (Sr.out _).mono ?_
  rintro e w' ⟨rfl, rfl⟩
  go_wp2
  refine bodyPost_ret (v := .tuple #[msv none 0 0 none 0 0, .int .i64 1]) (by rw [results_cell_tmp rfl]; go_simp) rfl ⟨rfl, ?_⟩
  (repeat' (first | exact Below.refl _ _ | refine Below.setCell ?_ (by simp <;> omega) _ | refine balloc ?_ _ | refine Below.drew ?_ | refine bdrewN ?_ _))
set_option maxRecDepth 100000 in
set_option maxHeartbeats 2000000 in
theorem octa_row (r : Int) (w : World) (hr : szB r = true) :
    Calls Try.prog 55 #[.int .i64 r] w (Meshed 6 8 (octP r) octF w) := by
  have bd : 1 ≤ r ∧ r ≤ 64 := by unfold szB at hr; simpa using hr
  obtain ⟨a1, a2⟩ := bd
  have Sr := Lib.hid (fun W => (hr ▸ size_any r W : Calls Try.prog 108 #[.int .i64 r] W fun e w' => e = .returned (.bool true) ∧ W = w'))
  clear hr
  go_enter Try.func55, Try.ntmps55
  go_wp2_with fail
  refine (Sr.out _).mono ?_
  rintro e w' ⟨rfl, rfl⟩
  go_wp2_with fail
  have LP := Lib.hid (show Lst (((w.alloc (.cells #[.slice none 0 0, .slice none 0 0] 25)).alloc (.cells #[.int .i64 r, .int .i64 0, .int .i64 0, .int .i64 (-r), .int .i64 0, .int .i64 0, .int .i64 0, .int .i64 r, .int .i64 0, .int .i64 0, .int .i64 (-r), .int .i64 0, .int .i64 0, .int .i64 0, .int .i64 r, .int .i64 0, .int .i64 0, .int .i64 (-r)] 33)).alloc (.cells #[.int .i64 0, .int .i64 2, .int .i64 4, .int .i64 2, .int .i64 1, .int .i64 4, .int .i64 1, .int .i64 3, .int .i64 4, .int .i64 3, .int .i64 0, .int .i64 4, .int .i64 2, .int .i64 0, .int .i64 5, .int .i64 1, .int .i64 2, .int .i64 5, .int .i64 3, .int .i64 1, .int .i64 5, .int .i64 0, .int .i64 3, .int .i64 5] 55)) (some ⟨w.heap.size + 1, 0, none⟩) 6 (octP r) from fun _ => ⟨_, _, rfl, row3_alloc (by have z := oct_points r (w.alloc (.cells #[.slice none 0 0, .slice none 0 0] 25)) 33; simp only [World.size_alloc] at z; exact z) _⟩)
  have LF := Lib.hid (show Lst (((w.alloc (.cells #[.slice none 0 0, .slice none 0 0] 25)).alloc (.cells #[.int .i64 r, .int .i64 0, .int .i64 0, .int .i64 (-r), .int .i64 0, .int .i64 0, .int .i64 0, .int .i64 r, .int .i64 0, .int .i64 0, .int .i64 (-r), .int .i64 0, .int .i64 0, .int .i64 0, .int .i64 r, .int .i64 0, .int .i64 0, .int .i64 (-r)] 33)).alloc (.cells #[.int .i64 0, .int .i64 2, .int .i64 4, .int .i64 2, .int .i64 1, .int .i64 4, .int .i64 1, .int .i64 3, .int .i64 4, .int .i64 3, .int .i64 0, .int .i64 4, .int .i64 2, .int .i64 0, .int .i64 5, .int .i64 1, .int .i64 2, .int .i64 5, .int .i64 3, .int .i64 1, .int .i64 5, .int .i64 0, .int .i64 3, .int .i64 5] 55)) (some ⟨w.heap.size + 1 + 1, 0, none⟩) 8 octF from fun _ => ⟨_, _, rfl, by have z := oct_faces ((w.alloc (.cells #[.slice none 0 0, .slice none 0 0] 25)).alloc (.cells #[.int .i64 r, .int .i64 0, .int .i64 0, .int .i64 (-r), .int .i64 0, .int .i64 0, .int .i64 0, .int .i64 r, .int .i64 0, .int .i64 0, .int .i64 (-r), .int .i64 0, .int .i64 0, .int .i64 0, .int .i64 r, .int .i64 0, .int .i64 0, .int .i64 (-r)] 33)) 55; simp only [World.size_alloc] at z; exact z⟩)
  have M8 := Lib.hid (ownM_alloc (ownM_alloc (ownM_new w 25) (.cells #[.int .i64 r, .int .i64 0, .int .i64 0, .int .i64 (-r), .int .i64 0, .int .i64 0, .int .i64 0, .int .i64 r, .int .i64 0, .int .i64 0, .int .i64 (-r), .int .i64 0, .int .i64 0, .int .i64 0, .int .i64 r, .int .i64 0, .int .i64 0, .int .i64 (-r)] 33)) (.cells #[.int .i64 0, .int .i64 2, .int .i64 4, .int .i64 2, .int .i64 1, .int .i64 4, .int .i64 1, .int .i64 3, .int .i64 4, .int .i64 3, .int .i64 0, .int .i64 4, .int .i64 2, .int .i64 0, .int .i64 5, .int .i64 1, .int .i64 2, .int .i64 5, .int .i64 3, .int .i64 1, .int .i64 5, .int .i64 0, .int .i64 3, .int .i64 5] 55))
  have B8 := Lib.hid (balloc (balloc (balloc (Below.refl w.heap.size w) (.cells #[.slice none 0 0, .slice none 0 0] 25)) (.cells #[.int .i64 r, .int .i64 0, .int .i64 0, .int .i64 (-r), .int .i64 0, .int .i64 0, .int .i64 0, .int .i64 r, .int .i64 0, .int .i64 0, .int .i64 (-r), .int .i64 0, .int .i64 0, .int .i64 0, .int .i64 r, .int .i64 0, .int .i64 0, .int .i64 (-r)] 33)) (.cells #[.int .i64 0, .int .i64 2, .int .i64 4, .int .i64 2, .int .i64 1, .int .i64 4, .int .i64 1, .int .i64 3, .int .i64 4, .int .i64 3, .int .i64 0, .int .i64 4, .int .i64 2, .int .i64 0, .int .i64 5, .int .i64 1, .int .i64 2, .int .i64 5, .int .i64 3, .int .i64 1, .int .i64 5, .int .i64 0, .int .i64 3, .int .i64 5] 55))
  by_cases h : vcode ⟨6, 8, octP r, octF⟩ = 0
  · have Z := Lib.hid h
    clear h
    refine (checked_yes _ 6 6 _ 8 8 (octP r) octF _ (by exact LP.out) (by exact LF.out) (by decide) (by decide) Z.out).mono ?_
    rintro e w1 ⟨rfl, hb⟩
    have M9 := ownM_below M8.out hb
    have BB := Lib.hid (bstep B8.out hb)
    have LA := Lib.hid (lst_below LP.out hb)
    have LB := Lib.hid (lst_below LF.out hb)
    obtain ⟨m1, m2, m3, m4, m5⟩ := M9
    clear hb
    go_wp2
    refine bodyPost_ret (v := .tuple #[msv (some ⟨w.heap.size + 1, 0, none⟩) 6 6 (some ⟨w.heap.size + 1 + 1, 0, none⟩) 8 8, .int .i64 0]) (by rw [results_cell_tmp rfl]; go_simp) rfl ⟨fun _ => ⟨_, _, _, _, rfl, lst_put2 LA.out (fun b e => by have := congrArg Addr.block (Option.some.inj e); simp at this; omega), lst_put2 LB.out (fun b e => by have := congrArg Addr.block (Option.some.inj e); simp at this; omega), ?_⟩, fun k => absurd Z.out k⟩
    exact below_put2 BB.out (Nat.le_refl _)
  · have Z := Lib.hid h
    clear h
    refine (checked_not _ 6 6 _ 8 8 (octP r) octF _ (by exact LP.out) (by exact LF.out) (by decide) (by decide) Z.out).mono ?_
    rintro e w1 ⟨rfl, hb⟩
    have M9 := ownM_below M8.out hb
    have BB := Lib.hid (bstep B8.out hb)
    obtain ⟨m1, m2, m3, m4, m5⟩ := M9
    clear hb
    go_wp2
    refine bodyPost_ret (v := .tuple #[msv none 0 0 none 0 0, .int .i64 (vcode ⟨6, 8, octP r, octF⟩)]) (by rw [results_cell_tmp rfl]; go_simp) rfl ⟨fun k => absurd k Z.out, fun _ => ⟨rfl, ?_⟩⟩
    exact below_put2 BB.out (Nat.le_refl _)
set_option maxRecDepth 100000 in
set_option maxHeartbeats 2000000 in
theorem rocta_row (r : Int) (w : World) (hr : szB r = true) :
    Calls Try.prog 56 #[.int .i64 r] w (Meshed 6 8 (octP r) octF w) := by
  have bd : 1 ≤ r ∧ r ≤ 64 := by unfold szB at hr; simpa using hr
  obtain ⟨a1, a2⟩ := bd
  have Sr := Lib.hid (fun W => (show Calls Try.prog 68 #[.int .i64 r, .int .i64 1, .int .i64 64] W fun e w' => e = .returned (.bool true) ∧ W = w' by have z := rwithin_any r 1 64 W; rw [show decide (1 ≤ r ∧ r ≤ 64) = true from hr] at z; exact z))
  clear hr
  go_enter Try.func56, Try.ntmps56
  go_wp2_with fail
  refine (Sr.out _).mono ?_
  rintro e w' ⟨rfl, rfl⟩
  go_wp2_with fail
  have LP := Lib.hid (show Lst ((((w.alloc (.cells #[.slice none 0 0, .slice none 0 0] 25)).alloc (.cells #[.int .i64 r, .int .i64 0, .int .i64 0, .int .i64 (-r), .int .i64 0, .int .i64 0, .int .i64 0, .int .i64 r, .int .i64 0, .int .i64 0, .int .i64 (-r), .int .i64 0, .int .i64 0, .int .i64 0, .int .i64 r, .int .i64 0, .int .i64 0, .int .i64 (-r)] 33)).alloc (.cells #[.slice (some ⟨w.heap.size + 1, 0, none⟩) 6 6, .slice (some ⟨w.heap.size + 1 + 1 + 1, 0, none⟩) 8 8] 25)).alloc (.cells #[.int .i64 0, .int .i64 2, .int .i64 4, .int .i64 2, .int .i64 1, .int .i64 4, .int .i64 1, .int .i64 3, .int .i64 4, .int .i64 3, .int .i64 0, .int .i64 4, .int .i64 2, .int .i64 0, .int .i64 5, .int .i64 1, .int .i64 2, .int .i64 5, .int .i64 3, .int .i64 1, .int .i64 5, .int .i64 0, .int .i64 3, .int .i64 5] 55)) (some ⟨w.heap.size + 1, 0, none⟩) 6 (octP r) from fun _ => ⟨_, _, rfl, row3_alloc (row3_alloc (by have z := oct_points r (w.alloc (.cells #[.slice none 0 0, .slice none 0 0] 25)) 33; simp only [World.size_alloc] at z; exact z) _) _⟩)
  have LF := Lib.hid (show Lst ((((w.alloc (.cells #[.slice none 0 0, .slice none 0 0] 25)).alloc (.cells #[.int .i64 r, .int .i64 0, .int .i64 0, .int .i64 (-r), .int .i64 0, .int .i64 0, .int .i64 0, .int .i64 r, .int .i64 0, .int .i64 0, .int .i64 (-r), .int .i64 0, .int .i64 0, .int .i64 0, .int .i64 r, .int .i64 0, .int .i64 0, .int .i64 (-r)] 33)).alloc (.cells #[.slice (some ⟨w.heap.size + 1, 0, none⟩) 6 6, .slice (some ⟨w.heap.size + 1 + 1 + 1, 0, none⟩) 8 8] 25)).alloc (.cells #[.int .i64 0, .int .i64 2, .int .i64 4, .int .i64 2, .int .i64 1, .int .i64 4, .int .i64 1, .int .i64 3, .int .i64 4, .int .i64 3, .int .i64 0, .int .i64 4, .int .i64 2, .int .i64 0, .int .i64 5, .int .i64 1, .int .i64 2, .int .i64 5, .int .i64 3, .int .i64 1, .int .i64 5, .int .i64 0, .int .i64 3, .int .i64 5] 55)) (some ⟨w.heap.size + 1 + 1 + 1, 0, none⟩) 8 octF from fun _ => ⟨_, _, rfl, by have z := oct_faces (((w.alloc (.cells #[.slice none 0 0, .slice none 0 0] 25)).alloc (.cells #[.int .i64 r, .int .i64 0, .int .i64 0, .int .i64 (-r), .int .i64 0, .int .i64 0, .int .i64 0, .int .i64 r, .int .i64 0, .int .i64 0, .int .i64 (-r), .int .i64 0, .int .i64 0, .int .i64 0, .int .i64 r, .int .i64 0, .int .i64 0, .int .i64 (-r)] 33)).alloc (.cells #[.slice (some ⟨w.heap.size + 1, 0, none⟩) 6 6, .slice (some ⟨w.heap.size + 1 + 1 + 1, 0, none⟩) 8 8] 25)) 55; simp only [World.size_alloc] at z; exact z⟩)
  have M8 := Lib.hid (ownM_alloc (ownM_alloc (ownM_alloc (ownM_new w 25) (.cells #[.int .i64 r, .int .i64 0, .int .i64 0, .int .i64 (-r), .int .i64 0, .int .i64 0, .int .i64 0, .int .i64 r, .int .i64 0, .int .i64 0, .int .i64 (-r), .int .i64 0, .int .i64 0, .int .i64 0, .int .i64 r, .int .i64 0, .int .i64 0, .int .i64 (-r)] 33)) (.cells #[.slice (some ⟨w.heap.size + 1, 0, none⟩) 6 6, .slice (some ⟨w.heap.size + 1 + 1 + 1, 0, none⟩) 8 8] 25)) (.cells #[.int .i64 0, .int .i64 2, .int .i64 4, .int .i64 2, .int .i64 1, .int .i64 4, .int .i64 1, .int .i64 3, .int .i64 4, .int .i64 3, .int .i64 0, .int .i64 4, .int .i64 2, .int .i64 0, .int .i64 5, .int .i64 1, .int .i64 2, .int .i64 5, .int .i64 3, .int .i64 1, .int .i64 5, .int .i64 0, .int .i64 3, .int .i64 5] 55))
  have B8 := Lib.hid (balloc (balloc (balloc (balloc (Below.refl w.heap.size w) (.cells #[.slice none 0 0, .slice none 0 0] 25)) (.cells #[.int .i64 r, .int .i64 0, .int .i64 0, .int .i64 (-r), .int .i64 0, .int .i64 0, .int .i64 0, .int .i64 r, .int .i64 0, .int .i64 0, .int .i64 (-r), .int .i64 0, .int .i64 0, .int .i64 0, .int .i64 r, .int .i64 0, .int .i64 0, .int .i64 (-r)] 33)) (.cells #[.slice (some ⟨w.heap.size + 1, 0, none⟩) 6 6, .slice (some ⟨w.heap.size + 1 + 1 + 1, 0, none⟩) 8 8] 25)) (.cells #[.int .i64 0, .int .i64 2, .int .i64 4, .int .i64 2, .int .i64 1, .int .i64 4, .int .i64 1, .int .i64 3, .int .i64 4, .int .i64 3, .int .i64 0, .int .i64 4, .int .i64 2, .int .i64 0, .int .i64 5, .int .i64 1, .int .i64 2, .int .i64 5, .int .i64 3, .int .i64 1, .int .i64 5, .int .i64 0, .int .i64 3, .int .i64 5] 55))
  by_cases h : vcode ⟨6, 8, octP r, octF⟩ = 0
  · have Z := Lib.hid h
    clear h
    refine (rtold_yes _ 6 6 _ 8 8 (octP r) octF _ (by exact LP.out) (by exact LF.out) (by decide) (by decide) Z.out).mono ?_
    rintro e w1 ⟨rfl, hb⟩
    have M9 := ownM_below M8.out hb
    have BB := Lib.hid (bstep B8.out hb)
    have LA := Lib.hid (lst_below LP.out hb)
    have LB := Lib.hid (lst_below LF.out hb)
    obtain ⟨m1, m2, m3, m4, m5⟩ := M9
    clear hb
    go_wp2
    refine bodyPost_ret (v := .tuple #[msv (some ⟨w.heap.size + 1, 0, none⟩) 6 6 (some ⟨w.heap.size + 1 + 1 + 1, 0, none⟩) 8 8, .int .i64 0]) (by rw [results_cell_tmp rfl]; go_simp) rfl ⟨fun _ => ⟨_, _, _, _, rfl, lst_put2 LA.out (fun b e => by have := congrArg Addr.block (Option.some.inj e); simp at this; omega), lst_put2 LB.out (fun b e => by have := congrArg Addr.block (Option.some.inj e); simp at this; omega), ?_⟩, fun k => absurd Z.out k⟩
    exact below_put2 BB.out (Nat.le_refl _)
  · have Z := Lib.hid h
    clear h
    refine (rtold_not _ 6 6 _ 8 8 (octP r) octF _ (by exact LP.out) (by exact LF.out) (by decide) (by decide) Z.out).mono ?_
    rintro e w1 ⟨rfl, hb⟩
    have M9 := ownM_below M8.out hb
    have BB := Lib.hid (bstep B8.out hb)
    obtain ⟨m1, m2, m3, m4, m5⟩ := M9
    clear hb
    go_wp2
    refine bodyPost_ret (v := .tuple #[msv none 0 0 none 0 0, .int .i64 (vcode ⟨6, 8, octP r, octF⟩)]) (by rw [results_cell_tmp rfl]; go_simp) rfl ⟨fun k => absurd k Z.out, fun _ => ⟨rfl, ?_⟩⟩
    exact below_put2 BB.out (Nat.le_refl _)

end Go.Proofs.Ytcphdlcglaopjaa
