/-
  What Turn and Mirror answer for every mesh, in the program and in the document's answer.
-/
import Derived.Test.YtfpenkgkcjpknaaTurnNum
import Derived.Test.YtfpenkgkcjpknaaTurns2
import Derived.Test.YtfpenkgkcjpknaaTurns3
import Derived.Test.YtfpenkgkcjpknaaMoves1
import Derived.Test.YtfpenkgkcjpknaaCopy
namespace Go.Proofs.Ytfpenkgkcjpknaa
open Go.ChangeShapes Go.WideShapes Go.RowKit
open Sh
theorem meshN_moved {N NF : Nat} {P F : Nat → P3} {code : Int} {w w' : World} {e : Ending} (h : MovedW N NF P F code w e w') : MeshN N NF P F code w e w' := by
  obtain ⟨a, c, a', c', h1, h2, h3, h4⟩ := h
  exact ⟨a, c, a', c', h1, lstw_lst h2, lstw_lst h3, h4⟩
theorem tu_bd {p : P3} (h : inP 64 p = true) : BdP 1048576 p := (inP_iff.1 h).mono (by decide)
theorem sturn_any (a : Option Addr) (np c : Nat) (a' : Option Addr) (nf c' : Nat) (P F : Nat → P3) (w : World) (rp : Lst w a np P) (rf : Lst w a' nf F) (hn : np ≤ 1000000) (hm : nf ≤ 1000000) :
    Calls Try.prog 8 #[msv a np c a' nf c'] w (MeshN (if (vcode ⟨np, nf, P, F⟩) = 0 then np else 0) (if (vcode ⟨np, nf, P, F⟩) = 0 then nf else 0) (fun k => tuP (P k)) F (vcode ⟨np, nf, P, F⟩) w) := by
  have V := fun W (B : Below w.heap.size w W) => val_any a np c a' nf c' P F W (lst_below rp B) (lst_below rf B) hn hm
  have E : vcode ⟨np, nf, (fun k => tuP (P k)), F⟩ = vcode ⟨np, nf, P, F⟩ := vcode_tu np nf P F
  by_cases z : vcode ⟨np, nf, P, F⟩ = 0
  · obtain ⟨p1, p2, p3, p4, p5, _⟩ := vcode_rows z
    have pin := pts_in (vcode_ok z).2.2.2.1
    obtain ⟨b, off, rfl, rP⟩ := rp p1
    rw [z] at V E
    rw [z]
    refine (turn_row b off np c a' nf c' (fun k => tuP (P k)) F _ _ _ w (Lib.hid V) (Lib.hid fun W B => placed_turn b off np c a' nf c' P F (fun k => tuP (P k)) W (row3_below rP B) (lst_below rf B) p1 hn hm (Lib.hid fun W' B' i hi => kturn (P i) W' (tu_bd (pin i hi)))) hn hm (Lib.hid ⟨by rw [E], by rw [E], by rw [E]⟩)).mono fun _ _ h => meshN_moved h
  · rw [if_neg z, if_neg z]
    exact (turn_no a np c a' nf c' _ w (Lib.hid V) z).mono fun _ _ h => meshN_moved (movedW_none h)
theorem rturn_any (a : Option Addr) (np c : Nat) (a' : Option Addr) (nf c' : Nat) (P F : Nat → P3) (w : World) (rp : Lst w a np P) (rf : Lst w a' nf F) (hn : np ≤ 1000000) (hm : nf ≤ 1000000) :
    Calls Try.prog 9 #[msv a np c a' nf c'] w (MeshN (if (vcode ⟨np, nf, P, F⟩) = 0 then np else 0) (if (vcode ⟨np, nf, P, F⟩) = 0 then nf else 0) (fun k => tuP (P k)) F (vcode ⟨np, nf, P, F⟩) w) := by
  have V := fun W (B : Below w.heap.size w W) => rval_any a np c a' nf c' P F W (lst_below rp B) (lst_below rf B) hn hm
  have E : vcode ⟨np, nf, (fun k => tuP (P k)), F⟩ = vcode ⟨np, nf, P, F⟩ := vcode_tu np nf P F
  by_cases z : vcode ⟨np, nf, P, F⟩ = 0
  · obtain ⟨p1, p2, p3, p4, p5, _⟩ := vcode_rows z
    have pin := pts_in (vcode_ok z).2.2.2.1
    obtain ⟨b, off, rfl, rP⟩ := rp p1
    rw [z] at V E
    rw [z]
    refine (rturn_row b off np c a' nf c' P F (fun k => tuP (P k)) F rfl _ _ _ w (Lib.hid V) (Lib.hid fun W B => copy_any _ np c a' nf c' P F W (lst_below rp B) (lst_below rf B) hn hm) (Lib.hid fun i hi => ⟨rfl, tu_bd (pin i hi)⟩) p1 p3 hn hm (Lib.hid ⟨by rw [E], by rw [E], by rw [E]⟩)).mono fun _ _ h => meshN_moved h
  · rw [if_neg z, if_neg z]
    exact (rturn_no a np c a' nf c' _ w (Lib.hid V) z).mono fun _ _ h => meshN_moved (movedW_none h)
theorem smirror_any (a : Option Addr) (np c : Nat) (a' : Option Addr) (nf c' : Nat) (P F : Nat → P3) (w : World) (rp : Lst w a np P) (rf : Lst w a' nf F) (hn : np ≤ 1000000) (hm : nf ≤ 1000000) :
    Calls Try.prog 10 #[msv a np c a' nf c'] w (MeshN (if (vcode ⟨np, nf, P, F⟩) = 0 then np else 0) (if (vcode ⟨np, nf, P, F⟩) = 0 then nf else 0) (fun k => miP (P k)) (fun k => swF (F k)) (vcode ⟨np, nf, P, F⟩) w) := by
  have V := fun W (B : Below w.heap.size w W) => val_any a np c a' nf c' P F W (lst_below rp B) (lst_below rf B) hn hm
  have E : vcode ⟨np, nf, (fun k => miP (P k)), (fun k => swF (F k))⟩ = vcode ⟨np, nf, P, F⟩ := vcode_mi np nf P F
  by_cases z : vcode ⟨np, nf, P, F⟩ = 0
  · obtain ⟨p1, p2, p3, p4, p5, _⟩ := vcode_rows z
    have pin := pts_in (vcode_ok z).2.2.2.1
    obtain ⟨b, off, rfl, rP⟩ := rp p1
    rw [z] at V E
    rw [z]
    refine (mirror_row b off np c a' nf c' F (fun k => miP (P k)) (fun k => swF (F k)) (fun _ => rfl) _ _ _ w (Lib.hid V) (Lib.hid fun W B => placedD_mirror b off np c a' nf c' P F (fun k => miP (P k)) W (row3_below rP B) (lst_below rf B) p1 hn hm (Lib.hid fun W' B' i hi => kmirror (P i) W' (tu_bd (pin i hi)))) p1 p3 hn hm (Lib.hid ⟨by rw [E], by rw [E], by rw [E]⟩)).mono fun _ _ h => meshN_moved h
  · rw [if_neg z, if_neg z]
    exact (mirror_no a np c a' nf c' _ w (Lib.hid V) z).mono fun _ _ h => meshN_moved (movedW_none h)
theorem rmirror_any (a : Option Addr) (np c : Nat) (a' : Option Addr) (nf c' : Nat) (P F : Nat → P3) (w : World) (rp : Lst w a np P) (rf : Lst w a' nf F) (hn : np ≤ 1000000) (hm : nf ≤ 1000000) :
    Calls Try.prog 11 #[msv a np c a' nf c'] w (MeshN (if (vcode ⟨np, nf, P, F⟩) = 0 then np else 0) (if (vcode ⟨np, nf, P, F⟩) = 0 then nf else 0) (fun k => miP (P k)) (fun k => swF (F k)) (vcode ⟨np, nf, P, F⟩) w) := by
  have V := fun W (B : Below w.heap.size w W) => rval_any a np c a' nf c' P F W (lst_below rp B) (lst_below rf B) hn hm
  have E : vcode ⟨np, nf, (fun k => miP (P k)), (fun k => swF (F k))⟩ = vcode ⟨np, nf, P, F⟩ := vcode_mi np nf P F
  by_cases z : vcode ⟨np, nf, P, F⟩ = 0
  · obtain ⟨p1, p2, p3, p4, p5, _⟩ := vcode_rows z
    have pin := pts_in (vcode_ok z).2.2.2.1
    obtain ⟨b, off, rfl, rP⟩ := rp p1
    rw [z] at V E
    rw [z]
    refine (rmirror_row b off np c a' nf c' P F (fun k => miP (P k)) (fun k => swF (F k)) (fun _ => rfl) _ _ _ w (Lib.hid V) (Lib.hid fun W B => copy_any _ np c a' nf c' P F W (lst_below rp B) (lst_below rf B) hn hm) (Lib.hid fun i hi => ⟨rfl, tu_bd (pin i hi)⟩) p1 p3 hn hm (Lib.hid ⟨by rw [E], by rw [E], by rw [E]⟩)).mono fun _ _ h => meshN_moved h
  · rw [if_neg z, if_neg z]
    exact (rmirror_no a np c a' nf c' _ w (Lib.hid V) z).mono fun _ _ h => meshN_moved (movedW_none h)

end Go.Proofs.Ytfpenkgkcjpknaa
