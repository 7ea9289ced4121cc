/-
  The law ShapeMoves: for every mesh, vector and number it answers true.
-/
import Derived.Test.YtcphdlcglaopjaaMovesW
import Derived.Test.YtcphdlcglaopjaaRMoves
import Derived.Test.YtcphdlcglaopjaaMoves1
import Derived.Test.YtcphdlcglaopjaaCopy
namespace Go.Proofs.Ytcphdlcglaopjaa
open Go.ChangeShapes Go.WideShapes Go.RowKit
open Sh
/-- the code of a mesh that is made of another one: its own error first, then that of the number, then that of what is made -/
def mvcode (z : Int) (ok : Bool) (y : Int) : Int := if z = 0 then (if ok = true then y else 1) else z
theorem ite_le3 {p : Prop} [Decidable p] {a b m : Nat} (ha : a ≤ m) (hb : b ≤ m) : (if p then a else b) ≤ m := by split <;> assumption
theorem smove_any (a : Option Addr) (np c : Nat) (a' : Option Addr) (nf c' : Nat) (v : P3) (P F : Nat → P3) (w : World) (rp : Lst w a np P) (rf : Lst w a' nf F) (hn : np ≤ 1000000) (hm : nf ≤ 1000000) :
    Calls Try.prog 40 #[msv a np c a' nf c', ptv v] w (MovedW (if (mvcode (vcode ⟨np, nf, P, F⟩) (inP 128 v) (vcode ⟨np, nf, (fun i => add (P i) v), F⟩)) = 0 then np else 0) (if (mvcode (vcode ⟨np, nf, P, F⟩) (inP 128 v) (vcode ⟨np, nf, (fun i => add (P i) v), F⟩)) = 0 then nf else 0) (fun i => add (P i) v) F (mvcode (vcode ⟨np, nf, P, F⟩) (inP 128 v) (vcode ⟨np, nf, (fun i => add (P i) v), F⟩)) w) := by
  have V := fun W (B : Below w.heap.size w W) => val_any a np c a' nf c' P F W (lst_below rp B) (lst_below rf B) hn hm
  by_cases z : vcode ⟨np, nf, P, F⟩ = 0
  · obtain ⟨p1, p2, p3, p4, p5, _⟩ := vcode_rows z
    have pin := pts_in (vcode_ok z).2.2.2.1
    obtain ⟨b, off, rfl, rP⟩ := rp p1
    rw [z] at V
    cases ok : (inP 128 v) with
    | false =>
      have e : mvcode (vcode ⟨np, nf, P, F⟩) false (vcode ⟨np, nf, (fun i => add (P i) v), F⟩) = 1 := by unfold mvcode; rw [if_pos z]; rfl
      rw [e, if_neg (by decide), if_neg (by decide)]
      have I := fun W => within_any v 128 W (by decide) (by decide)
      rw [ok] at I
      exact (move_far (some ⟨b, off, none⟩) np c a' nf c' v w (Lib.hid V) (Lib.hid I)).mono fun _ _ h => movedW_none h
    | true =>
      have e : mvcode (vcode ⟨np, nf, P, F⟩) true (vcode ⟨np, nf, (fun i => add (P i) v), F⟩) = vcode ⟨np, nf, (fun i => add (P i) v), F⟩ := by unfold mvcode; rw [if_pos z]; rfl
      rw [e]
      have I := fun W => within_any v 128 W (by decide) (by decide)
      rw [ok] at I
      exact move_row b off np c a' nf c' v _ F _ _ _ w (Lib.hid V) (Lib.hid I) (Lib.hid fun W B ow => placed_move b off np c a' nf c' (w.heap.size + 1) P F _ W (row3_below rP B) (lst_below rf B) p1 hn hm (Lib.hid fun W' B' i hi => kmove (P i) v _ W' (own_below ow B') ((add_bd (inP_iff.1 (pin i hi)) (inP_iff.1 ok)).mono (by decide)))) hn hm (Lib.hid ⟨rfl, rfl, rfl⟩)
  · have e : mvcode (vcode ⟨np, nf, P, F⟩) (inP 128 v) (vcode ⟨np, nf, (fun i => add (P i) v), F⟩) = vcode ⟨np, nf, P, F⟩ := by unfold mvcode; rw [if_neg z]
    rw [e, if_neg z, if_neg z]
    exact (move_no a np c a' nf c' v _ w (Lib.hid V) z).mono fun _ _ h => movedW_none h
theorem rmove_any (a : Option Addr) (np c : Nat) (a' : Option Addr) (nf c' : Nat) (v : P3) (P F : Nat → P3) (w : World) (rp : Lst w a np P) (rf : Lst w a' nf F) (hn : np ≤ 1000000) (hm : nf ≤ 1000000) :
    Calls Try.prog 41 #[msv a np c a' nf c', ptv v] w (MovedW (if (mvcode (vcode ⟨np, nf, P, F⟩) (inP 128 v) (vcode ⟨np, nf, (fun i => add (P i) v), F⟩)) = 0 then np else 0) (if (mvcode (vcode ⟨np, nf, P, F⟩) (inP 128 v) (vcode ⟨np, nf, (fun i => add (P i) v), F⟩)) = 0 then nf else 0) (fun i => add (P i) v) F (mvcode (vcode ⟨np, nf, P, F⟩) (inP 128 v) (vcode ⟨np, nf, (fun i => add (P i) v), F⟩)) w) := by
  have V := fun W (B : Below w.heap.size w W) => rval_any a np c a' nf c' P F W (lst_below rp B) (lst_below rf B) hn hm
  by_cases z : vcode ⟨np, nf, P, F⟩ = 0
  · obtain ⟨p1, p2, p3, p4, p5, _⟩ := vcode_rows z
    have pin := pts_in (vcode_ok z).2.2.2.1
    obtain ⟨b, off, rfl, rP⟩ := rp p1
    rw [z] at V
    cases ok : (inP 128 v) with
    | false =>
      have e : mvcode (vcode ⟨np, nf, P, F⟩) false (vcode ⟨np, nf, (fun i => add (P i) v), F⟩) = 1 := by unfold mvcode; rw [if_pos z]; rfl
      rw [e, if_neg (by decide), if_neg (by decide)]
      have I := fun W => near_any v 128 W (by decide) (by decide)
      rw [ok] at I
      exact (rmove_far (some ⟨b, off, none⟩) np c a' nf c' v w (Lib.hid V) (Lib.hid I)).mono fun _ _ h => movedW_none h
    | true =>
      have e : mvcode (vcode ⟨np, nf, P, F⟩) true (vcode ⟨np, nf, (fun i => add (P i) v), F⟩) = vcode ⟨np, nf, (fun i => add (P i) v), F⟩ := by unfold mvcode; rw [if_pos z]; rfl
      rw [e]
      have I := fun W => near_any v 128 W (by decide) (by decide)
      rw [ok] at I
      exact rmove_row b off np c a' nf c' v P F _ _ _ _ w (Lib.hid V) (Lib.hid I) (Lib.hid fun W B => copy_any (some ⟨b, off, none⟩) np c a' nf c' P F W (lst_below rp B) (lst_below rf B) hn hm) (Lib.hid fun i hi W => rplus_any (P i) v W ((add_bd (inP_iff.1 (pin i hi)) (inP_iff.1 ok)).mono (by decide))) p1 hn hm (Lib.hid ⟨rfl, rfl, rfl⟩)
  · have e : mvcode (vcode ⟨np, nf, P, F⟩) (inP 128 v) (vcode ⟨np, nf, (fun i => add (P i) v), F⟩) = vcode ⟨np, nf, P, F⟩ := by unfold mvcode; rw [if_neg z]
    rw [e, if_neg z, if_neg z]
    exact (rmove_no a np c a' nf c' v _ w (Lib.hid V) z).mono fun _ _ h => movedW_none h
theorem sscale_any (a : Option Addr) (np c : Nat) (a' : Option Addr) (nf c' : Nat) (k0 : Int) (P F : Nat → P3) (w : World) (rp : Lst w a np P) (rf : Lst w a' nf F) (hn : np ≤ 1000000) (hm : nf ≤ 1000000) :
    Calls Try.prog 42 #[msv a np c a' nf c', .int .i64 k0] w (MovedW (if (mvcode (vcode ⟨np, nf, P, F⟩) (decide (1 ≤ k0 ∧ k0 ≤ 128)) (vcode ⟨np, nf, (fun i => tim k0 (P i)), F⟩)) = 0 then np else 0) (if (mvcode (vcode ⟨np, nf, P, F⟩) (decide (1 ≤ k0 ∧ k0 ≤ 128)) (vcode ⟨np, nf, (fun i => tim k0 (P i)), F⟩)) = 0 then nf else 0) (fun i => tim k0 (P i)) F (mvcode (vcode ⟨np, nf, P, F⟩) (decide (1 ≤ k0 ∧ k0 ≤ 128)) (vcode ⟨np, nf, (fun i => tim k0 (P i)), F⟩)) w) := by
  have V := fun W (B : Below w.heap.size w W) => val_any a np c a' nf c' P F W (lst_below rp B) (lst_below rf B) hn hm
  by_cases z : vcode ⟨np, nf, P, F⟩ = 0
  · obtain ⟨p1, p2, p3, p4, p5, _⟩ := vcode_rows z
    have pin := pts_in (vcode_ok z).2.2.2.1
    obtain ⟨b, off, rfl, rP⟩ := rp p1
    rw [z] at V
    cases ok : (decide (1 ≤ k0 ∧ k0 ≤ 128)) with
    | false =>
      have e : mvcode (vcode ⟨np, nf, P, F⟩) false (vcode ⟨np, nf, (fun i => tim k0 (P i)), F⟩) = 1 := by unfold mvcode; rw [if_pos z]; rfl
      rw [e, if_neg (by decide), if_neg (by decide)]
      have no : ¬ (1 ≤ k0 ∧ k0 ≤ 128) := of_decide_eq_false ok
      by_cases l : k0 < 1
      · exact (scale_far0 (some ⟨b, off, none⟩) np c a' nf c' k0 w (Lib.hid V) l).mono fun _ _ h => movedW_none h
      · exact (scale_far1 (some ⟨b, off, none⟩) np c a' nf c' k0 w (Lib.hid V) (by omega)).mono fun _ _ h => movedW_none h
    | true =>
      have e : mvcode (vcode ⟨np, nf, P, F⟩) true (vcode ⟨np, nf, (fun i => tim k0 (P i)), F⟩) = vcode ⟨np, nf, (fun i => tim k0 (P i)), F⟩ := by unfold mvcode; rw [if_pos z]; rfl
      rw [e]
      obtain ⟨y1, y2⟩ := of_decide_eq_true ok
      exact scale_row b off np c a' nf c' k0 _ F _ _ _ w (Lib.hid V) y1 y2 (Lib.hid fun W B ow => placed_scale b off np c a' nf c' (w.heap.size + 1) P F _ W (row3_below rP B) (lst_below rf B) p1 hn hm (Lib.hid fun W' B' i hi => kscale (P i) k0 _ W' (cel_below ow B') ((tim_bd (K := 128) (by omega) (by omega) (inP_iff.1 (pin i hi))).mono (by decide)))) hn hm (Lib.hid ⟨rfl, rfl, rfl⟩)
  · have e : mvcode (vcode ⟨np, nf, P, F⟩) (decide (1 ≤ k0 ∧ k0 ≤ 128)) (vcode ⟨np, nf, (fun i => tim k0 (P i)), F⟩) = vcode ⟨np, nf, P, F⟩ := by unfold mvcode; rw [if_neg z]
    rw [e, if_neg z, if_neg z]
    exact (scale_no a np c a' nf c' k0 _ w (Lib.hid V) z).mono fun _ _ h => movedW_none h
theorem rscale_any (a : Option Addr) (np c : Nat) (a' : Option Addr) (nf c' : Nat) (k0 : Int) (P F : Nat → P3) (w : World) (rp : Lst w a np P) (rf : Lst w a' nf F) (hn : np ≤ 1000000) (hm : nf ≤ 1000000) :
    Calls Try.prog 43 #[msv a np c a' nf c', .int .i64 k0] w (MovedW (if (mvcode (vcode ⟨np, nf, P, F⟩) (decide (1 ≤ k0 ∧ k0 ≤ 128)) (vcode ⟨np, nf, (fun i => tim k0 (P i)), F⟩)) = 0 then np else 0) (if (mvcode (vcode ⟨np, nf, P, F⟩) (decide (1 ≤ k0 ∧ k0 ≤ 128)) (vcode ⟨np, nf, (fun i => tim k0 (P i)), F⟩)) = 0 then nf else 0) (fun i => tim k0 (P i)) F (mvcode (vcode ⟨np, nf, P, F⟩) (decide (1 ≤ k0 ∧ k0 ≤ 128)) (vcode ⟨np, nf, (fun i => tim k0 (P i)), F⟩)) w) := by
  have V := fun W (B : Below w.heap.size w W) => rval_any a np c a' nf c' P F W (lst_below rp B) (lst_below rf B) hn hm
  by_cases z : vcode ⟨np, nf, P, F⟩ = 0
  · obtain ⟨p1, p2, p3, p4, p5, _⟩ := vcode_rows z
    have pin := pts_in (vcode_ok z).2.2.2.1
    obtain ⟨b, off, rfl, rP⟩ := rp p1
    rw [z] at V
    cases ok : (decide (1 ≤ k0 ∧ k0 ≤ 128)) with
    | false =>
      have e : mvcode (vcode ⟨np, nf, P, F⟩) false (vcode ⟨np, nf, (fun i => tim k0 (P i)), F⟩) = 1 := by unfold mvcode; rw [if_pos z]; rfl
      rw [e, if_neg (by decide), if_neg (by decide)]
      have I := fun W => rwithin_any k0 1 128 W
      rw [ok] at I
      exact (rscale_far (some ⟨b, off, none⟩) np c a' nf c' k0 w (Lib.hid V) (Lib.hid I)).mono fun _ _ h => movedW_none h
    | true =>
      have e : mvcode (vcode ⟨np, nf, P, F⟩) true (vcode ⟨np, nf, (fun i => tim k0 (P i)), F⟩) = vcode ⟨np, nf, (fun i => tim k0 (P i)), F⟩ := by unfold mvcode; rw [if_pos z]; rfl
      rw [e]
      have I := fun W => rwithin_any k0 1 128 W
      rw [ok] at I
      obtain ⟨y1, y2⟩ := of_decide_eq_true ok
      exact rscale_row b off np c a' nf c' k0 P F _ _ _ _ w (Lib.hid V) (Lib.hid I) (Lib.hid fun W B => copy_any (some ⟨b, off, none⟩) np c a' nf c' P F W (lst_below rp B) (lst_below rf B) hn hm) (Lib.hid fun i hi W => rtimes_any k0 (P i) W ((tim_bd (K := 128) (by omega) (by omega) (inP_iff.1 (pin i hi))).mono (by decide))) p1 hn hm (Lib.hid ⟨rfl, rfl, rfl⟩)
  · have e : mvcode (vcode ⟨np, nf, P, F⟩) (decide (1 ≤ k0 ∧ k0 ≤ 128)) (vcode ⟨np, nf, (fun i => tim k0 (P i)), F⟩) = vcode ⟨np, nf, P, F⟩ := by unfold mvcode; rw [if_neg z]
    rw [e, if_neg z, if_neg z]
    exact (rscale_no a np c a' nf c' k0 _ w (Lib.hid V) z).mono fun _ _ h => movedW_none h
theorem moves_walk (a : Option Addr) (np c : Nat) (P : Nat → P3) (a' : Option Addr) (nf c' : Nat) (F : Nat → P3) (v : P3) (k0 : Int) (w : World) (l : np ≤ maxLen) (k : nf ≤ maxLen) (rp : Lst w a np P) (rf : Lst w a' nf F) :
    Calls Try.prog 7 #[msv a np c a' nf c', ptv v, .int .i64 k0] w fun e w' => e = .returned (.bool true) ∧ Below w.heap.size w w' := by
  unfold maxLen at l k
  have L := fun W => long_any a np c a' nf c' W (by omega) (by omega)
  by_cases g : 200 < np ∨ 300 < nf
  · rw [decide_eq_true g] at L
    exact moves_long a np c a' nf c' v k0 w (Lib.hid L) (Lib.hid fun W => known_any2 W)
  · rw [decide_eq_false g] at L
    have hn : np ≤ 1000000 := by omega
    have hm : nf ≤ 1000000 := by omega
    exact moves_walk0 a np c a' nf c' v k0 P F _ _ _ _ _ _ _ _ w (Lib.hid L)
      (Lib.hid fun W B => copy_any a np c a' nf c' P F W (lst_below rp B) (lst_below rf B) hn hm)
      (Lib.hid fun a c a' c' W rp rf => smove_any a np c a' nf c' v P F W rp rf hn hm)
      (Lib.hid fun a c a' c' W rp rf => rmove_any a np c a' nf c' v P F W rp rf hn hm)
      (Lib.hid fun a c a' c' W rp rf => sscale_any a np c a' nf c' k0 P F W rp rf hn hm)
      (Lib.hid fun a c a' c' W rp rf => rscale_any a np c a' nf c' k0 P F W rp rf hn hm)
      (Lib.hid fun W => known_any2 W) rp rf hn hm (ite_le3 hn (by omega)) (ite_le3 hm (by omega)) (ite_le3 hn (by omega)) (ite_le3 hm (by omega))

end Go.Proofs.Ytcphdlcglaopjaa
