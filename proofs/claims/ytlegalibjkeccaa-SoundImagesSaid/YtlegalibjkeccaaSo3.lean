/-
  The contracts of the errors of pulses and microphones, in the program and in the document's answer.
-/
import Derived.Test.YtlegalibjkeccaaSo2
import Derived.Test.YtlegalibjkeccaaCharged
namespace Go.Proofs.Ytlegalibjkeccaa
open Go.ChangeShapes Go.WideShapes Go.RowKit
open Sh
/-- a pulse: its panel, its tick, its power; as a value, as a block -/
abbrev Pu := P9 × Int × Int
abbrev puv (p : Pu) : Value := .agg #[.int .i64 p.1.1.1, .int .i64 p.1.1.2.1, .int .i64 p.1.1.2.2, .int .i64 p.1.2.1.1, .int .i64 p.1.2.1.2.1, .int .i64 p.1.2.1.2.2, .int .i64 p.1.2.2.1, .int .i64 p.1.2.2.2.1, .int .i64 p.1.2.2.2.2, .int .i64 p.2.1, .int .i64 p.2.2]
abbrev pub (p : Pu) (t : TypeId) : Obj := .cells #[.int .i64 p.1.1.1, .int .i64 p.1.1.2.1, .int .i64 p.1.1.2.2, .int .i64 p.1.2.1.1, .int .i64 p.1.2.1.2.1, .int .i64 p.1.2.1.2.2, .int .i64 p.1.2.2.1, .int .i64 p.1.2.2.2.1, .int .i64 p.1.2.2.2.2, .int .i64 p.2.1, .int .i64 p.2.2] t
abbrev micv (x : P3) (s d : Int) : Value := .agg #[.int .i64 x.1, .int .i64 x.2.1, .int .i64 x.2.2, .int .i64 s, .int .i64 d]
abbrev micb (x : P3) (s d : Int) (t : TypeId) : Obj := .cells #[.int .i64 x.1, .int .i64 x.2.1, .int .i64 x.2.2, .int .i64 s, .int .i64 d] t
/-- the error of a pulse, and of the first k pulses -/
def pucode (p : Pu) : Int := if pcode p.1.1 p.1.2.1 p.1.2.2 = 0 then (if rngB p.2.1 0 1000 && rngB p.2.2 (-100) 100 then 0 else 1) else pcode p.1.1 p.1.2.1 p.1.2.2
def pucodes (Q : Nat → Pu) : Nat → Int
  | 0 => 0
  | k + 1 => if pucodes Q k = 0 then pucode (Q k) else pucodes Q k
def vpcode (n : Nat) (Q : Nat → Pu) : Int := if n ≤ 16 then pucodes Q n else 4
theorem pucodes_stop {Q : Nat → Pu} {k : Nat} (h : pucodes Q k ≠ 0) : ∀ {n : Nat}, k ≤ n → pucodes Q n = pucodes Q k
  | 0, hn => by
    have : k = 0 := by omega
    subst this; rfl
  | n + 1, hn => by
    by_cases e : k = n + 1
    · subst e; rfl
    · have z := pucodes_stop h (n := n) (by omega)
      show (if pucodes Q n = 0 then _ else _) = _
      rw [z, if_neg h]
theorem pucodes_hit {Q : Nat → Pu} {k n : Nat} (hk : k < n) (g : pucodes Q k = 0) (h : pucode (Q k) ≠ 0) : pucodes Q n = pucode (Q k) := by
  have e : pucodes Q (k + 1) = pucode (Q k) := by
    show (if pucodes Q k = 0 then _ else _) = _
    rw [if_pos g]
  rw [pucodes_stop (k := k + 1) (by rw [e]; exact h) (by omega), e]
theorem pucodes_next {Q : Nat → Pu} {k : Nat} (g : pucodes Q k = 0) (h : pucode (Q k) = 0) : pucodes Q (k + 1) = 0 := by
  show (if pucodes Q k = 0 then _ else _) = _
  rw [if_pos g, h]
theorem pucodes_all {Q : Nat → Pu} : ∀ {n : Nat}, pucodes Q n = 0 → ∀ k, k < n → pucode (Q k) = 0
  | 0, _, k, h => absurd h (Nat.not_lt_zero k)
  | n + 1, h, k, hk => by
    have h : (if pucodes Q n = 0 then pucode (Q n) else pucodes Q n) = 0 := h
    by_cases z : pucodes Q n = 0
    · rw [if_pos z] at h
      by_cases e : k = n
      · subst e; exact h
      · exact pucodes_all z k (by omega)
    · rw [if_neg z] at h
      exact absurd h z
theorem pucode_ok {p : Pu} (h : pucode p = 0) : BdT 64 p.1 ∧ pcode p.1.1 p.1.2.1 p.1.2.2 = 0 ∧ (0 ≤ p.2.1 ∧ p.2.1 ≤ 1000) ∧ -100 ≤ p.2.2 ∧ p.2.2 ≤ 100 := by
  unfold pucode at h
  by_cases z : pcode p.1.1 p.1.2.1 p.1.2.2 = 0
  · rw [if_pos z] at h
    have hr : (rngB p.2.1 0 1000 && rngB p.2.2 (-100) 100) = true := by
      cases e : (rngB p.2.1 0 1000 && rngB p.2.2 (-100) 100) with
      | true => rfl
      | false => rw [e] at h; exact absurd h (by decide)
    rw [Bool.and_eq_true] at hr
    refine ⟨?_, z, rngB_iff.1 hr.1, rngB_iff.1 hr.2⟩
    unfold pcode at z
    split at z
    · rename_i hh
      simp only [Bool.and_eq_true] at hh
      exact ⟨inP_iff.1 hh.1.1, inP_iff.1 hh.1.2, inP_iff.1 hh.2⟩
    · exact absurd z (by decide)
  · rw [if_neg z] at h
    exact absurd h z
/-- n pulses in memory, one behind the other -/
def RowU (w : World) (b off n : Nat) (Q : Nat → Pu) : Prop := b < w.heap.size ∧ ∀ k, k < n → w.cell? ⟨b, off + k * 11, none⟩ = some (.int .i64 (Q k).1.1.1) ∧ w.cell? ⟨b, off + k * 11 + 1, none⟩ = some (.int .i64 (Q k).1.1.2.1) ∧ w.cell? ⟨b, off + k * 11 + 1 + 1, none⟩ = some (.int .i64 (Q k).1.1.2.2) ∧ w.cell? ⟨b, off + k * 11 + 1 + 1 + 1, none⟩ = some (.int .i64 (Q k).1.2.1.1) ∧ w.cell? ⟨b, off + k * 11 + 1 + 1 + 1 + 1, none⟩ = some (.int .i64 (Q k).1.2.1.2.1) ∧ w.cell? ⟨b, off + k * 11 + 1 + 1 + 1 + 1 + 1, none⟩ = some (.int .i64 (Q k).1.2.1.2.2) ∧ w.cell? ⟨b, off + k * 11 + 1 + 1 + 1 + 1 + 1 + 1, none⟩ = some (.int .i64 (Q k).1.2.2.1) ∧ w.cell? ⟨b, off + k * 11 + 1 + 1 + 1 + 1 + 1 + 1 + 1, none⟩ = some (.int .i64 (Q k).1.2.2.2.1) ∧ w.cell? ⟨b, off + k * 11 + 1 + 1 + 1 + 1 + 1 + 1 + 1 + 1, none⟩ = some (.int .i64 (Q k).1.2.2.2.2) ∧ w.cell? ⟨b, off + k * 11 + 1 + 1 + 1 + 1 + 1 + 1 + 1 + 1 + 1, none⟩ = some (.int .i64 (Q k).2.1) ∧ w.cell? ⟨b, off + k * 11 + 1 + 1 + 1 + 1 + 1 + 1 + 1 + 1 + 1 + 1, none⟩ = some (.int .i64 (Q k).2.2)
theorem rowU_in {w wr : World} {B b off n : Nat} {Q : Nat → Pu} (r : RowU w b off n Q) (hb : Below B w wr) (h : b < B) : RowU wr b off n Q := by
  refine ⟨Nat.lt_of_lt_of_le r.1 hb.size, fun k hk => ?_⟩
  obtain ⟨h0, h1, h2, h3, h4, h5, h6, h7, h8, h9, h10⟩ := r.2 k hk
  exact ⟨(hb.cell (p := ⟨b, off + k * 11, none⟩) h).trans h0, (hb.cell (p := ⟨b, off + k * 11 + 1, none⟩) h).trans h1, (hb.cell (p := ⟨b, off + k * 11 + 1 + 1, none⟩) h).trans h2, (hb.cell (p := ⟨b, off + k * 11 + 1 + 1 + 1, none⟩) h).trans h3, (hb.cell (p := ⟨b, off + k * 11 + 1 + 1 + 1 + 1, none⟩) h).trans h4, (hb.cell (p := ⟨b, off + k * 11 + 1 + 1 + 1 + 1 + 1, none⟩) h).trans h5, (hb.cell (p := ⟨b, off + k * 11 + 1 + 1 + 1 + 1 + 1 + 1, none⟩) h).trans h6, (hb.cell (p := ⟨b, off + k * 11 + 1 + 1 + 1 + 1 + 1 + 1 + 1, none⟩) h).trans h7, (hb.cell (p := ⟨b, off + k * 11 + 1 + 1 + 1 + 1 + 1 + 1 + 1 + 1, none⟩) h).trans h8, (hb.cell (p := ⟨b, off + k * 11 + 1 + 1 + 1 + 1 + 1 + 1 + 1 + 1 + 1, none⟩) h).trans h9, (hb.cell (p := ⟨b, off + k * 11 + 1 + 1 + 1 + 1 + 1 + 1 + 1 + 1 + 1 + 1, none⟩) h).trans h10⟩
theorem rowU_below {w w1 : World} {b off n : Nat} {Q : Nat → Pu} (r : RowU w b off n Q) (hb : Below w.heap.size w w1) : RowU w1 b off n Q := rowU_in r hb r.1
def LstU (w : World) (a : Option Addr) (n : Nat) (Q : Nat → Pu) : Prop := 0 < n → ∃ b off, a = some ⟨b, off, none⟩ ∧ RowU w b off n Q
theorem lstU_below {w w1 : World} {a : Option Addr} {n : Nat} {Q : Nat → Pu} (h : LstU w a n Q) (hb : Below w.heap.size w w1) : LstU w1 a n Q := fun h0 => by
  obtain ⟨b, off, e, r⟩ := h h0
  exact ⟨b, off, e, rowU_below r hb⟩
/-- block b holds a pulse of the call's own -/
def OwnPu (w : World) (b : Nat) (p : Pu) : Prop := (w.cell? ⟨b, 0, none⟩ = some (.int .i64 p.1.1.1) ∧ w.cell? ⟨b, 1, none⟩ = some (.int .i64 p.1.1.2.1) ∧ w.cell? ⟨b, 2, none⟩ = some (.int .i64 p.1.1.2.2) ∧ w.cell? ⟨b, 3, none⟩ = some (.int .i64 p.1.2.1.1) ∧ w.cell? ⟨b, 4, none⟩ = some (.int .i64 p.1.2.1.2.1) ∧ w.cell? ⟨b, 5, none⟩ = some (.int .i64 p.1.2.1.2.2) ∧ w.cell? ⟨b, 6, none⟩ = some (.int .i64 p.1.2.2.1) ∧ w.cell? ⟨b, 7, none⟩ = some (.int .i64 p.1.2.2.2.1) ∧ w.cell? ⟨b, 8, none⟩ = some (.int .i64 p.1.2.2.2.2) ∧ w.cell? ⟨b, 9, none⟩ = some (.int .i64 p.2.1) ∧ w.cell? ⟨b, 10, none⟩ = some (.int .i64 p.2.2)) ∧ b < w.heap.size
theorem ownPu_new (w : World) (p : Pu) (t : TypeId) : OwnPu (w.alloc (pub p t)) w.heap.size p := ⟨⟨by go_simp, by go_simp, by go_simp, by go_simp, by go_simp, by go_simp, by go_simp, by go_simp, by go_simp, by go_simp, by go_simp⟩, by simp⟩
theorem ownPu_below {w w1 : World} {b : Nat} {p : Pu} (h : OwnPu w b p) (hb : Below w.heap.size w w1) : OwnPu w1 b p := by
  obtain ⟨⟨h0, h1, h2, h3, h4, h5, h6, h7, h8, h9, h10⟩, l⟩ := h
  exact ⟨⟨(hb.cell (p := ⟨b, 0, none⟩) l).trans h0, (hb.cell (p := ⟨b, 1, none⟩) l).trans h1, (hb.cell (p := ⟨b, 2, none⟩) l).trans h2, (hb.cell (p := ⟨b, 3, none⟩) l).trans h3, (hb.cell (p := ⟨b, 4, none⟩) l).trans h4, (hb.cell (p := ⟨b, 5, none⟩) l).trans h5, (hb.cell (p := ⟨b, 6, none⟩) l).trans h6, (hb.cell (p := ⟨b, 7, none⟩) l).trans h7, (hb.cell (p := ⟨b, 8, none⟩) l).trans h8, (hb.cell (p := ⟨b, 9, none⟩) l).trans h9, (hb.cell (p := ⟨b, 10, none⟩) l).trans h10⟩, Nat.lt_of_lt_of_le l hb.size⟩
theorem ownPu_alloc {w : World} {b : Nat} {p : Pu} (h : OwnPu w b p) (o : Obj) : OwnPu (w.alloc o) b p := ownPu_below h ((Below.refl _ _).alloc (Nat.le_refl _) _)
theorem ownPu_drew {w : World} {b : Nat} {p : Pu} (h : OwnPu w b p) : OwnPu w.drew b p := h
/-- one pulse, laid in new memory -/
theorem rowU_one (w : World) (p : Pu) (t : TypeId) : RowU (w.alloc (pub p t)) w.heap.size 0 1 (fun _ => p) := by
  refine ⟨by simp, fun k hk => ?_⟩
  obtain rfl : k = 0 := by omega
  simp only [Nat.zero_mul, Nat.add_zero]
  exact ⟨by go_simp, by go_simp, by go_simp, by go_simp, by go_simp, by go_simp, by go_simp, by go_simp, by go_simp, by go_simp, by go_simp⟩
/-- a microphone of the call's own -/
def OwnMic (w : World) (b : Nat) (x : P3) (s d : Int) : Prop := (w.cell? ⟨b, 0, none⟩ = some (.int .i64 x.1) ∧ w.cell? ⟨b, 1, none⟩ = some (.int .i64 x.2.1) ∧ w.cell? ⟨b, 2, none⟩ = some (.int .i64 x.2.2) ∧ w.cell? ⟨b, 3, none⟩ = some (.int .i64 s) ∧ w.cell? ⟨b, 4, none⟩ = some (.int .i64 d)) ∧ b < w.heap.size
theorem ownMic_new (w : World) (x : P3) (s d : Int) (t : TypeId) : OwnMic (w.alloc (micb x s d t)) w.heap.size x s d := ⟨⟨by go_simp, by go_simp, by go_simp, by go_simp, by go_simp⟩, by simp⟩
theorem ownMic_below {w w1 : World} {b : Nat} {x : P3} {s d : Int} (h : OwnMic w b x s d) (hb : Below w.heap.size w w1) : OwnMic w1 b x s d := by
  obtain ⟨⟨h0, h1, h2, h3, h4⟩, l⟩ := h
  exact ⟨⟨(hb.cell (p := ⟨b, 0, none⟩) l).trans h0, (hb.cell (p := ⟨b, 1, none⟩) l).trans h1, (hb.cell (p := ⟨b, 2, none⟩) l).trans h2, (hb.cell (p := ⟨b, 3, none⟩) l).trans h3, (hb.cell (p := ⟨b, 4, none⟩) l).trans h4⟩, Nat.lt_of_lt_of_le l hb.size⟩
theorem ownMic_alloc {w : World} {b : Nat} {x : P3} {s d : Int} (h : OwnMic w b x s d) (o : Obj) : OwnMic (w.alloc o) b x s d := ownMic_below h ((Below.refl _ _).alloc (Nat.le_refl _) _)
theorem ownMic_drew {w : World} {b : Nat} {x : P3} {s d : Int} (h : OwnMic w b x s d) : OwnMic w.drew b x s d := h
abbrev chp (p : Pu) : Ch := (p.1, p.2.2)
theorem chg_any (p : Pu) (w : World) : Calls Try.prog 53 #[puv p] w fun e w' => e = .returned (chv (chp p)) ∧ Below w.heap.size w w' := by
  go_enter Try.func53, Try.ntmps53
  go_wp2
  refine bodyPost_ret (v := chv (chp p)) (by rw [results_cell rfl]; go_simp) rfl ⟨rfl, ?_⟩
  (repeat' (first | exact Below.refl _ _ | refine Below.setCell ?_ (by simp <;> omega) _ | refine balloc ?_ _ | refine Below.drew ?_ | refine bdrewN ?_ _))
theorem rowC_one (w : World) (q : Ch) (t : TypeId) : RowC (w.alloc (chb q t)) w.heap.size 0 1 (fun _ => q) := by
  refine ⟨by simp, fun k hk => ?_⟩
  obtain rfl : k = 0 := by omega
  simp only [Nat.zero_mul, Nat.add_zero]
  exact ⟨by go_simp, by go_simp, by go_simp, by go_simp, by go_simp, by go_simp, by go_simp, by go_simp, by go_simp, by go_simp⟩
theorem chcodes_one (q : Ch) : chcodes (fun _ => q) 1 = chcode q := rfl
theorem chcode_pu (p : Pu) : chcode (chp p) = if pcode p.1.1 p.1.2.1 p.1.2.2 = 0 then (if rngB p.2.2 (-100) 100 then 0 else 1) else pcode p.1.1 p.1.2.1 p.1.2.2 := rfl
theorem chk8_no (p : Pu) (c : Int) (w : World) (V : Hid (∀ W : World, Calls Try.prog 52 #[.slice (some ⟨W.heap.size, 0, none⟩) 1 1] (W.alloc (chb (chp p) 75)) fun e w' => e = .returned (.int .i64 c) ∧ Below (W.alloc (chb (chp p) 75)).heap.size (W.alloc (chb (chp p) 75)) w')) (z : (c != 0) = true) : Calls Try.prog 40 #[puv p] w fun e w' => e = .returned (.int .i64 c) ∧ Below w.heap.size w w' := by
  go_enter Try.func40, Try.ntmps40
  go_wp2_with fail
  refine (chg_any p _).mono ?_
  rintro e w1 ⟨rfl, hb1⟩
  have PP := Lib.hid (ownPu_alloc (ownPu_below (ownPu_new w p 27) hb1) (chb (chp p) 75))
  go_wp2_with fail
  refine (V.out _).mono ?_
  rintro e w2 ⟨rfl, hb2⟩
  obtain ⟨⟨d0, d1, d2, d3, d4, d5, d6, d7, d8, d9, d10⟩, dl⟩ := ownPu_below PP.out hb2
  go_wp2
  go_ret
  exact ⟨rfl, by (repeat' (first | exact Below.refl _ _ | refine bstep ?_ hb2 | refine bstep ?_ hb1 | refine Below.setCell ?_ (by simp <;> omega) _ | refine balloc ?_ _ | refine Below.drew ?_ | refine bdrewN ?_ _))⟩
theorem chk8_true (p : Pu) (w : World) (V : Hid (∀ W : World, Calls Try.prog 52 #[.slice (some ⟨W.heap.size, 0, none⟩) 1 1] (W.alloc (chb (chp p) 75)) fun e w' => e = .returned (.int .i64 0) ∧ Below (W.alloc (chb (chp p) 75)).heap.size (W.alloc (chb (chp p) 75)) w')) (I : Hid (∀ W, Calls Try.prog 37 #[.int .i64 p.2.1, .int .i64 0, .int .i64 1000] W fun e w' => e = .returned (.bool true) ∧ W = w')) : Calls Try.prog 40 #[puv p] w fun e w' => e = .returned (.int .i64 0) ∧ Below w.heap.size w w' := by
  go_enter Try.func40, Try.ntmps40
  go_wp2_with fail
  refine (chg_any p _).mono ?_
  rintro e w1 ⟨rfl, hb1⟩
  have PP := Lib.hid (ownPu_alloc (ownPu_below (ownPu_new w p 27) hb1) (chb (chp p) 75))
  go_wp2_with fail
  refine (V.out _).mono ?_
  rintro e w2 ⟨rfl, hb2⟩
  obtain ⟨⟨d0, d1, d2, d3, d4, d5, d6, d7, d8, d9, d10⟩, dl⟩ := ownPu_below PP.out hb2
  go_wp2_with fail
  refine (I.out _).mono ?_
  rintro e w3 ⟨rfl, rfl⟩
  go_wp2
  go_ret
  exact ⟨rfl, by (repeat' (first | exact Below.refl _ _ | refine bstep ?_ hb2 | refine bstep ?_ hb1 | refine Below.setCell ?_ (by simp <;> omega) _ | refine balloc ?_ _ | refine Below.drew ?_ | refine bdrewN ?_ _))⟩
theorem chk8_false (p : Pu) (w : World) (V : Hid (∀ W : World, Calls Try.prog 52 #[.slice (some ⟨W.heap.size, 0, none⟩) 1 1] (W.alloc (chb (chp p) 75)) fun e w' => e = .returned (.int .i64 0) ∧ Below (W.alloc (chb (chp p) 75)).heap.size (W.alloc (chb (chp p) 75)) w')) (I : Hid (∀ W, Calls Try.prog 37 #[.int .i64 p.2.1, .int .i64 0, .int .i64 1000] W fun e w' => e = .returned (.bool false) ∧ W = w')) : Calls Try.prog 40 #[puv p] w fun e w' => e = .returned (.int .i64 1) ∧ Below w.heap.size w w' := by
  go_enter Try.func40, Try.ntmps40
  go_wp2_with fail
  refine (chg_any p _).mono ?_
  rintro e w1 ⟨rfl, hb1⟩
  have PP := Lib.hid (ownPu_alloc (ownPu_below (ownPu_new w p 27) hb1) (chb (chp p) 75))
  go_wp2_with fail
  refine (V.out _).mono ?_
  rintro e w2 ⟨rfl, hb2⟩
  obtain ⟨⟨d0, d1, d2, d3, d4, d5, d6, d7, d8, d9, d10⟩, dl⟩ := ownPu_below PP.out hb2
  go_wp2_with fail
  refine (I.out _).mono ?_
  rintro e w3 ⟨rfl, rfl⟩
  go_wp2
  go_ret
  exact ⟨rfl, by (repeat' (first | exact Below.refl _ _ | refine bstep ?_ hb2 | refine bstep ?_ hb1 | refine Below.setCell ?_ (by simp <;> omega) _ | refine balloc ?_ _ | refine Below.drew ?_ | refine bdrewN ?_ _))⟩
theorem pucode_of (p : Pu) : pucode p = if chcode (chp p) = 0 then (if rngB p.2.1 0 1000 then 0 else 1) else chcode (chp p) := by
  rw [chcode_pu]
  unfold pucode
  by_cases z : pcode p.1.1 p.1.2.1 p.1.2.2 = 0
  · rw [if_pos z, if_pos z]
    cases rngB p.2.1 0 1000 <;> cases rngB p.2.2 (-100) 100 <;> rfl
  · rw [if_neg z, if_neg z, if_neg z]
theorem chk8_any (p : Pu) (w : World) : Calls Try.prog 40 #[puv p] w fun e w' => e = .returned (.int .i64 (pucode p)) ∧ Below w.heap.size w w' := by
  have V := fun W => fvc_any (some ⟨W.heap.size, 0, none⟩) 1 1 (fun _ => chp p) (W.alloc (chb (chp p) 75)) (fun _ => ⟨_, _, rfl, rowC_one W (chp p) 75⟩) (by decide)
  have I := fun W => sir_any p.2.1 0 1000 W
  have e : ccode 1 (fun _ => chp p) = chcode (chp p) := rfl
  rw [e] at V
  rw [pucode_of]
  by_cases z : chcode (chp p) = 0
  · rw [if_pos z]
    rw [z] at V
    cases h : rngB p.2.1 0 1000 with
    | true => rw [h] at I; exact chk8_true p w (Lib.hid V) (Lib.hid I)
    | false => rw [h] at I; exact chk8_false p w (Lib.hid V) (Lib.hid I)
  · rw [if_neg z]
    exact chk8_no p _ w (Lib.hid V) (bne_iff_ne.2 z)
abbrev p9w (t : P9) : Value := pnv t.1 t.2.1 t.2.2
theorem one8_no (p : Pu) (pc : Int) (w : World) (V : Hid (∀ W, Calls Try.prog 46 #[p9w p.1] W fun e w' => e = .returned (.int .i64 pc) ∧ Below W.heap.size W w')) (z : (pc != 0) = true) : Calls Try.prog 23 #[puv p] w fun e w' => e = .returned (.int .i64 pc) ∧ Below w.heap.size w w' := by
  go_enter Try.func23, Try.ntmps23
  go_wp2_with fail
  refine (V.out _).mono ?_
  rintro e w1 ⟨rfl, hb1⟩
  obtain ⟨⟨d0, d1, d2, d3, d4, d5, d6, d7, d8, d9, d10⟩, dl⟩ := ownPu_below (ownPu_new w p 27) hb1
  go_wp2
  go_ret
  exact ⟨rfl, by (repeat' (first | exact Below.refl _ _ | refine bstep ?_ hb1 | refine Below.setCell ?_ (by simp <;> omega) _ | refine balloc ?_ _ | refine Below.drew ?_ | refine bdrewN ?_ _))⟩
theorem one8_a (p : Pu) (w : World) (V : Hid (∀ W, Calls Try.prog 46 #[p9w p.1] W fun e w' => e = .returned (.int .i64 0) ∧ Below W.heap.size W w')) (I : Hid (∀ W, Calls Try.prog 39 #[.int .i64 p.2.1, .int .i64 0, .int .i64 1000] W fun e w' => e = .returned (.bool false) ∧ W = w')) : Calls Try.prog 23 #[puv p] w fun e w' => e = .returned (.int .i64 1) ∧ Below w.heap.size w w' := by
  go_enter Try.func23, Try.ntmps23
  go_wp2_with fail
  refine (V.out _).mono ?_
  rintro e w1 ⟨rfl, hb1⟩
  obtain ⟨⟨d0, d1, d2, d3, d4, d5, d6, d7, d8, d9, d10⟩, dl⟩ := ownPu_below (ownPu_new w p 27) hb1
  go_wp2_with fail
  refine (I.out _).mono ?_
  rintro e w2 ⟨rfl, rfl⟩
  go_wp2
  go_ret
  exact ⟨rfl, by (repeat' (first | exact Below.refl _ _ | refine bstep ?_ hb1 | refine Below.setCell ?_ (by simp <;> omega) _ | refine balloc ?_ _ | refine Below.drew ?_ | refine bdrewN ?_ _))⟩
theorem one8_b (p : Pu) (w : World) (V : Hid (∀ W, Calls Try.prog 46 #[p9w p.1] W fun e w' => e = .returned (.int .i64 0) ∧ Below W.heap.size W w')) (I : Hid (∀ W, Calls Try.prog 39 #[.int .i64 p.2.1, .int .i64 0, .int .i64 1000] W fun e w' => e = .returned (.bool true) ∧ W = w')) (J : Hid (∀ W, Calls Try.prog 39 #[.int .i64 p.2.2, .int .i64 (-100), .int .i64 100] W fun e w' => e = .returned (.bool false) ∧ W = w')) : Calls Try.prog 23 #[puv p] w fun e w' => e = .returned (.int .i64 1) ∧ Below w.heap.size w w' := by
  go_enter Try.func23, Try.ntmps23
  go_wp2_with fail
  refine (V.out _).mono ?_
  rintro e w1 ⟨rfl, hb1⟩
  obtain ⟨⟨d0, d1, d2, d3, d4, d5, d6, d7, d8, d9, d10⟩, dl⟩ := ownPu_below (ownPu_new w p 27) hb1
  go_wp2_with fail
  refine (I.out _).mono ?_
  rintro e w2 ⟨rfl, rfl⟩
  go_wp2_with fail
  refine (J.out _).mono ?_
  rintro e w2 ⟨rfl, rfl⟩
  go_wp2
  go_ret
  exact ⟨rfl, by (repeat' (first | exact Below.refl _ _ | refine bstep ?_ hb1 | refine Below.setCell ?_ (by simp <;> omega) _ | refine balloc ?_ _ | refine Below.drew ?_ | refine bdrewN ?_ _))⟩
theorem one8_c (p : Pu) (w : World) (V : Hid (∀ W, Calls Try.prog 46 #[p9w p.1] W fun e w' => e = .returned (.int .i64 0) ∧ Below W.heap.size W w')) (I : Hid (∀ W, Calls Try.prog 39 #[.int .i64 p.2.1, .int .i64 0, .int .i64 1000] W fun e w' => e = .returned (.bool true) ∧ W = w')) (J : Hid (∀ W, Calls Try.prog 39 #[.int .i64 p.2.2, .int .i64 (-100), .int .i64 100] W fun e w' => e = .returned (.bool true) ∧ W = w')) : Calls Try.prog 23 #[puv p] w fun e w' => e = .returned (.int .i64 0) ∧ Below w.heap.size w w' := by
  go_enter Try.func23, Try.ntmps23
  go_wp2_with fail
  refine (V.out _).mono ?_
  rintro e w1 ⟨rfl, hb1⟩
  obtain ⟨⟨d0, d1, d2, d3, d4, d5, d6, d7, d8, d9, d10⟩, dl⟩ := ownPu_below (ownPu_new w p 27) hb1
  go_wp2_with fail
  refine (I.out _).mono ?_
  rintro e w2 ⟨rfl, rfl⟩
  go_wp2_with fail
  refine (J.out _).mono ?_
  rintro e w2 ⟨rfl, rfl⟩
  go_wp2
  go_ret
  exact ⟨rfl, by (repeat' (first | exact Below.refl _ _ | refine bstep ?_ hb1 | refine Below.setCell ?_ (by simp <;> omega) _ | refine balloc ?_ _ | refine Below.drew ?_ | refine bdrewN ?_ _))⟩
theorem one8_any (p : Pu) (w : World) : Calls Try.prog 23 #[puv p] w fun e w' => e = .returned (.int .i64 (pucode p)) ∧ Below w.heap.size w w' := by
  have V := fun W => rvp_any p.1.1 p.1.2.1 p.1.2.2 W
  have I := fun W => rwi8_any p.2.1 0 1000 W
  have J := fun W => rwi8_any p.2.2 (-100) 100 W
  unfold pucode
  by_cases z : pcode p.1.1 p.1.2.1 p.1.2.2 = 0
  · rw [if_pos z]
    rw [z] at V
    cases h : rngB p.2.1 0 1000 with
    | false => rw [h] at I; exact one8_a p w (Lib.hid V) (Lib.hid I)
    | true =>
      rw [h] at I
      cases k : rngB p.2.2 (-100) 100 with
      | false => rw [k] at J; exact one8_b p w (Lib.hid V) (Lib.hid I) (Lib.hid J)
      | true => rw [k] at J; exact one8_c p w (Lib.hid V) (Lib.hid I) (Lib.hid J)
  · rw [if_neg z]
    exact one8_no p _ w (Lib.hid V) (bne_iff_ne.2 z)
theorem svp_big (a : Option Addr) (n cap : Nat) (w : World) (h : 16 < n) (hn : n ≤ 140737488355328) : Calls Try.prog 16 #[.slice a n cap] w fun e w' => e = .returned (.int .i64 4) ∧ Below w.heap.size w w' := by
  go_enter Try.func16, Try.ntmps16
  go_wp2
  go_ret
  exact ⟨rfl, Below.refl _ _⟩
theorem svp_zero (a : Option Addr) (cap : Nat) (w : World) : Calls Try.prog 16 #[.slice a 0 cap] w fun e w' => e = .returned (.int .i64 0) ∧ Below w.heap.size w w' := by
  go_enter Try.func16, Try.ntmps16
  go_wp2
  refine wp_loop_rounds 1 ?_
  rw [rounds_succ]
  go_wp2
  go_ret
  exact ⟨rfl, Below.refl _ _⟩
set_option maxRecDepth 100000 in
set_option maxHeartbeats 1000000 in
theorem svp_row (b off n cap : Nat) (Q : Nat → Pu) (w : World) (r : RowU w b off n Q) (hn : n ≤ 16) : Calls Try.prog 16 #[.slice (some ⟨b, off, none⟩) n cap] w fun e w' => e = .returned (.int .i64 (pucodes Q n)) ∧ Below w.heap.size w w' := by
  have hb1 : b < w.heap.size := r.1
  have R := Lib.hid r
  have hn' : (n : Int) ≤ 16 := by omega
  obtain ⟨res, hres⟩ : ∃ res, pucodes Q n = res := ⟨_, rfl⟩
  have RES := Lib.hid hres
  rw [hres]
  clear r hres
  go_enter Try.func16, Try.ntmps16
  go_wp2
  go_loopw [11] (fun kv wr => ∃ k : Nat, k ≤ n ∧ kv = .int .i64 k ∧ pucodes Q k = 0 ∧ Below w.heap.size w wr) (fun kv _ => n - (intOf kv).toNat)
  case atStart => exact ⟨0, Nat.zero_le _, rfl, rfl, Below.refl _ _⟩
  case round =>
    obtain ⟨k, hk, rfl, good, BB⟩ := hrel
    have GOOD := Lib.hid good
    have B0 := Lib.hid BB
    clear good BB
    by_cases hlt : k < n
    · have r2 := rowU_in R.out B0.out hb1
      obtain ⟨c0, c1, c2, c3, c4, c5, c6, c7, c8, c9, c10⟩ := r2.2 k hlt
      have r5 := r2.1
      clear r2
      have hk1 : (k : Int) < (n : Int) := by omega
      have HIT := Lib.hid (fun h : pucode (Q k) ≠ 0 => pucodes_hit hlt GOOD.out h)
      have NEXT := Lib.hid (fun h : pucode (Q k) = 0 => pucodes_next GOOD.out h)
      generalize Q k = q at *
      have V := Lib.hid (fun W => chk8_any q W)
      generalize pucode q = c at *
      by_cases z : c = 0
      · subst z
        go_wp2_with fail
        refine (V.out _).mono ?_
        rintro e w1 ⟨rfl, hb2⟩
        clear c0 c1 c2 c3 c4 c5 c6 c7 c8 c9 c10
        go_wp2
        go_roundw
        case rel => exact ⟨k + 1, by omega, by go_num, NEXT.out (by first | rfl | trivial), by have hB := B0.out; (repeat' (first | exact Below.refl _ _ | refine bstep ?_ hb2 | refine bstep ?_ hB | refine Below.setCell ?_ (by simp <;> omega) _ | refine balloc ?_ _ | refine Below.drew ?_ | refine bdrewN ?_ _))⟩
        case measure => simp [intOf]; omega
      · have z1 : (c != 0) = true := bne_iff_ne.2 z
        have hf : res = c := by rw [← RES.out]; exact HIT.out z
        subst hf
        clear z HIT NEXT RES
        go_wp2_with fail
        refine (V.out _).mono ?_
        rintro e w1 ⟨rfl, hb2⟩
        clear c0 c1 c2 c3 c4 c5 c6 c7 c8 c9 c10
        go_wp2
        go_ret
        exact ⟨rfl, by have hB := B0.out; (repeat' (first | exact Below.refl _ _ | refine bstep ?_ hb2 | refine bstep ?_ hB | refine Below.setCell ?_ (by simp <;> omega) _ | refine balloc ?_ _ | refine Below.drew ?_ | refine bdrewN ?_ _))⟩
    · obtain rfl : k = n := by omega
      have hf : res = 0 := by rw [← RES.out]; exact GOOD.out
      subst hf
      go_wp2
      go_ret
      exact ⟨rfl, B0.out⟩
theorem svp_any (a : Option Addr) (n cap : Nat) (Q : Nat → Pu) (w : World) (r : LstU w a n Q) (hn : n ≤ 140737488355328) : Calls Try.prog 16 #[.slice a n cap] w fun e w' => e = .returned (.int .i64 (vpcode n Q)) ∧ Below w.heap.size w w' := by
  unfold vpcode
  by_cases h : n ≤ 16
  · rw [if_pos h]
    by_cases z : n = 0
    · subst z; exact svp_zero a cap w
    · obtain ⟨b, off, rfl, rr⟩ := r (by omega)
      exact svp_row b off n cap Q w rr h
  · rw [if_neg h]
    exact svp_big a n cap w (by omega) hn
theorem rsvp_big (a : Option Addr) (n cap : Nat) (w : World) (h : 16 < n) (hn : n ≤ 140737488355328) : Calls Try.prog 17 #[.slice a n cap] w fun e w' => e = .returned (.int .i64 4) ∧ Below w.heap.size w w' := by
  go_enter Try.func17, Try.ntmps17
  go_wp2
  go_ret
  exact ⟨rfl, Below.refl _ _⟩
theorem rsvp_zero (a : Option Addr) (cap : Nat) (w : World) : Calls Try.prog 17 #[.slice a 0 cap] w fun e w' => e = .returned (.int .i64 0) ∧ Below w.heap.size w w' := by
  go_enter Try.func17, Try.ntmps17
  go_wp2
  refine wp_loop_rounds 1 ?_
  rw [rounds_succ]
  go_wp2
  go_ret
  exact ⟨rfl, Below.refl _ _⟩
set_option maxRecDepth 100000 in
set_option maxHeartbeats 1000000 in
theorem rsvp_row (b off n cap : Nat) (Q : Nat → Pu) (w : World) (r : RowU w b off n Q) (hn : n ≤ 16) : Calls Try.prog 17 #[.slice (some ⟨b, off, none⟩) n cap] w fun e w' => e = .returned (.int .i64 (pucodes Q n)) ∧ Below w.heap.size w w' := by
  have hb1 : b < w.heap.size := r.1
  have R := Lib.hid r
  have hn' : (n : Int) ≤ 16 := by omega
  obtain ⟨res, hres⟩ : ∃ res, pucodes Q n = res := ⟨_, rfl⟩
  have RES := Lib.hid hres
  rw [hres]
  clear r hres
  go_enter Try.func17, Try.ntmps17
  go_wp2
  go_loopw [3] (fun kv wr => ∃ k : Nat, k ≤ n ∧ kv = .int .i64 k ∧ pucodes Q k = 0 ∧ Below w.heap.size w wr) (fun kv _ => n - (intOf kv).toNat)
  case atStart => exact ⟨0, Nat.zero_le _, rfl, rfl, Below.refl _ _⟩
  case round =>
    obtain ⟨k, hk, rfl, good, BB⟩ := hrel
    have GOOD := Lib.hid good
    have B0 := Lib.hid BB
    clear good BB
    by_cases hlt : k < n
    · have r2 := rowU_in R.out B0.out hb1
      obtain ⟨c0, c1, c2, c3, c4, c5, c6, c7, c8, c9, c10⟩ := r2.2 k hlt
      have r5 := r2.1
      clear r2
      have hk1 : (k : Int) < (n : Int) := by omega
      have HIT := Lib.hid (fun h : pucode (Q k) ≠ 0 => pucodes_hit hlt GOOD.out h)
      have NEXT := Lib.hid (fun h : pucode (Q k) = 0 => pucodes_next GOOD.out h)
      generalize Q k = q at *
      have V := Lib.hid (fun W => one8_any q W)
      generalize pucode q = c at *
      by_cases z : c = 0
      · subst z
        go_wp2_with fail
        refine (V.out _).mono ?_
        rintro e w1 ⟨rfl, hb2⟩
        clear c0 c1 c2 c3 c4 c5 c6 c7 c8 c9 c10
        go_wp2
        go_roundw
        case rel => exact ⟨k + 1, by omega, by go_num, NEXT.out (by first | rfl | trivial), by have hB := B0.out; (repeat' (first | exact Below.refl _ _ | refine bstep ?_ hb2 | refine bstep ?_ hB | refine Below.setCell ?_ (by simp <;> omega) _ | refine balloc ?_ _ | refine Below.drew ?_ | refine bdrewN ?_ _))⟩
        case measure => simp [intOf]; omega
      · have z1 : (c != 0) = true := bne_iff_ne.2 z
        have hf : res = c := by rw [← RES.out]; exact HIT.out z
        subst hf
        clear z HIT NEXT RES
        go_wp2_with fail
        refine (V.out _).mono ?_
        rintro e w1 ⟨rfl, hb2⟩
        clear c0 c1 c2 c3 c4 c5 c6 c7 c8 c9 c10
        go_wp2
        go_ret
        exact ⟨rfl, by have hB := B0.out; (repeat' (first | exact Below.refl _ _ | refine bstep ?_ hb2 | refine bstep ?_ hB | refine Below.setCell ?_ (by simp <;> omega) _ | refine balloc ?_ _ | refine Below.drew ?_ | refine bdrewN ?_ _))⟩
    · obtain rfl : k = n := by omega
      have hf : res = 0 := by rw [← RES.out]; exact GOOD.out
      subst hf
      go_wp2
      go_ret
      exact ⟨rfl, B0.out⟩
theorem rsvp_any (a : Option Addr) (n cap : Nat) (Q : Nat → Pu) (w : World) (r : LstU w a n Q) (hn : n ≤ 140737488355328) : Calls Try.prog 17 #[.slice a n cap] w fun e w' => e = .returned (.int .i64 (vpcode n Q)) ∧ Below w.heap.size w w' := by
  unfold vpcode
  by_cases h : n ≤ 16
  · rw [if_pos h]
    by_cases z : n = 0
    · subst z; exact rsvp_zero a cap w
    · obtain ⟨b, off, rfl, rr⟩ := r (by omega)
      exact rsvp_row b off n cap Q w rr h
  · rw [if_neg h]
    exact rsvp_big a n cap w (by omega) hn

end Go.Proofs.Ytlegalibjkeccaa
