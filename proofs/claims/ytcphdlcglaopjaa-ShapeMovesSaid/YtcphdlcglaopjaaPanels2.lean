/-
  The contracts of Panels, in the program and in the document's answer, and of samePanels.
-/
import Derived.Test.YtcphdlcglaopjaaRVol
import Derived.Test.YtcphdlcglaopjaaValidate
namespace Go.Proofs.Ytcphdlcglaopjaa
open Go.ChangeShapes Go.WideShapes Go.RowKit
open Sh
/-- n panels at the head of a block; of none nothing is known -/
def Lst9 (w : World) (a : Option Addr) (n : Nat) (T : Nat → P3 × P3 × P3) : Prop := 0 < n → ∃ g, a = some ⟨g, 0, none⟩ ∧ Row9 w g n T
theorem lst9_below {w w1 : World} {a : Option Addr} {n : Nat} {T : Nat → P3 × P3 × P3} (h : Lst9 w a n T) (hb : Below w.heap.size w w1) : Lst9 w1 a n T := fun h0 => by
  obtain ⟨g, e, r⟩ := h h0
  exact ⟨g, e, row9_below r hb⟩
/-- what Panels answers -/
def Pans (T : Nat → P3 × P3 × P3) (nf : Nat) (code : Int) (w : World) (e : Ending) (w' : World) : Prop :=
  ∃ a n cap, e = .returned (.tuple #[.slice a n cap, .int .i64 code]) ∧ n = (if code = 0 then nf else 0) ∧ Lst9 w' a n T ∧ Below w.heap.size w w'
theorem int_ne0 {x : Int} (h : x ≠ 0) : (x != 0) = true := bne_iff_ne.2 h
theorem spans_no (a : Option Addr) (np c : Nat) (a' : Option Addr) (nf c' : Nat) (code : Int) (w : World) (V : Hid (∀ W, Below w.heap.size w W → Calls Try.prog 20 #[msv a np c a' nf c'] W fun e w' => e = .returned (.int .i64 code) ∧ Below W.heap.size W w')) (z : code ≠ 0) :
    Calls Try.prog 16 #[msv a np c a' nf c'] w fun e w' => e = .returned (.tuple #[.slice none 0 0, .int .i64 code]) ∧ Below w.heap.size w w' := by
  have z1 := int_ne0 z
  clear z
  go_enter Try.func16, Try.ntmps16
  go_wp2_with fail
  refine (V.out _ (by (repeat' (first | exact Below.refl _ _ | refine Below.setCell ?_ (by simp <;> omega) _ | refine balloc ?_ _ | refine Below.drew ?_ | refine bdrewN ?_ _)))).mono ?_
  rintro e w1 ⟨rfl, hb1⟩
  go_wp2
  go_ret2
  exact ⟨rfl, by (repeat' (first | exact Below.refl _ _ | refine bstep ?_ hb1 | refine Below.setCell ?_ (by simp <;> omega) _ | refine balloc ?_ _ | refine Below.drew ?_ | refine bdrewN ?_ _))⟩
theorem rpans_no (a : Option Addr) (np c : Nat) (a' : Option Addr) (nf c' : Nat) (code : Int) (w : World) (V : Hid (∀ W, Below w.heap.size w W → Calls Try.prog 21 #[msv a np c a' nf c'] W fun e w' => e = .returned (.int .i64 code) ∧ Below W.heap.size W w')) (z : code ≠ 0) :
    Calls Try.prog 17 #[msv a np c a' nf c'] w fun e w' => e = .returned (.tuple #[.slice none 0 0, .int .i64 code]) ∧ Below w.heap.size w w' := by
  have z1 := int_ne0 z
  clear z
  go_enter Try.func17, Try.ntmps17
  go_wp2_with fail
  refine (V.out _ (by (repeat' (first | exact Below.refl _ _ | refine Below.setCell ?_ (by simp <;> omega) _ | refine balloc ?_ _ | refine Below.drew ?_ | refine bdrewN ?_ _)))).mono ?_
  rintro e w1 ⟨rfl, hb1⟩
  go_wp2
  go_ret2
  exact ⟨rfl, by (repeat' (first | exact Below.refl _ _ | refine bstep ?_ hb1 | refine Below.setCell ?_ (by simp <;> omega) _ | refine balloc ?_ _ | refine Below.drew ?_ | refine bdrewN ?_ _))⟩
theorem spans_row (a : Option Addr) (np c : Nat) (a' : Option Addr) (nf c' : Nat) (T : Nat → P3 × P3 × P3) (w : World) (V : Hid (∀ W, Below w.heap.size w W → Calls Try.prog 20 #[msv a np c a' nf c'] W fun e w' => e = .returned (.int .i64 0) ∧ Below W.heap.size W w')) (PC : Hid (∀ W, Below w.heap.size w W → Calls Try.prog 61 #[msv a np c a' nf c'] W (Paneled T nf W))) :
    Calls Try.prog 16 #[msv a np c a' nf c'] w (Pans T nf 0 w) := by
  go_enter Try.func16, Try.ntmps16
  go_wp2_with fail
  refine (V.out _ (by (repeat' (first | exact Below.refl _ _ | refine Below.setCell ?_ (by simp <;> omega) _ | refine balloc ?_ _ | refine Below.drew ?_ | refine bdrewN ?_ _)))).mono ?_
  rintro e w1 ⟨rfl, hb1⟩
  have B1 := Lib.hid (bstep (balloc (Below.refl _ w) _) hb1)
  have ME := mes_below (mes_new w a np c a' nf c' 25) hb1
  obtain ⟨m1, m2, m3⟩ := ME
  clear hb1
  go_wp2_with fail
  refine (PC.out _ (by have hB := B1.out; (repeat' (first | exact Below.refl _ _ | refine bstep ?_ hB | refine Below.setCell ?_ (by simp <;> omega) _ | refine balloc ?_ _ | refine Below.drew ?_ | refine bdrewN ?_ _)))).mono ?_
  rintro e w2 ⟨g, cap, rfl, hg, r9, hb2⟩
  have R9 := Lib.hid r9
  clear hg r9
  go_wp2
  go_ret2
  exact ⟨some ⟨g, 0, none⟩, nf, cap, rfl, rfl, fun _ => ⟨g, rfl, R9.out⟩, by have hB := B1.out; (repeat' (first | exact Below.refl _ _ | refine bstep ?_ hb2 | refine bstep ?_ hB | refine Below.setCell ?_ (by simp <;> omega) _ | refine balloc ?_ _ | refine Below.drew ?_ | refine bdrewN ?_ _))⟩
set_option maxRecDepth 100000 in
set_option maxHeartbeats 2000000 in
theorem rpans_row (b off np c b' off' nf c' : Nat) (P F : Nat → P3) (w : World) (V : Hid (∀ W, Below w.heap.size w W → Calls Try.prog 21 #[msv (some ⟨b, off, none⟩) np c (some ⟨b', off', none⟩) nf c'] W fun e w' => e = .returned (.int .i64 0) ∧ Below W.heap.size W w')) (rp : Row3 w b off np P) (r : Row3 w b' off' nf F) (hn : np ≤ 1000000) (hm : nf ≤ 1000000) (h0 : 0 < nf) (nr : ∀ k, k < nf → Fok np (F k)) :
    Calls Try.prog 17 #[msv (some ⟨b, off, none⟩) np c (some ⟨b', off', none⟩) nf c'] w (Pans (Tr P F) nf 0 w) := by
  have hb1 : b' < w.heap.size := r.1
  have hb2 : b < w.heap.size := rp.1
  have R := Lib.hid r
  have RP := Lib.hid rp
  have NR := Lib.hid nr
  have hn' : (np : Int) ≤ 1000000 := by omega
  have hm' : (nf : Int) ≤ 1000000 := by omega
  obtain ⟨i0, hi, hz0, hz1, hz2⟩ := info_parts infoP
  clear r rp nr
  go_enter Try.func17, Try.ntmps17
  go_wp2_with fail
  refine (V.out _ (by (repeat' (first | exact Below.refl _ _ | refine Below.setCell ?_ (by simp <;> omega) _ | refine balloc ?_ _ | refine Below.drew ?_ | refine bdrewN ?_ _)))).mono ?_
  rintro e w1 ⟨rfl, hv1⟩
  have B1 := Lib.hid (bstep (balloc (Below.refl _ w) _) hv1)
  have ME1 := Lib.hid (mes_below (mes_new w (some ⟨b, off, none⟩) np c (some ⟨b', off', none⟩) nf c' 25) hv1)
  clear hv1
  go_wp2
  go_loopw [5, 6] (fun v kv wr => ∃ k : Nat, k ≤ nf ∧ kv = .int .i64 k ∧ wr.ownsRow (w.heap.size + 1) 72 9 v k (pcs (Tr P F) k) ∧ Mes wr w.heap.size (some ⟨b, off, none⟩) np c (some ⟨b', off', none⟩) nf c' ∧ Below w.heap.size w wr) (fun _ kv _ => nf - (intOf kv).toNat)
  case atStart => exact ⟨0, Nat.zero_le _, rfl, World.ownsRow_nil _ _ _ _, ME1.out, B1.out⟩
  case round =>
    clear ME1 B1
    obtain ⟨k, hk, rfl, hown, hme, BB⟩ := hrel
    have B0 := Lib.hid BB
    have HO := Lib.hid hown
    have ME := Lib.hid hme
    clear BB hown hme
    obtain ⟨m1, m2, m3⟩ := ME.out
    by_cases hlt : k < nf
    · have hk1 : (k : Int) < (nf : Int) := by omega
      obtain ⟨x, y, z, hp, hx, hy, hz⟩ := fok_nat (NR.out k hlt)
      have S1 := Lib.hid (show pcs (Tr P F) (k + 1) = pcs (Tr P F) k ++ [.int .i64 (P x).1, .int .i64 (P x).2.1, .int .i64 (P x).2.2, .int .i64 (P y).1, .int .i64 (P y).2.1, .int .i64 (P y).2.2, .int .i64 (P z).1, .int .i64 (P z).2.1, .int .i64 (P z).2.2] by rw [pcs_succ]; unfold Tr; rw [hp]; rfl)
      have CN := Lib.hid (corners_nat b off np c b' off' nf c' k x y z P F wr (row3_in RP.out B0.out hb2) (row3_in R.out B0.out hb1) hlt hx hy hz hn hm hp)
      clear hp
      go_wp2_with fail
      refine CN.out.mono ?_
      rintro e u0 ⟨rfl, hb0⟩
      have O1 := Lib.hid (ownsRow_below HO.out hb0)
      have ME1 := Lib.hid (mes_below ME.out hb0)
      have B1 := Lib.hid (bstep B0.out hb0)
      have Z := Lib.hid (show w.heap.size + 1 ≤ u0.heap.size by have := ME1.out.2.2; omega)
      clear hb0 m1 m2 m3 CN
      generalize P x = px at *
      generalize P y = py at *
      generalize P z = pz at *
      go_wp2_with (at_builtin; refine wpList_append_own _ rfl _ _ 28 rfl (w.heap.size + 1) 72 i0 _ 9 72 Try.underlying28 hi hz0 hz1 hz2 rfl (by decide) _ _ _ rfl (O1.out.alloc _) ⟨u0.heap.size, 0, none⟩ 1 1 [.int .i64 px.1, .int .i64 px.2.1, .int .i64 px.2.2, .int .i64 py.1, .int .i64 py.2.1, .int .i64 py.2.2, .int .i64 pz.1, .int .i64 pz.2.1, .int .i64 pz.2.2] rfl rfl (cells9 _ _ _ _ _ _ _ _ _ _ _) (one9 _ _ _ _ _ _ _ _ _) (by unfold maxLen; omega) (by omega) (by have := Z.out; simp; omega) ?_; intro v' w3 hown' hgrow hnil)
      have OB := ownsRow_block O1.out
      go_roundw
      case rel => exact ⟨k + 1, by omega, by go_num, by rw [S1.out]; exact hown', grown_mes (mes_alloc ME1.out _) hgrow (fun q => by have := OB _ q; omega), (balloc B1.out _).grown hgrow (by have := ME1.out.2.2; simp; omega) (fun i hi => by have := OB i hi; omega)⟩
      case measure => simp [intOf]; omega
    · obtain rfl : k = nf := by omega
      go_wp2
      obtain ⟨g, cap, hv, hg, r9⟩ := row9_of HO.out h0
      go_ret2
      exact ⟨some ⟨g, 0, none⟩, k, cap, by rw [hv]; rfl, rfl, fun _ => ⟨g, rfl, r9⟩, B0.out⟩
set_option maxRecDepth 100000 in
set_option maxHeartbeats 1000000 in
theorem samep_any (a : Option Addr) (n cap : Nat) (a' : Option Addr) (cap' : Nat) (T : Nat → P3 × P3 × P3) (w : World) (h : Lst9 w a n T) (h' : Lst9 w a' n T) (hn : n ≤ 1000000) :
    Calls Try.prog 22 #[.slice a n cap, .slice a' n cap'] w fun e w' => e = .returned (.bool true) ∧ Below w.heap.size w w' := by
  have H := Lib.hid h
  have H' := Lib.hid h'
  have hn' : (n : Int) ≤ 1000000 := by omega
  clear h h'
  by_cases h0 : n = 0
  · subst h0
    go_enter Try.func22, Try.ntmps22
    go_wp2
    refine wp_loop_rounds 1 ?_
    rw [rounds_succ]
    go_wp2
    go_ret
    exact ⟨rfl, Below.refl _ _⟩
  obtain ⟨g, rfl, r⟩ := H.out (by omega)
  obtain ⟨g', rfl, r'⟩ := H'.out (by omega)
  have R := Lib.hid r
  have R' := Lib.hid r'
  clear r r' h0 H H'
  go_enter Try.func22, Try.ntmps22
  go_wp2
  go_loopw [5] (fun kv wr => ∃ k : Nat, k ≤ n ∧ kv = .int .i64 k ∧ Below w.heap.size w wr) (fun kv _ => n - (intOf kv).toNat)
  case atStart => exact ⟨0, Nat.zero_le _, rfl, Below.refl _ _⟩
  case round =>
    obtain ⟨k, hk, rfl, BB⟩ := hrel
    have B0 := Lib.hid BB
    clear BB
    by_cases hlt : k < n
    · have hk1 : (k : Int) < (n : Int) := by omega
      have q := row9_in R.out B0.out R.out.1
      have q' := row9_in R'.out B0.out R'.out.1
      obtain ⟨c1, c2, c3, c4, c5, c6, c7, c8, c9⟩ := q.2 k hlt
      obtain ⟨d1, d2, d3, d4, d5, d6, d7, d8, d9⟩ := q'.2 k hlt
      have l1 := q.1
      have l2 := q'.1
      clear q q'
      generalize T k = t at *
      go_wp2
      go_region
      go_wp2
      go_roundw
      case rel => exact ⟨k + 1, by omega, by go_num, Below.drew B0.out⟩
      case measure => simp [intOf]; omega
    · obtain rfl : k = n := by omega
      go_wp2
      go_ret
      exact ⟨rfl, B0.out⟩

end Go.Proofs.Ytcphdlcglaopjaa
