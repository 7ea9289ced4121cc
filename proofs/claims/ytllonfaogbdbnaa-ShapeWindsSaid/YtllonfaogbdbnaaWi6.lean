/-
  The contracts of on, asked and On of the document.
-/
import Derived.Test.YtllonfaogbdbnaaWi5
namespace Go.Proofs.Ytllonfaogbdbnaa
open Go.ChangeShapes Go.WideShapes Go.RowKit
open Sh
/-- what on has in its region -/
def RON (w W : World) (a : Option Addr) (n c : Nat) (a' : Option Addr) (n' c' : Nat) (p : P3) : Prop := Mes W w.heap.size a n c a' n' c' ∧ Own W (w.heap.size + 1) p ∧ Below w.heap.size w W
theorem ron_below {w W v : World} {a : Option Addr} {n c : Nat} {a' : Option Addr} {n' c' : Nat} {p : P3} (h : RON w W a n c a' n' c' p) (hb : Below W.heap.size W v) : RON w v a n c a' n' c' p := ⟨mes_below h.1 hb, own_below h.2.1 hb, bstep h.2.2 hb⟩
theorem ron_b {w W : World} {a : Option Addr} {n c : Nat} {a' : Option Addr} {n' c' : Nat} {p : P3} (h : RON w W a n c a' n' c' p) : Below w.heap.size w W := h.2.2
theorem ron_drew {w W : World} {a : Option Addr} {n c : Nat} {a' : Option Addr} {n' c' : Nat} {p : P3} (h : RON w W a n c a' n' c' p) : RON w W.drew a n c a' n' c' p := ron_below h (Below.drew (Below.refl _ _))
theorem ron_cells {w W : World} {a : Option Addr} {n c : Nat} {a' : Option Addr} {n' c' : Nat} {p : P3} (h : RON w W a n c a' n' c' p) : (W.cell? ⟨w.heap.size + 1, 0, none⟩ = some (.int .i64 p.1) ∧ W.cell? ⟨w.heap.size + 1, 1, none⟩ = some (.int .i64 p.2.1) ∧ W.cell? ⟨w.heap.size + 1, 2, none⟩ = some (.int .i64 p.2.2)) ∧ W.cell? ⟨w.heap.size, 0, none⟩ = some (.slice a n c) ∧ W.cell? ⟨w.heap.size, 1, none⟩ = some (.slice a' n' c') := ⟨own_cells h.2.1, h.1.1, h.1.2.1⟩
set_option maxRecDepth 100000 in
set_option maxHeartbeats 4000000 in
theorem ron_row (b off np c b' off' nf c' : Nat) (p : P3) (P F : Nat → P3) (w : World) (rp : Row3 w b off np P) (r : Row3 w b' off' nf F) (hn : np ≤ 1000000) (hm : nf ≤ 96) (nr : ∀ k, k < nf → Fok np (F k)) (tb : TrB P F nf) (hp : BdP 256 p) :
    Calls Try.prog 37 #[msv (some ⟨b, off, none⟩) np c (some ⟨b', off', none⟩) nf c', ptv p] w fun e w' => e = .returned (.bool (onB (Tr P F) p nf)) ∧ Below w.heap.size w w' := by
  have NR := Lib.hid nr
  have TB := Lib.hid tb
  have RP := Lib.hid rp
  have RF := Lib.hid r
  have HP := Lib.hid hp
  have hm' : (nf : Int) ≤ 96 := by omega
  clear rp r nr tb hp
  have ST := Lib.hid (show onB (Tr P F) p 0 = false ∧ RON w ((w.alloc (msc (some ⟨b, off, none⟩) np c (some ⟨b', off', none⟩) nf c' 25)).alloc (ptc p 27)) (some ⟨b, off, none⟩) np c (some ⟨b', off', none⟩) nf c' p from ⟨rfl, mes_alloc (mes_new w (some ⟨b, off, none⟩) np c (some ⟨b', off', none⟩) nf c' 25) _, by have z := own_new (w.alloc (msc (some ⟨b, off, none⟩) np c (some ⟨b', off', none⟩) nf c' 25)) p 27; simp only [World.size_alloc] at z; exact z, balloc (balloc (Below.refl _ w) _) _⟩)
  go_enter Try.func37, Try.ntmps37
  go_wp2
  go_loopw [5] (fun kv wr => ∃ k : Nat, k ≤ nf ∧ kv = .int .i64 k ∧ onB (Tr P F) p k = false ∧ RON w wr (some ⟨b, off, none⟩) np c (some ⟨b', off', none⟩) nf c' p) (fun kv _ => nf - (intOf kv).toNat)
  case atStart => exact ⟨0, Nat.zero_le _, rfl, ST.out⟩
  case round =>
    clear ST
    obtain ⟨k, hk, rfl, of, xp⟩ := hrel
    have OF := Lib.hid of
    have X := Lib.hid xp
    clear of xp
    obtain ⟨m1, m2, m3⟩ := X.out.1
    by_cases hlt : k < nf
    · have hk1 : (k : Int) < (nf : Int) := by omega
      obtain ⟨xn, yn, zn, hq, hx, hy, hz⟩ := fok_nat (NR.out k hlt)
      have CN := Lib.hid (fun W (B : Below w.heap.size w W) => corners_nat b off np c b' off' nf c' k xn yn zn P F W (row3_below RP.out B) (row3_below RF.out B) hlt hx hy hz hn (by omega) hq)
      have t := TB.out k hlt
      have hT : Tr P F k = (P xn, P yn, P zn) := by unfold Tr; rw [hq]; rfl
      have HIT := Lib.hid (fun q => onB_hit (T := Tr P F) (p := p) hlt q)
      have NX := Lib.hid (show onB (Tr P F) p (k + 1) = (onB (Tr P F) p k || hasP p (Tr P F k)) from rfl)
      rw [hT] at t HIT NX
      clear hT hq
      generalize P xn = x at *
      generalize P yn = y at *
      generalize P zn = z at *
      have TC := Lib.hid fun W => tch_any x y z p W t.1 t.2.1 t.2.2 HP.out
      clear t
      generalize hasP p (x, y, z) = hb at *
      go_wp2
      have X := Lib.hid (ron_drew X.out)
      clear m1 m2 m3
      go_region_held3 (fun w' => (w'.cell? ⟨w.heap.size + 1, 0, none⟩ = some (.int .i64 p.1) ∧ w'.cell? ⟨w.heap.size + 1, 1, none⟩ = some (.int .i64 p.2.1) ∧ w'.cell? ⟨w.heap.size + 1, 2, none⟩ = some (.int .i64 p.2.2)) ∧ w'.cell? ⟨w.heap.size, 0, none⟩ = some (.slice (some ⟨b, off, none⟩) np c) ∧ w'.cell? ⟨w.heap.size, 1, none⟩ = some (.slice (some ⟨b', off', none⟩) nf c'))
        (first | with_reducible exact ron_cells X.out | fail)
        (first | (go_at_call 39; (with_reducible refine (CN.out _ (ron_b X.out)).mono ?_); rintro e vv ⟨rfl, hv⟩; have X := Lib.hid (ron_below X.out hv)) | (go_at_call 83; (with_reducible refine (TC.out _).mono ?_); rintro e vv ⟨rfl, hv⟩; have X := Lib.hid (ron_below X.out hv)) | fail)
      cases hb with
      | true =>
        have E := Lib.hid (HIT.out rfl)
        go_wp2
        go_ret
        exact ⟨by rw [E.out]; rfl, X.out.2.2⟩
      | false =>
        go_wp2
        go_roundw
        case rel => exact ⟨k + 1, by omega, by go_num, by rw [NX.out, OF.out]; rfl, X.out⟩
        case measure => simp [intOf]; omega
    · obtain rfl : k = nf := by omega
      go_wp2
      go_ret
      exact ⟨by rw [OF.out]; rfl, X.out.2.2⟩
theorem as_c (a : Option Addr) (np c : Nat) (a' : Option Addr) (nf c' : Nat) (p : P3) (code : Int) (w : World) (V : Hid (∀ W, Below w.heap.size w W → Calls Try.prog 81 #[msv a np c a' nf c'] W fun e w' => e = .returned (.int .i64 code) ∧ Below W.heap.size W w')) (z : (code != 0) = true) : Calls Try.prog 36 #[msv a np c a' nf c', ptv p] w fun e w' => e = .returned (.int .i64 code) ∧ Below w.heap.size w w' := by
  go_enter Try.func36, Try.ntmps36
  go_wp2_with fail
  refine (V.out _ (by (repeat' (first | exact Below.refl _ _ | refine Below.setCell ?_ (by simp <;> omega) _ | refine balloc ?_ _ | refine Below.drew ?_ | refine bdrewN ?_ _)))).mono ?_
  rintro e w1 ⟨rfl, hb1⟩
  have XP := Lib.hid (by have z := own_below (own_new (w.alloc (msc a np c a' nf c' 25)) p 27) hb1; simp only [World.size_alloc] at z; exact z : Own w1 (w.heap.size + 1) p)
  have B1 := Lib.hid (bstep (balloc (balloc (Below.refl _ w) _) _) hb1)
  clear hb1
  go_wp2
  go_ret
  exact ⟨rfl, B1.out⟩
theorem as_1 (a : Option Addr) (np c : Nat) (a' : Option Addr) (nf c' : Nat) (p : P3) (w : World) (V : Hid (∀ W, Below w.heap.size w W → Calls Try.prog 81 #[msv a np c a' nf c'] W fun e w' => e = .returned (.int .i64 0) ∧ Below W.heap.size W w')) (WC : Hid (∀ W, Calls Try.prog 82 #[ptv p, .int .i64 256] W fun e w' => e = .returned (.bool false) ∧ Below W.heap.size W w')) : Calls Try.prog 36 #[msv a np c a' nf c', ptv p] w fun e w' => e = .returned (.int .i64 1) ∧ Below w.heap.size w w' := by
  go_enter Try.func36, Try.ntmps36
  go_wp2_with fail
  refine (V.out _ (by (repeat' (first | exact Below.refl _ _ | refine Below.setCell ?_ (by simp <;> omega) _ | refine balloc ?_ _ | refine Below.drew ?_ | refine bdrewN ?_ _)))).mono ?_
  rintro e w1 ⟨rfl, hb1⟩
  have XP := Lib.hid (by have z := own_below (own_new (w.alloc (msc a np c a' nf c' 25)) p 27) hb1; simp only [World.size_alloc] at z; exact z : Own w1 (w.heap.size + 1) p)
  have B1 := Lib.hid (bstep (balloc (balloc (Below.refl _ w) _) _) hb1)
  clear hb1
  have XP' := XP.out
  obtain ⟨q1, q2, q3, q4, q5, q6, q7⟩ := XP'
  go_wp2_with fail
  refine (WC.out _).mono ?_
  rintro e w2 ⟨rfl, hb2⟩
  clear q1 q2 q3 q4 q5 q6 q7
  have B2 := bstep B1.out hb2
  go_wp2
  go_ret
  exact ⟨rfl, B2⟩
theorem as_0 (a : Option Addr) (np c : Nat) (a' : Option Addr) (nf c' : Nat) (p : P3) (w : World) (V : Hid (∀ W, Below w.heap.size w W → Calls Try.prog 81 #[msv a np c a' nf c'] W fun e w' => e = .returned (.int .i64 0) ∧ Below W.heap.size W w')) (WC : Hid (∀ W, Calls Try.prog 82 #[ptv p, .int .i64 256] W fun e w' => e = .returned (.bool true) ∧ Below W.heap.size W w')) : Calls Try.prog 36 #[msv a np c a' nf c', ptv p] w fun e w' => e = .returned (.int .i64 0) ∧ Below w.heap.size w w' := by
  go_enter Try.func36, Try.ntmps36
  go_wp2_with fail
  refine (V.out _ (by (repeat' (first | exact Below.refl _ _ | refine Below.setCell ?_ (by simp <;> omega) _ | refine balloc ?_ _ | refine Below.drew ?_ | refine bdrewN ?_ _)))).mono ?_
  rintro e w1 ⟨rfl, hb1⟩
  have XP := Lib.hid (by have z := own_below (own_new (w.alloc (msc a np c a' nf c' 25)) p 27) hb1; simp only [World.size_alloc] at z; exact z : Own w1 (w.heap.size + 1) p)
  have B1 := Lib.hid (bstep (balloc (balloc (Below.refl _ w) _) _) hb1)
  clear hb1
  have XP' := XP.out
  obtain ⟨q1, q2, q3, q4, q5, q6, q7⟩ := XP'
  go_wp2_with fail
  refine (WC.out _).mono ?_
  rintro e w2 ⟨rfl, hb2⟩
  clear q1 q2 q3 q4 q5 q6 q7
  have B2 := bstep B1.out hb2
  go_wp2
  go_ret
  exact ⟨rfl, B2⟩
theorem as_any (a : Option Addr) (np c : Nat) (a' : Option Addr) (nf c' : Nat) (p : P3) (P F : Nat → P3) (w : World) (rp : Lst w a np P) (rf : Lst w a' nf F) (hn : np ≤ 1000000) (hm : nf ≤ 1000000) : Calls Try.prog 36 #[msv a np c a' nf c', ptv p] w fun e w' => e = .returned (.int .i64 (acode (vcode ⟨np, nf, P, F⟩) p)) ∧ Below w.heap.size w w' := by
  have V := fun W (B : Below w.heap.size w W) => rval_any a np c a' nf c' P F W (lst_below rp B) (lst_below rf B) hn hm
  have WC := fun W => near_any p 256 W (by decide) (by decide)
  by_cases z : vcode ⟨np, nf, P, F⟩ = 0
  · rw [z] at V
    cases k : inP 256 p with
    | false =>
      rw [k] at WC
      rw [acode_1 z k]
      exact as_1 a np c a' nf c' p w (Lib.hid V) (Lib.hid WC)
    | true =>
      rw [k] at WC
      rw [acode_0 z k]
      exact as_0 a np c a' nf c' p w (Lib.hid V) (Lib.hid WC)
  · rw [acode_c z]
    exact as_c a np c a' nf c' p _ w (Lib.hid V) (bne_iff_ne.2 z)
theorem acode_rows {np nf : Nat} {P F : Nat → P3} {p : P3} (z : acode (vcode ⟨np, nf, P, F⟩) p = 0) : vcode ⟨np, nf, P, F⟩ = 0 ∧ inP 256 p = true := by
  have zc : vcode ⟨np, nf, P, F⟩ = 0 := by
    unfold acode at z
    by_cases q : vcode ⟨np, nf, P, F⟩ = 0
    · exact q
    · rw [if_neg q] at z; exact absurd z q
  refine ⟨zc, ?_⟩
  unfold acode at z
  rw [if_pos zc] at z
  cases q : inP 256 p with
  | true => rfl
  | false => rw [q] at z; exact absurd z (by decide)
theorem ron_c (a : Option Addr) (np c : Nat) (a' : Option Addr) (nf c' : Nat) (p : P3) (code : Int) (w : World) (AC : Hid (∀ W, Below w.heap.size w W → Calls Try.prog 36 #[msv a np c a' nf c', ptv p] W fun e w' => e = .returned (.int .i64 code) ∧ Below W.heap.size W w')) (z : (code != 0) = true) : Calls Try.prog 9 #[msv a np c a' nf c', ptv p] w fun e w' => e = .returned (.tuple #[.bool false, .int .i64 code]) ∧ Below w.heap.size w w' := by
  have XM0 := Lib.hid (mes_alloc (mes_new w a np c a' nf c' 25) (ptc p 27))
  have XP0 := Lib.hid (by have z := own_new (w.alloc (msc a np c a' nf c' 25)) p 27; simp only [World.size_alloc] at z; exact z : Own ((w.alloc (msc a np c a' nf c' 25)).alloc (ptc p 27)) (w.heap.size + 1) p)
  go_enter Try.func9, Try.ntmps9
  go_wp2_with fail
  refine (AC.out _ (by (repeat' (first | exact Below.refl _ _ | refine Below.setCell ?_ (by simp <;> omega) _ | refine balloc ?_ _ | refine Below.drew ?_ | refine bdrewN ?_ _)))).mono ?_
  rintro e w1 ⟨rfl, hb1⟩
  have XM := Lib.hid (mes_below XM0.out hb1)
  have XP := Lib.hid (own_below XP0.out hb1)
  have B1 := Lib.hid (bstep (balloc (balloc (Below.refl _ w) _) _) hb1)
  clear hb1 XM0 XP0
  go_wp2
  go_ret2
  exact ⟨rfl, B1.out⟩
theorem ron_ok (a : Option Addr) (np c : Nat) (a' : Option Addr) (nf c' : Nat) (p : P3) (o : Bool) (w : World) (AC : Hid (∀ W, Below w.heap.size w W → Calls Try.prog 36 #[msv a np c a' nf c', ptv p] W fun e w' => e = .returned (.int .i64 0) ∧ Below W.heap.size W w')) (OC : Hid (∀ W, Below w.heap.size w W → Calls Try.prog 37 #[msv a np c a' nf c', ptv p] W fun e w' => e = .returned (.bool o) ∧ Below W.heap.size W w')) : Calls Try.prog 9 #[msv a np c a' nf c', ptv p] w fun e w' => e = .returned (.tuple #[.bool o, .int .i64 0]) ∧ Below w.heap.size w w' := by
  have XM0 := Lib.hid (mes_alloc (mes_new w a np c a' nf c' 25) (ptc p 27))
  have XP0 := Lib.hid (by have z := own_new (w.alloc (msc a np c a' nf c' 25)) p 27; simp only [World.size_alloc] at z; exact z : Own ((w.alloc (msc a np c a' nf c' 25)).alloc (ptc p 27)) (w.heap.size + 1) p)
  go_enter Try.func9, Try.ntmps9
  go_wp2_with fail
  refine (AC.out _ (by (repeat' (first | exact Below.refl _ _ | refine Below.setCell ?_ (by simp <;> omega) _ | refine balloc ?_ _ | refine Below.drew ?_ | refine bdrewN ?_ _)))).mono ?_
  rintro e w1 ⟨rfl, hb1⟩
  have XM := Lib.hid (mes_below XM0.out hb1)
  have XP := Lib.hid (own_below XP0.out hb1)
  have B1 := Lib.hid (bstep (balloc (balloc (Below.refl _ w) _) _) hb1)
  clear hb1 XM0 XP0
  obtain ⟨m1, m2, m3⟩ := XM.out
  have XP' := XP.out
  obtain ⟨q1, q2, q3, q4, q5, q6, q7⟩ := XP'
  go_wp2_with fail
  refine (OC.out _ B1.out).mono ?_
  rintro e w2 ⟨rfl, hb2⟩
  have B2 := bstep B1.out hb2
  go_wp2
  go_ret2
  exact ⟨rfl, B2⟩
theorem ron_any (a : Option Addr) (np c : Nat) (a' : Option Addr) (nf c' : Nat) (p : P3) (P F : Nat → P3) (w : World) (rp : Lst w a np P) (rf : Lst w a' nf F) (hn : np ≤ 1000000) (hm : nf ≤ 1000000) : Calls Try.prog 9 #[msv a np c a' nf c', ptv p] w fun e w' => e = .returned (.tuple #[.bool (if acode (vcode ⟨np, nf, P, F⟩) p = 0 then onB (Tr P F) p nf else false), .int .i64 (acode (vcode ⟨np, nf, P, F⟩) p)]) ∧ Below w.heap.size w w' := by
  have AC := fun W (B : Below w.heap.size w W) => as_any a np c a' nf c' p P F W (lst_below rp B) (lst_below rf B) hn hm
  by_cases z : acode (vcode ⟨np, nf, P, F⟩) p = 0
  · obtain ⟨zc, k⟩ := acode_rows z
    obtain ⟨h1, h2, h3, h4, h5, h6⟩ := vcode_rows zc
    obtain ⟨b', off', rfl, rF⟩ := rf h3
    obtain ⟨b, off, rfl, rP⟩ := rp h1
    rw [z] at AC
    rw [if_pos z, z]
    exact ron_ok _ np c _ nf c' p _ w (Lib.hid AC) (Lib.hid fun W B => ron_row b off np c b' off' nf c' p P F W (row3_below rP B) (row3_below rF B) (by omega) h4 h5 h6 (inP_iff.1 k))
  · rw [if_neg z]
    exact ron_c a np c a' nf c' p _ w (Lib.hid AC) (bne_iff_ne.2 z)

end Go.Proofs.Ytllonfaogbdbnaa
