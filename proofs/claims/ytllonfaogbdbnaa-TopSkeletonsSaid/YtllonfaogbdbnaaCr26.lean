/-
  The contracts of Worst, in the program and in the document's answer.
-/
import Derived.Test.YtllonfaogbdbnaaCr25
namespace Go.Proofs.Ytllonfaogbdbnaa
open Go.ChangeShapes Go.WideShapes Go.RowKit
open Cr
set_option maxHeartbeats 2000000 in
theorem worstP_any (A R C : Option Addr) (c cr cc : Nat) (M : List (List Int)) (rows cols : List Int) (w : World) (h : Arg w A M R C rows cols) :
    Calls Try.prog 17 #[.slice A M.length c, .slice R rows.length cr, .slice C cols.length cc] w fun e w' => e = .returned (.tuple #[rtv (wrs M rows cols).1, .int .i64 (wrs M rows cols).2]) ∧ Below w.heap.size w w' := by
  have R0 := Lib.hid (rz_new w)
  by_cases z : (dvz M rows cols).2 = 0
  · obtain ⟨k, dz, _⟩ := dvz_ok z
    have ho := chs_of h k
    have hl := (cho_of h k).2
    have CH := Lib.hid (fun W (B : Below w.heap.size w W) => choose_ok A R C c cr cc M rows cols W (arg_in h B) k dz)
    have WO := Lib.hid (fun W (B : Below w.heap.size w W) => worst_any A R C c cr cc M rows cols W ⟨cho_in ho.cho B, ho.sr, ho.sc⟩ dz)
    have e : wrs M rows cols = (ratq (wst M rows cols) (absI (detR M rows cols)), 0) := by unfold wrs; rw [if_pos z]
    rw [e]
    rw [hl] at CH ⊢
    obtain ⟨rr, hrr⟩ : ∃ rr, ratq (wst M rows cols) (absI (detR M rows cols)) = rr := ⟨_, rfl⟩
    rw [hrr] at WO ⊢
    clear hrr h ho hl k dz z e
    generalize detR M rows cols = d at *
    go_enter Try.func17, Try.ntmps17
    go_wp2_with fail
    with_reducible refine (CH.out _ (RZ.bel R0.out)).mono ?_
    rintro e w2 ⟨rfl, hb⟩
    have R2 := Lib.hid (rz_below R0.out hb)
    have R3 := Lib.hid (rz_alloc R2.out (chb A M.length c R rows.length cr C rows.length cc d))
    clear hb
    go_wp2_with fail
    with_reducible refine (WO.out _ (RZ.bel R3.out)).mono ?_
    rintro e w3 ⟨rfl, hb⟩
    have R4 := Lib.hid (rz_below R3.out hb)
    obtain ⟨r0, r1, r2, r3, r4⟩ := rz_s R4.out
    clear hb
    go_wp2_with fail
    refine bodyPost_ret (v := .tuple #[rtv rr, .int .i64 0]) (by rw [results_cellF2 rfl]; go_simp) rfl ⟨rfl, ?_⟩
    have hB := R4.out.bel
    (repeat' (first | exact Below.refl _ _ | refine bstep ?_ hB | refine Below.setCell ?_ (by simp <;> omega) _ | refine balloc ?_ _ | refine Below.drew ?_ | refine bdrewN ?_ _))
  · have e : wrs M rows cols = ((0, 0), (dvz M rows cols).2) := by unfold wrs; rw [if_neg z]
    rw [e]
    have CH := Lib.hid (fun W (B : Below w.heap.size w W) => (show Calls Try.prog 45 #[.slice A M.length c, .slice R rows.length cr, .slice C cols.length cc] W fun e w' => e = .returned (.tuple #[chv none 0 0 none 0 0 none 0 0 0, .int .i64 (dvz M rows cols).2]) ∧ Below W.heap.size W w' from by
      unfold dvz
      by_cases k : kcode M rows cols = 0
      · rw [if_pos k]
        by_cases dz : detR M rows cols = 0
        · rw [if_pos dz]
          exact choose_zero A R C c cr cc M rows cols W (arg_in h B) k dz
        · exfalso
          apply z
          unfold dvz
          rw [if_pos k, if_neg dz]
      · rw [if_neg k]
        exact choose_err A R C c cr cc M rows cols W (arg_in h B) k))
    clear h e
    generalize (dvz M rows cols).2 = e at *
    have t1 : (e != 0) = true := by simp [z]
    have t2 : (e == 0) = false := by simp [z]
    clear z
    go_enter Try.func17, Try.ntmps17
    go_wp2_with fail
    with_reducible refine (CH.out _ (RZ.bel R0.out)).mono ?_
    rintro e w2 ⟨rfl, hb⟩
    have R2 := Lib.hid (rz_below R0.out hb)
    obtain ⟨r0, r1, r2, r3, r4⟩ := rz_s R2.out
    clear hb
    go_wp2_with fail
    refine bodyPost_ret (v := .tuple #[rtv (0, 0), .int .i64 e]) (by rw [results_cellF2 rfl]; go_simp) rfl ⟨rfl, ?_⟩
    have hB := R2.out.bel
    (repeat' (first | exact Below.refl _ _ | refine bstep ?_ hB | refine Below.setCell ?_ (by simp <;> omega) _ | refine balloc ?_ _ | refine Below.drew ?_ | refine bdrewN ?_ _))
set_option maxHeartbeats 2000000 in
theorem rworstP_any (A R C : Option Addr) (c cr cc : Nat) (M : List (List Int)) (rows cols : List Int) (w : World) (h : Arg w A M R C rows cols) (hcr : rows.length ≤ cr) (hcc : cols.length ≤ cc) :
    Calls Try.prog 18 #[.slice A M.length c, .slice R rows.length cr, .slice C cols.length cc] w fun e w' => e = .returned (.tuple #[rtv (wrs M rows cols).1, .int .i64 (wrs M rows cols).2]) ∧ Below w.heap.size w w' := by
  have R0 := Lib.hid (rz_new w)
  have CH := Lib.hid (fun W (B : Below w.heap.size w W) => rdiv6_any A R C c cr cc M rows cols W (arg_in h B) hcr hcc)
  by_cases z : (dvz M rows cols).2 = 0
  · obtain ⟨k, dz, d1⟩ := dvz_ok z
    have ho := chs_of h k
    have hl := (cho_of h k).2
    rw [z, d1] at CH
    rw [hl] at CH ⊢
    have WO := Lib.hid (fun W (B : Below w.heap.size w W) => rworst_any A R C c cr cc M rows cols W ⟨cho_in ho.cho B, ho.sr, ho.sc⟩)
    have W6 := wst6 ho
    have D6 := detC6 ho
    have ad : absI (detR M rows cols) ≠ 0 := by unfold absI; split <;> omega
    obtain ⟨a1, a2⟩ := absI_bd D6.1 D6.2.1
    have QU := Lib.hid (fun W => ratio_any (wst M rows cols) (absI (detR M rows cols)) W ad (by omega) (by omega) (by omega) (by omega))
    have AD := Lib.hid (fun W => size_any (detR M rows cols) W (by omega) (by omega))
    have e : wrs M rows cols = (ratq (wst M rows cols) (absI (detR M rows cols)), 0) := by unfold wrs; rw [if_pos z]
    rw [e]
    obtain ⟨rr, hrr⟩ : ∃ rr, ratq (wst M rows cols) (absI (detR M rows cols)) = rr := ⟨_, rfl⟩
    rw [hrr] at QU ⊢
    clear hrr h ho hl k dz z e hcr hcc d1 W6 D6 ad a1 a2
    generalize absI (detR M rows cols) = ad at *
    generalize detR M rows cols = d at *
    generalize wst M rows cols = y at *
    go_enter Try.func18, Try.ntmps18
    go_wp2_with fail
    with_reducible refine (CH.out _ (RZ.bel R0.out)).mono ?_
    rintro e w2 ⟨rfl, hb⟩
    have R2 := Lib.hid (rz_below R0.out hb)
    clear hb
    go_wp2_with fail
    with_reducible refine (WO.out _ (RZ.bel R2.out)).mono ?_
    rintro e w3 ⟨rfl, hb⟩
    have R3 := Lib.hid (rz_below R2.out hb)
    clear hb
    go_wp2_with fail
    with_reducible refine (AD.out _).mono ?_
    rintro e w4 ⟨rfl, rfl⟩
    go_wp2_with fail
    with_reducible refine (QU.out _).mono ?_
    rintro e w4 ⟨rfl, hb⟩
    have R4 := Lib.hid (rz_below R3.out hb)
    obtain ⟨r0, r1, r2, r3, r4⟩ := rz_s R4.out
    clear hb
    go_wp2_with fail
    refine bodyPost_ret (v := .tuple #[rtv rr, .int .i64 0]) (by rw [results_cellF2 rfl]; go_simp) rfl ⟨rfl, ?_⟩
    have hB := R4.out.bel
    (repeat' (first | exact Below.refl _ _ | refine bstep ?_ hB | refine Below.setCell ?_ (by simp <;> omega) _ | refine balloc ?_ _ | refine Below.drew ?_ | refine bdrewN ?_ _))
  · have e : wrs M rows cols = ((0, 0), (dvz M rows cols).2) := by unfold wrs; rw [if_neg z]
    rw [e]
    clear h e hcr hcc
    generalize (dvz M rows cols).2 = e at *
    generalize (dvz M rows cols).1 = d at *
    have t1 : (e != 0) = true := by simp [z]
    have t2 : (e == 0) = false := by simp [z]
    clear z
    go_enter Try.func18, Try.ntmps18
    go_wp2_with fail
    with_reducible refine (CH.out _ (RZ.bel R0.out)).mono ?_
    rintro e w2 ⟨rfl, hb⟩
    have R2 := Lib.hid (rz_below R0.out hb)
    obtain ⟨r0, r1, r2, r3, r4⟩ := rz_s R2.out
    clear hb
    go_wp2_with fail
    refine bodyPost_ret (v := .tuple #[rtv (0, 0), .int .i64 e]) (by rw [results_cellF2 rfl]; go_simp) rfl ⟨rfl, ?_⟩
    have hB := R2.out.bel
    (repeat' (first | exact Below.refl _ _ | refine bstep ?_ hB | refine Below.setCell ?_ (by simp <;> omega) _ | refine balloc ?_ _ | refine Below.drew ?_ | refine bdrewN ?_ _))

end Go.Proofs.Ytllonfaogbdbnaa
