/-
  The contract of the document's volume.
-/
import Derived.Test.YtllonfaogbdbnaaVol
import Derived.Test.YtllonfaogbdbnaaCorners
import Derived.IntWalk
namespace Go.Proofs.Ytllonfaogbdbnaa
open Go.ChangeShapes Go.WideShapes Go.RowKit
open Sh
theorem det_fit' {a b c : P3} (h : BdP 64 a) (k : BdP 64 b) (l : BdP 64 c) : BdP 1152921504606846976 (pw a (vec b c)) := det_fit (h.mono (by decide)) (k.mono (by decide)) (l.mono (by decide))
theorem mes_drew {w : World} {q : Nat} {a : Option Addr} {n c : Nat} {a' : Option Addr} {n' c' : Nat} (h : Mes w q a n c a' n' c') : Mes w.drew q a n c a' n' c' := h
set_option maxRecDepth 100000 in
set_option maxHeartbeats 2000000 in
theorem rvol_row (b off np c b' off' nf c' : Nat) (P F : Nat → P3) (w : World) (rp : Row3 w b off np P) (r : Row3 w b' off' nf F) (hn : np ≤ 1000000) (hm : nf ≤ 1000000) (nr : ∀ k, k < nf → Fok np (F k)) (tb : TrB P F nf) :
    Calls Try.prog 104 #[msv (some ⟨b, off, none⟩) np c (some ⟨b', off', none⟩) nf c'] w fun e w' => e = .returned (.int .i64 (vol P F nf)) ∧ Below w.heap.size w w' := by
  have NR := Lib.hid nr
  have TB := Lib.hid tb
  have RP := Lib.hid rp
  have RF := Lib.hid r
  have hm' : (nf : Int) ≤ 1000000 := by omega
  clear rp r nr tb
  go_enter Try.func104, Try.ntmps104
  go_wp2
  go_loopw [3, 4] (fun sv kv wr => ∃ k : Nat, k ≤ nf ∧ kv = .int .i64 k ∧ sv = .int .i64 (vol P F k) ∧ Mes wr w.heap.size (some ⟨b, off, none⟩) np c (some ⟨b', off', none⟩) nf c' ∧ Below w.heap.size w wr) (fun _ kv _ => nf - (intOf kv).toNat)
  case atStart => exact ⟨0, Nat.zero_le _, rfl, rfl, mes_new _ _ _ _ _ _ _ _, by (repeat' (first | exact Below.refl _ _ | refine Below.setCell ?_ (by simp <;> omega) _ | refine balloc ?_ _ | refine Below.drew ?_ | refine bdrewN ?_ _))⟩
  case round =>
    obtain ⟨k, hk, rfl, rfl, me, BB⟩ := hrel
    have B0 := Lib.hid BB
    have ME := Lib.hid me
    obtain ⟨m1, m2, m3⟩ := me
    clear BB
    by_cases hlt : k < nf
    · have hk1 : (k : Int) < (nf : Int) := by omega
      obtain ⟨x, y, z, hp, hx, hy, hz⟩ := fok_nat (NR.out k hlt)
      have CN := Lib.hid (fun W (B : Below w.heap.size w W) => corners_nat b off np c b' off' nf c' k x y z P F W (row3_below RP.out B) (row3_below RF.out B) hlt hx hy hz hn hm hp)
      have T := Lib.hid (TB.out k hlt)
      have vb := vol_bd (P := P) (F := F) (n := k) (fun i hi => TB.out i (by omega))
      have db := det_bd T.out.1 T.out.2.1 T.out.2.2
      have E := Lib.hid (show vol P F (k + 1) = vol P F k + det (Tr P F k).1 (Tr P F k).2.1 (Tr P F k).2.2 from rfl)
      have hT : Tr P F k = (P x, P y, P z) := by unfold Tr; rw [hp]; rfl
      rw [hT] at T db E
      clear hT hp
      generalize P x = p at *
      generalize P y = q at *
      generalize P z = s at *
      have A1 := Lib.hid (T.out.2.1.mono (by decide) : BdP 1048576 q)
      have A2 := Lib.hid (T.out.2.2.mono (by decide) : BdP 1048576 s)
      have A3 := Lib.hid (det_fit' T.out.1 T.out.2.1 T.out.2.2)
      go_wp2_with fail
      refine (CN.out _ (by have hB := B0.out; (repeat' (first | exact Below.refl _ _ | refine bstep ?_ hB | refine Below.setCell ?_ (by simp <;> omega) _ | refine balloc ?_ _ | refine Below.drew ?_ | refine bdrewN ?_ _)))).mono ?_
      rintro e w1 ⟨rfl, hb1⟩
      have me1 := Lib.hid (mes_alloc (mes_below ME.out hb1) (.cells #[.int .i64 p.1, .int .i64 p.2.1, .int .i64 p.2.2, .int .i64 q.1, .int .i64 q.2.1, .int .i64 q.2.2, .int .i64 s.1, .int .i64 s.2.1, .int .i64 s.2.2] 77))
      have B1 := Lib.hid (balloc (bstep B0.out hb1) (.cells #[.int .i64 p.1, .int .i64 p.2.1, .int .i64 p.2.2, .int .i64 q.1, .int .i64 q.2.1, .int .i64 q.2.2, .int .i64 s.1, .int .i64 s.2.1, .int .i64 s.2.2] 77))
      have i0 := pan_drew (pan_new w1 p q s 77)
      clear m1 m2 m3 hb1
      have wq : IntKind.i64.wrap (vol P F k + dot p (vec q s)) = vol P F k + dot p (vec q s) := IntWalk.i64_in _ (by have d1 : dot p (vec q s) = det p q s := rfl; rw [d1]; omega)
      go_wp2_with fail
      go_region_held3 (fun w' => w'.cell? ⟨w1.heap.size, 0, none⟩ = some (.int .i64 p.1) ∧ w'.cell? ⟨w1.heap.size, 1, none⟩ = some (.int .i64 p.2.1) ∧ w'.cell? ⟨w1.heap.size, 2, none⟩ = some (.int .i64 p.2.2) ∧ w'.cell? ⟨w1.heap.size, 3, none⟩ = some (.int .i64 q.1) ∧ w'.cell? ⟨w1.heap.size, 4, none⟩ = some (.int .i64 q.2.1) ∧ w'.cell? ⟨w1.heap.size, 5, none⟩ = some (.int .i64 q.2.2) ∧ w'.cell? ⟨w1.heap.size, 6, none⟩ = some (.int .i64 s.1) ∧ w'.cell? ⟨w1.heap.size, 7, none⟩ = some (.int .i64 s.2.1) ∧ w'.cell? ⟨w1.heap.size, 8, none⟩ = some (.int .i64 s.2.2))
        (first | exact pan_cells i0 | exact pan_cells i1 | exact pan_cells i2 | fail)
        (first | (go_at_call 44; (with_reducible refine (cross_any q s _ A1.out A2.out).mono ?_); rintro e v1 ⟨rfl, hv1⟩; have i1 := pan_below i0 hv1) | (go_at_call 42; (with_reducible refine (rdot_any p (vec q s) _ A3.out).mono ?_); rintro e v2 ⟨rfl, hv2⟩; have i2 := pan_below i1 hv2) | fail)
      all_goals
        clear wq
        go_wp2
        go_roundw
        case rel => exact ⟨k + 1, by omega, by go_num, by rw [E.out]; rfl, mes_below (mes_below (mes_drew me1.out) hv1) hv2, bstep (bstep (Below.drew B1.out) hv1) hv2⟩
        case measure => simp [intOf]; omega
    · obtain rfl : k = nf := by omega
      go_wp2
      go_ret
      exact ⟨rfl, B0.out⟩

end Go.Proofs.Ytllonfaogbdbnaa
