/-
  The contract of Fast.
-/
import Derived.Test.YtllonfaogbdbnaaCrP3
namespace Go.Proofs.Ytllonfaogbdbnaa
open Go.ChangeShapes Go.WideShapes Go.RowKit
open Cr
/-- the error of a matrix, a choice and x -/
def fcd (M : List (List Int)) (rows cols x : List Int) : Int := if vcode M = 0 then (if fitB M x && chB M rows cols then (if detR M rows cols = 0 then 11 else 0) else 1) else vcode M
def fsL (M : List (List Int)) (rows cols x : List Int) : List (Int × Int) := (List.range M.length).map fun i => fsr M rows cols i x
def fL (M : List (List Int)) (rows cols x : List Int) : List (Int × Int) := if fcd M rows cols x = 0 then fsL M rows cols x else []
theorem fsL_len (M : List (List Int)) (rows cols x : List Int) : (fsL M rows cols x).length = M.length := by unfold fsL; simp
theorem fsL_at (M : List (List Int)) (rows cols x : List Int) {i : Nat} (h : i < M.length) : rat_ (fsL M rows cols x) i = fsr M rows cols i x := by unfold fsL rat_; simp [List.getD, h]
theorem fL_ne {M : List (List Int)} {rows cols x : List Int} {e : Int} (h : fcd M rows cols x = e) (n : e ≠ 0) : fL M rows cols x = [] := by unfold fL; rw [h, if_neg n]
theorem fL_ok {M : List (List Int)} {rows cols x : List Int} (h : fcd M rows cols x = 0) : fL M rows cols x = fsL M rows cols x := by unfold fL; rw [h, if_pos rfl]
theorem fcd_v {M : List (List Int)} {rows cols x : List Int} (h : vcode M ≠ 0) : fcd M rows cols x = vcode M := if_neg h
theorem fcd_f {M : List (List Int)} {rows cols x : List Int} (h : vcode M = 0) (f : fitB M x = false) : fcd M rows cols x = 1 := by unfold fcd; rw [if_pos h, f]; rfl
theorem fcd_c {M : List (List Int)} {rows cols x : List Int} (h : vcode M = 0) (c : chB M rows cols = false) : fcd M rows cols x = 1 := by unfold fcd; rw [if_pos h, c]; simp
theorem fcd_z {M : List (List Int)} {rows cols x : List Int} (h : vcode M = 0) (f : fitB M x = true) (c : chB M rows cols = true) (d : detR M rows cols = 0) : fcd M rows cols x = 11 := by unfold fcd; rw [if_pos h, f, c, if_pos d]; rfl
theorem fcd_0 {M : List (List Int)} {rows cols x : List Int} (h : vcode M = 0) (f : fitB M x = true) (c : chB M rows cols = true) (d : detR M rows cols ≠ 0) : fcd M rows cols x = 0 := by unfold fcd; rw [if_pos h, f, c, if_neg d]; rfl
theorem rtake_next {l : List (Int × Int)} {k : Nat} (h : k < l.length) : l.take (k + 1) = l.take k ++ [rat_ l k] := by
  rw [List.take_succ_eq_append_getElem h]
  unfold rat_
  simp [List.getD, h]
theorem chs_in {w w1 : World} {A R C : Option Addr} {n m K : Nat} {M : List (List Int)} {rows cols : List Int} (h : ChS w A n m M R C K rows cols) (hb : Below w.heap.size w w1) : ChS w1 A n m M R C K rows cols := ⟨cho_in h.cho hb, h.sr, h.sc⟩
theorem dvz_err {M : List (List Int)} {rows cols : List Int} (z : (dvz M rows cols).2 ≠ 0) {A R C : Option Addr} {c cr cc : Nat} {W : World} (h : Arg W A M R C rows cols) :
    Calls Try.prog 45 #[.slice A M.length c, .slice R rows.length cr, .slice C cols.length cc] W fun e w' => e = .returned (.tuple #[chv none 0 0 none 0 0 none 0 0 0, .int .i64 (dvz M rows cols).2]) ∧ Below W.heap.size W w' := by
  unfold dvz at z ⊢
  by_cases k : kcode M rows cols = 0
  · rw [if_pos k] at z ⊢
    by_cases dz : detR M rows cols = 0
    · rw [if_pos dz]
      exact choose_zero A R C c cr cc M rows cols W h k dz
    · exact absurd (by rw [if_neg dz]) z
  · rw [if_neg k]
    exact choose_err A R C c cr cc M rows cols W h k
/-- an argument that is a choice and a list -/
structure ArX (w : World) (A : Option Addr) (M : List (List Int)) (R C X : Option Addr) (rows cols x : List Int) : Prop where
  arg : Arg w A M R C rows cols
  xI : IL w X x
  nx : x.length ≤ 1000
theorem arx_in {w w1 : World} {A R C X : Option Addr} {M : List (List Int)} {rows cols x : List Int} (h : ArX w A M R C X rows cols x) (hb : Below w.heap.size w w1) : ArX w1 A M R C X rows cols x := ⟨arg_in h.arg hb, il_in h.xI hb, h.nx⟩
theorem dvz_v {M : List (List Int)} {rows cols : List Int} (v : vcode M = 0) : (chB M rows cols = false → (dvz M rows cols).2 = 1) ∧ (chB M rows cols = true → detR M rows cols = 0 → (dvz M rows cols).2 = 11) ∧ (chB M rows cols = true → detR M rows cols ≠ 0 → (dvz M rows cols).2 = 0) := by
  refine ⟨fun c => ?_, fun c d => ?_, fun c d => ?_⟩ <;> unfold dvz
  · rw [kcode_bad v c]; rfl
  · rw [kcode_good v c, if_pos rfl, if_pos d]
  · rw [kcode_good v c, if_pos rfl, if_neg d]
/-- a choice in the block q -/
def WQ (q : Nat) (A : Option Addr) (n c : Nat) (R : Option Addr) (K cr : Nat) (C : Option Addr) (K' cc : Nat) (d : Int) (w1 : World) : Prop := w1.cell? ⟨q, 0, none⟩ = some (.slice A n c) ∧ w1.cell? ⟨q, 1, none⟩ = some (.slice R K cr) ∧ w1.cell? ⟨q, 2, none⟩ = some (.slice C K' cc) ∧ w1.cell? ⟨q, 3, none⟩ = some (.int .i64 d) ∧ q < w1.heap.size
theorem wq_s {q : Nat} {A : Option Addr} {n c : Nat} {R : Option Addr} {K cr : Nat} {C : Option Addr} {K' cc : Nat} {d : Int} {w1 : World} (h : WQ q A n c R K cr C K' cc d w1) : w1.cell? ⟨q, 0, none⟩ = some (.slice A n c) ∧ w1.cell? ⟨q, 1, none⟩ = some (.slice R K cr) ∧ w1.cell? ⟨q, 2, none⟩ = some (.slice C K' cc) ∧ w1.cell? ⟨q, 3, none⟩ = some (.int .i64 d) ∧ q < w1.heap.size := h
theorem wq_below {q : Nat} {A : Option Addr} {n c : Nat} {R : Option Addr} {K cr : Nat} {C : Option Addr} {K' cc : Nat} {d : Int} {w1 w2 : World} (h : WQ q A n c R K cr C K' cc d w1) (hb : Below w1.heap.size w1 w2) : WQ q A n c R K cr C K' cc d w2 := by
  obtain ⟨h0, h1, h2, h3, h4⟩ := h
  exact ⟨(hb.cell (p := ⟨q, 0, none⟩) h4).trans h0, (hb.cell (p := ⟨q, 1, none⟩) h4).trans h1, (hb.cell (p := ⟨q, 2, none⟩) h4).trans h2, (hb.cell (p := ⟨q, 3, none⟩) h4).trans h3, Nat.lt_of_lt_of_le h4 hb.size⟩
set_option maxHeartbeats 4000000 in
theorem fast_any (A R C X : Option Addr) (c cr cc cx : Nat) (M : List (List Int)) (rows cols x : List Int) (w : World) (h : ArX w A M R C X rows cols x) : Calls Try.prog 25 #[.slice A M.length c, .slice R rows.length cr, .slice C cols.length cc, .slice X x.length cx] w fun e w' => ∃ A' c', e = .returned (.tuple #[.slice A' (fL M rows cols x).length c', .int .i64 (fcd M rows cols x)]) ∧ RLs w' A' (fL M rows cols x) ∧ Below w.heap.size w w' := by
  have PR := Lib.hid (prodP_any A X c cx M x w h.arg.mat h.arg.len h.arg.wid h.xI h.nx)
  by_cases pc : pcode M x = 0
  · have hv : vcode M = 0 := by
      refine Classical.byContradiction fun z => ?_
      rw [(pcode_v (x := x) z).1] at pc
      exact z pc
    have hf : fitB M x = true := by
      cases e : fitB M x with
      | true => rfl
      | false => rw [(pcode_1 hv e).1] at pc; cases pc
    rw [(pcode_0 hv hf).2, pc] at PR
    by_cases z : (dvz M rows cols).2 = 0
    · obtain ⟨k, dz, _⟩ := dvz_ok z
      have ho := chs_of h.arg k
      have hl := (cho_of h.arg k).2
      have f0 : fcd M rows cols x = 0 := fcd_0 hv hf (kcode_cases k).2 dz
      rw [fL_ok f0, f0]
      obtain ⟨fx, bx⟩ := fitB_of hf
      have CH := Lib.hid (fun W (B : Below w.heap.size w W) => choose_ok A R C c cr cc M rows cols W (arg_in h.arg B) k dz)
      rw [hl] at CH ⊢
      have LE := Lib.hid (fun W (B : Below w.heap.size w W) i (hi : i < M.length) => left_any A R C X c cr cc cx M rows cols x i W (chs_in ho B) dz hi (il_in h.xI B) fx (fun k hk => bx k (by omega)))
      rw [← fx] at LE
      have FL := Lib.hid (fsL_len M rows cols x)
      have FA := Lib.hid (fun i (hi : i < M.length) => fsL_at M rows cols x hi)
      have PLN := Lib.hid (prL_len M x)
      have PA := Lib.hid (fun i (hi : i < M.length) => prL_at M x hi)
      have MB := Lib.hid (fun i (hi : i < M.length) W => (show Calls Try.prog 46 #[.int .i64 (at_ (prL M x) i), rtv (lft M rows cols (i : Int) x)] W fun e w' => e = .returned (rtv (rat_ (fsL M rows cols x) i)) ∧ Below W.heap.size W w' from by
        rw [fsL_at M rows cols x hi, prL_at M x hi]
        have hb := lft_bd ho dz (i := (i : Int)) (x := x) (by omega) (fun k hk => bx k (by omega))
        have ib := ip_bd (r := rw_ M i) (x := x) (n := (rw_ M 0).length) (fun k hk => ho.cho.sq.at hi hk) (fun k hk => bx k (by omega)) ho.cho.hm (Nat.le_refl _)
        have pb := Cr.mul_bd ib.1 ib.2 (show -1200000000000 ≤ (lft M rows cols (i : Int) x).2 by omega) hb.2.2.2
        have pb1 : -720000000000000000 ≤ ip (rw_ M i) x (rw_ M 0).length * (lft M rows cols (i : Int) x).2 := pb.1
        have pb2 : ip (rw_ M i) x (rw_ M 0).length * (lft M rows cols (i : Int) x).2 ≤ 720000000000000000 := pb.2
        exact minus_any _ _ W (by omega) (by omega) (by omega) (by omega)))
      have nn : (M.length : Int) ≤ 6 := by have := ho.cho.hn; omega
      rw [FL.out]
      rw [PLN.out] at PR
      clear h pc hv hf z k dz ho hl f0 fx bx
      generalize prL M x = P at *
      generalize fsL M rows cols x = S at *
      generalize detR M rows cols = d at *
      generalize rows.length = K at *
      generalize x.length = nx at *
      go_enter Try.func25, Try.ntmps25
      go_wp2_with fail
      with_reducible refine PR.out.mono ?_
      rintro e w2 ⟨AP, cp, rfl, hP, hb⟩
      have HB := Lib.hid hb
      have HP := Lib.hid hP
      clear hb hP
      go_wp2_with fail
      with_reducible refine (CH.out _ HB.out).mono ?_
      rintro e w3 ⟨rfl, hb⟩
      have HB3 := Lib.hid (balloc (bstep HB.out hb) (chb A M.length c R K cr C K cc d))
      have HP3 := Lib.hid (il_in (il_in HP.out hb) (alloc_below w3 (chb A M.length c R K cr C K cc d)))
      have Q3 := Lib.hid (show WQ w3.heap.size A M.length c R K cr C K cc d (w3.alloc (chb A M.length c R K cr C K cc d)) from ⟨by go_simp, by go_simp, by go_simp, by go_simp, by simp⟩)
      clear hb HB HP CH PR
      go_wp2_with fail
      generalize w3.alloc (chb A M.length c R K cr C K cc d) = W0 at *
      generalize w3.heap.size = q at *
      go_loopw [13, 37] (fun pv kv wr => ∃ k A' c', k ≤ M.length ∧ kv = .int .i64 (k : Int) ∧ pv = .slice A' k c' ∧ OR wr W0.heap.size (.slice A' k c') (S.take k) ∧ Below W0.heap.size W0 wr) (fun _ kv _ => M.length - (intOf kv).toNat)
      case atStart => exact ⟨0, none, 0, Nat.zero_le _, rfl, rfl, by rw [List.take_zero]; exact or_nil _ _, Below.refl _ _⟩
      case round =>
        obtain ⟨k, A2, c2, hk, rfl, rfl, ho, B⟩ := hrel
        have HO := Lib.hid ho
        have HBk := Lib.hid B
        by_cases hlt : k < M.length
        · have hk1 : (k : Int) < (M.length : Int) := by omega
          have hk0 : 0 ≤ (k : Int) := by omega
          obtain ⟨bp, op, rfl, hbp, hcp⟩ := il_in HP3.out B k (by rw [PLN.out]; exact hlt)
          have LEk := Lib.hid (LE.out wr (bstep HB3.out B) k hlt)
          have MBk := Lib.hid (MB.out k hlt)
          have Qk := Lib.hid (wq_below Q3.out B)
          obtain ⟨q0, q1, q2, q3, q4⟩ := wq_s Qk.out
          have TN := Lib.hid (rtake_next (l := S) (k := k) (by rw [FL.out]; exact hlt))
          have TL := Lib.hid (show (S.take k).length = k by rw [List.length_take, FL.out]; omega)
          generalize lft M rows cols (k : Int) x = lf at *
          generalize at_ P k = y at *
          generalize rat_ S k = z at *
          obtain ⟨lf1, lf2⟩ := lf
          clear ho B
          go_wp2_with fail
          with_reducible refine LEk.out.mono ?_
          rintro e w4 ⟨rfl, hb⟩
          have HB4 := Lib.hid (bstep HBk.out hb)
          have HO4 := Lib.hid (or_below HO.out hb (Nat.le_refl _))
          clear hb q0 q1 q2 q3 q4
          go_wp2_with fail
          with_reducible refine (MBk.out _).mono ?_
          rintro e w5 ⟨rfl, hb⟩
          have HB5 := Lib.hid (bstep HB4.out hb)
          have HO5 := Lib.hid (or_below HO4.out hb (Nat.le_refl _))
          clear hb
          go_wp2_with (at_builtin; refine wpR rfl (.tmp 42) (.tmp 49) rfl W0.heap.size (.slice A2 k c2) (S.take k) rfl (World.ownsRow.alloc (HO5.out) _) (by have := HB5.out.size; simp; omega) ⟨w5.heap.size, 0, none⟩ 1 z rfl (rone_new _ _) (by rw [TL.out]; omega) (k + 1) (by rw [TL.out]) ?_; intro A6 c6 w6 ho hg; have HO6 := Lib.hid ho; have HB6 := Lib.hid (below_grown (balloc HB5.out _) hg (by have := HB5.out.size; simp; omega) (fun g hg => (HO5.out.lt g hg).1)); clear ho hg)
          go_roundw
          case rel => exact ⟨k + 1, A6, c6, by omega, by go_num, rfl, by rw [TN.out]; exact HO6.out, HB6.out⟩
          case measure => simp [intOf]; omega
        · obtain rfl : k = M.length := by omega
          have e3 : S.take M.length = S := by rw [← FL.out]; exact List.take_of_length_le (Nat.le_refl _)
          rw [e3] at ho
          go_wp2_with fail
          go_ret2
          exact ⟨A2, c2, rfl, or_il ho, bstep HB3.out B⟩
    · have f1 : fcd M rows cols x = (dvz M rows cols).2 := by
        have V := dvz_v (rows := rows) (cols := cols) hv
        cases c : chB M rows cols with
        | false => rw [fcd_c hv c, V.1 c]
        | true =>
          by_cases d : detR M rows cols = 0
          · rw [fcd_z hv hf c d, V.2.1 c d]
          · exact absurd (V.2.2 c d) z
      rw [fL_ne f1 z, f1]
      have CH := Lib.hid (fun W (B : Below w.heap.size w W) => dvz_err z (c := c) (cr := cr) (cc := cc) (arg_in h.arg B))
      clear h pc hv hf f1
      generalize (dvz M rows cols).2 = e at *
      generalize (prL M x).length = np at *
      have t1 : (e != 0) = true := by simp [z]
      have t2 : (e == 0) = false := by simp [z]
      clear z
      go_enter Try.func25, Try.ntmps25
      go_wp2_with fail
      with_reducible refine PR.out.mono ?_
      rintro e w2 ⟨AP, cp, rfl, hP, hb⟩
      have HB := Lib.hid hb
      clear hb hP
      go_wp2_with fail
      with_reducible refine (CH.out _ HB.out).mono ?_
      rintro e w3 ⟨rfl, hb⟩
      have HB3 := Lib.hid (balloc (bstep HB.out hb) (chb none 0 0 none 0 0 none 0 0 0))
      clear hb
      go_wp2_with fail
      go_ret2
      exact ⟨none, 0, rfl, rls_nil _ _, HB3.out⟩
  · have f1 : fcd M rows cols x = pcode M x := by
      by_cases hv : vcode M = 0
      · cases e : fitB M x with
        | true => exact absurd (pcode_0 hv e).1 pc
        | false => rw [fcd_f hv e, (pcode_1 hv e).1]
      · rw [fcd_v hv, (pcode_v hv).1]
    rw [fL_ne f1 pc, f1]
    have e0 : pL M x = [] := by unfold pL; rw [if_neg pc]
    rw [e0] at PR
    clear h f1 e0
    generalize pcode M x = e at *
    have t1 : (e != 0) = true := by simp [pc]
    have t2 : (e == 0) = false := by simp [pc]
    clear pc
    go_enter Try.func25, Try.ntmps25
    go_wp2_with fail
    with_reducible refine PR.out.mono ?_
    rintro e w2 ⟨AP, cp, rfl, hP, hb⟩
    have HB := Lib.hid hb
    clear hb hP
    go_wp2_with fail
    go_ret2
    exact ⟨none, 0, rfl, rls_nil _ _, HB.out⟩

end Go.Proofs.Ytllonfaogbdbnaa
