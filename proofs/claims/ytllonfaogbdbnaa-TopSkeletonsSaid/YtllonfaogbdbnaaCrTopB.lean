/-
  TopSkeletons: a choice that is none, or whose minor is 0, or of all rows.
-/
import Derived.Test.YtllonfaogbdbnaaCrMb
namespace Go.Proofs.Ytllonfaogbdbnaa
open Go.ChangeShapes Go.WideShapes Go.RowKit
open Cr
set_option maxRecDepth 100000 in
set_option maxHeartbeats 16000000 in
theorem topsk_z (A : Option Addr) (c : Nat) (M : List (List Int)) (R : Option Addr) (cr : Nat) (rows : List Int) (C : Option Addr) (cc : Nat) (cols : List Int) (X : Option Addr) (cx : Nat) (x : List Int) (p q : Int) (w : World) (lM : M.length ≤ c) (cM : c ≤ maxLen) (hM : ML w A M) (hlo : longB M = false) (i1 : ¬ (40 : Int) < (rows.length : Int)) (i2 : ¬ (40 : Int) < (cols.length : Int)) (i3 : ¬ (40 : Int) < (x.length : Int)) (AG : Hid (ArX w A M R C X rows cols x)) (kc : kcode M rows cols = 0) (dz : detR M rows cols = 0) :
    Calls Try.prog 5 #[.slice A M.length c, .agg #[.slice R rows.length cr, .slice C cols.length cc, .slice X x.length cx], .agg #[.int .i64 p, .int .i64 q]] w fun e w' => e = .returned (.bool true) ∧ Below w.heap.size w w' := by
  have hm0 : M.length ≤ 9223372036854775807 := by unfold maxLen at cM; omega
  have LO := Lib.hid (fun W (B : Below w.heap.size w W) => long_any6 A c M W (ml_in hM B) hm0)
  have X0 := Lib.hid (ts_new w R rows.length cr C cols.length cc X x.length cx p q)
  have KR := Lib.hid (fun W (a : Arg W (some ⟨w.heap.size + 4, 0, none⟩) [[2, 1], [1, 1]] (some ⟨w.heap.size + 5, 0, none⟩) (some ⟨w.heap.size + 6, 0, none⟩) [0, 1] [0, 1]) => minorP_any (some ⟨w.heap.size + 4, 0, none⟩) (some ⟨w.heap.size + 5, 0, none⟩) (some ⟨w.heap.size + 6, 0, none⟩) 2 2 2 [[2, 1], [1, 1]] [0, 1] [0, 1] W a)
  rw [kn_mnr, show ([[2, 1], [1, 1]] : List (List Int)).length = 2 from rfl, show ([0, 1] : List Int).length = 2 from rfl] at KR
  rw [hlo] at LO
  have CO := Lib.hid (fun W (B : Below w.heap.size w W) => comp_all A c M p q W (ml_in AG.out.arg.mat B) AG.out.arg.len AG.out.arg.wid)
  have MI := Lib.hid (fun W (B : Below w.heap.size w W) => minorP_any A R C c cr cc M rows cols W (arg_in AG.out.arg B))
  rw [mnr_0 kc, dz] at MI
  clear AG lM cM hM hm0 hlo kc dz
  go_enter Try.func5, Try.ntmps5
  go_wp2_with fail
  with_reducible refine (KR.out _ (kn_arg2 w _ _)).mono ?_
  rintro e w1 ⟨rfl, hb⟩
  have X1 := Lib.hid (ts_below X0.out (bstep (balloc (balloc (balloc (balloc (balloc (Below.refl _ _) _) _) _) _) _) hb))
  clear hb
  obtain ⟨q0, q1, q2, y0, y1, _, b0, b1⟩ := ts_s X1.out
  go_wp2_with fail
  with_reducible refine (LO.out _ (ts_bel X1.out)).mono ?_
  rintro e w2 ⟨rfl, rfl⟩
  go_wp2_with fail
  refine (CO.out _ (ts_bel X1.out)).mono ?_
  rintro e w3 ⟨R', K, cr', E', K2, ce', e', rfl, hb, hc⟩
  have HC := Lib.hid hc
  have X3 := Lib.hid (ts_below X1.out hb)
  clear hb hc CO KR X0 LO
  clear q0 q1 q2 y0 y1 b0 b1
  obtain ⟨q0, q1, q2, y0, y1, _, b0, b1⟩ := ts_s X3.out
  go_upto_region 7 with fail
  go_cut [78] (fun sv wx => sv = .bool false ∧ TS w R rows.length cr C cols.length cc X x.length cx p q wx)
  case first =>
    by_cases z : e' = 0
    · have CC := Lib.hid (HC.out z _ (Below.refl _ _))
      have z1 : (e' == 0) = true := beq_iff_eq.2 z
      subst z
      go_wp2_with fail
      refine CC.out.mono ?_
      rintro e w4 ⟨rfl, hb4⟩
      have X4 := Lib.hid (ts_below X3.out hb4)
      clear hb4
      go_wp2_with fail
      go_meet
      exact ⟨rfl, X4.out⟩
    · have z1 : (e' == 0) = false := beq_eq_false_iff_ne.2 z
      have z2 : (e' != 0) = true := by simp [z]
      go_wp2_with fail
      go_meet
      exact ⟨rfl, X3.out⟩
  case rest =>
    obtain ⟨rfl, hst⟩ := hcut
    have X4 := Lib.hid hst
    clear hst HC X3 X1
    clear q0 q1 q2 y0 y1 b0 b1
    obtain ⟨q0, q1, q2, y0, y1, _, b0, b1⟩ := ts_s X4.out
    have MI4 := Lib.hid (MI.out _ (ts_bel X4.out))
    go_wp2_with fail
    refine MI4.out.mono ?_
    rintro e w5 ⟨rfl, hb⟩
    have X5 := Lib.hid (ts_below X4.out hb)
    clear hb
    clear q0 q1 q2 y0 y1 b0 b1
    obtain ⟨q0, q1, q2, y0, y1, _, b0, b1⟩ := ts_s X5.out
    have HB := Lib.hid (ts_bel X5.out)
    go_wp2_with fail
    go_ret
    exact ⟨rfl, HB.out⟩

set_option maxRecDepth 100000 in
set_option maxHeartbeats 16000000 in
theorem topsk_6 (A : Option Addr) (c : Nat) (M : List (List Int)) (R : Option Addr) (cr : Nat) (rows : List Int) (C : Option Addr) (cc : Nat) (cols : List Int) (X : Option Addr) (cx : Nat) (x : List Int) (p q : Int) (w : World) (lM : M.length ≤ c) (cM : c ≤ maxLen) (hM : ML w A M) (hlo : longB M = false) (i1 : ¬ (40 : Int) < (rows.length : Int)) (i2 : ¬ (40 : Int) < (cols.length : Int)) (i3 : ¬ (40 : Int) < (x.length : Int)) (AG : Hid (ArX w A M R C X rows cols x)) (kc : kcode M rows cols = 0) (dz : detR M rows cols ≠ 0) (h6 : 6 ≤ rows.length) :
    Calls Try.prog 5 #[.slice A M.length c, .agg #[.slice R rows.length cr, .slice C cols.length cc, .slice X x.length cx], .agg #[.int .i64 p, .int .i64 q]] w fun e w' => e = .returned (.bool true) ∧ Below w.heap.size w w' := by
  have hm0 : M.length ≤ 9223372036854775807 := by unfold maxLen at cM; omega
  have LO := Lib.hid (fun W (B : Below w.heap.size w W) => long_any6 A c M W (ml_in hM B) hm0)
  have X0 := Lib.hid (ts_new w R rows.length cr C cols.length cc X x.length cx p q)
  have KR := Lib.hid (fun W (a : Arg W (some ⟨w.heap.size + 4, 0, none⟩) [[2, 1], [1, 1]] (some ⟨w.heap.size + 5, 0, none⟩) (some ⟨w.heap.size + 6, 0, none⟩) [0, 1] [0, 1]) => minorP_any (some ⟨w.heap.size + 4, 0, none⟩) (some ⟨w.heap.size + 5, 0, none⟩) (some ⟨w.heap.size + 6, 0, none⟩) 2 2 2 [[2, 1], [1, 1]] [0, 1] [0, 1] W a)
  rw [kn_mnr, show ([[2, 1], [1, 1]] : List (List Int)).length = 2 from rfl, show ([0, 1] : List Int).length = 2 from rfl] at KR
  rw [hlo] at LO
  have CO := Lib.hid (fun W (B : Below w.heap.size w W) => comp_all A c M p q W (ml_in AG.out.arg.mat B) AG.out.arg.len AG.out.arg.wid)
  have MI := Lib.hid (fun W (B : Below w.heap.size w W) => minorP_any A R C c cr cc M rows cols W (arg_in AG.out.arg B))
  rw [mnr_0 kc] at MI
  have i6 : (rows.length : Int) ≥ 6 := by omega
  have t1 : (detR M rows cols == 0) = false := by simp [dz]
  have t2 : decide (detR M rows cols = 0) = false := decide_eq_false dz
  clear AG lM cM hM hm0 hlo kc dz h6
  generalize detR M rows cols = d at *
  go_enter Try.func5, Try.ntmps5
  go_wp2_with fail
  with_reducible refine (KR.out _ (kn_arg2 w _ _)).mono ?_
  rintro e w1 ⟨rfl, hb⟩
  have X1 := Lib.hid (ts_below X0.out (bstep (balloc (balloc (balloc (balloc (balloc (Below.refl _ _) _) _) _) _) _) hb))
  clear hb
  obtain ⟨q0, q1, q2, y0, y1, _, b0, b1⟩ := ts_s X1.out
  go_wp2_with fail
  with_reducible refine (LO.out _ (ts_bel X1.out)).mono ?_
  rintro e w2 ⟨rfl, rfl⟩
  go_wp2_with fail
  refine (CO.out _ (ts_bel X1.out)).mono ?_
  rintro e w3 ⟨R', K, cr', E', K2, ce', e', rfl, hb, hc⟩
  have HC := Lib.hid hc
  have X3 := Lib.hid (ts_below X1.out hb)
  clear hb hc CO KR X0 LO
  clear q0 q1 q2 y0 y1 b0 b1
  obtain ⟨q0, q1, q2, y0, y1, _, b0, b1⟩ := ts_s X3.out
  go_upto_region 7 with fail
  go_cut [78] (fun sv wx => sv = .bool false ∧ TS w R rows.length cr C cols.length cc X x.length cx p q wx)
  case first =>
    by_cases z : e' = 0
    · have CC := Lib.hid (HC.out z _ (Below.refl _ _))
      have z1 : (e' == 0) = true := beq_iff_eq.2 z
      subst z
      go_wp2_with fail
      refine CC.out.mono ?_
      rintro e w4 ⟨rfl, hb4⟩
      have X4 := Lib.hid (ts_below X3.out hb4)
      clear hb4
      go_wp2_with fail
      go_meet
      exact ⟨rfl, X4.out⟩
    · have z1 : (e' == 0) = false := beq_eq_false_iff_ne.2 z
      have z2 : (e' != 0) = true := by simp [z]
      go_wp2_with fail
      go_meet
      exact ⟨rfl, X3.out⟩
  case rest =>
    obtain ⟨rfl, hst⟩ := hcut
    have X4 := Lib.hid hst
    clear hst HC X3 X1
    clear q0 q1 q2 y0 y1 b0 b1
    obtain ⟨q0, q1, q2, y0, y1, _, b0, b1⟩ := ts_s X4.out
    have MI4 := Lib.hid (MI.out _ (ts_bel X4.out))
    go_wp2_with fail
    refine MI4.out.mono ?_
    rintro e w5 ⟨rfl, hb⟩
    have X5 := Lib.hid (ts_below X4.out hb)
    clear hb
    clear q0 q1 q2 y0 y1 b0 b1
    obtain ⟨q0, q1, q2, y0, y1, _, b0, b1⟩ := ts_s X5.out
    have HB := Lib.hid (ts_bel X5.out)
    go_wp2_with fail
    go_ret
    exact ⟨rfl, HB.out⟩

set_option maxRecDepth 100000 in
set_option maxHeartbeats 16000000 in
theorem topsk_k (A : Option Addr) (c : Nat) (M : List (List Int)) (R : Option Addr) (cr : Nat) (rows : List Int) (C : Option Addr) (cc : Nat) (cols : List Int) (X : Option Addr) (cx : Nat) (x : List Int) (p q : Int) (w : World) (lM : M.length ≤ c) (cM : c ≤ maxLen) (hM : ML w A M) (hlo : longB M = false) (i1 : ¬ (40 : Int) < (rows.length : Int)) (i2 : ¬ (40 : Int) < (cols.length : Int)) (i3 : ¬ (40 : Int) < (x.length : Int)) (AG : Hid (ArX w A M R C X rows cols x)) (kc : kcode M rows cols ≠ 0) :
    Calls Try.prog 5 #[.slice A M.length c, .agg #[.slice R rows.length cr, .slice C cols.length cc, .slice X x.length cx], .agg #[.int .i64 p, .int .i64 q]] w fun e w' => e = .returned (.bool true) ∧ Below w.heap.size w w' := by
  have hm0 : M.length ≤ 9223372036854775807 := by unfold maxLen at cM; omega
  have LO := Lib.hid (fun W (B : Below w.heap.size w W) => long_any6 A c M W (ml_in hM B) hm0)
  have X0 := Lib.hid (ts_new w R rows.length cr C cols.length cc X x.length cx p q)
  have KR := Lib.hid (fun W (a : Arg W (some ⟨w.heap.size + 4, 0, none⟩) [[2, 1], [1, 1]] (some ⟨w.heap.size + 5, 0, none⟩) (some ⟨w.heap.size + 6, 0, none⟩) [0, 1] [0, 1]) => minorP_any (some ⟨w.heap.size + 4, 0, none⟩) (some ⟨w.heap.size + 5, 0, none⟩) (some ⟨w.heap.size + 6, 0, none⟩) 2 2 2 [[2, 1], [1, 1]] [0, 1] [0, 1] W a)
  rw [kn_mnr, show ([[2, 1], [1, 1]] : List (List Int)).length = 2 from rfl, show ([0, 1] : List Int).length = 2 from rfl] at KR
  rw [hlo] at LO
  have CO := Lib.hid (fun W (B : Below w.heap.size w W) => comp_all A c M p q W (ml_in AG.out.arg.mat B) AG.out.arg.len AG.out.arg.wid)
  have MI := Lib.hid (fun W (B : Below w.heap.size w W) => minorP_any A R C c cr cc M rows cols W (arg_in AG.out.arg B))
  rw [mnr_1 kc] at MI
  have t1 : (kcode M rows cols != 0) = true := by simp [kc]
  have t2 : (kcode M rows cols == 0) = false := by simp [kc]
  clear AG lM cM hM hm0 hlo kc
  generalize kcode M rows cols = e at *
  go_enter Try.func5, Try.ntmps5
  go_wp2_with fail
  with_reducible refine (KR.out _ (kn_arg2 w _ _)).mono ?_
  rintro e w1 ⟨rfl, hb⟩
  have X1 := Lib.hid (ts_below X0.out (bstep (balloc (balloc (balloc (balloc (balloc (Below.refl _ _) _) _) _) _) _) hb))
  clear hb
  obtain ⟨q0, q1, q2, y0, y1, _, b0, b1⟩ := ts_s X1.out
  go_wp2_with fail
  with_reducible refine (LO.out _ (ts_bel X1.out)).mono ?_
  rintro e w2 ⟨rfl, rfl⟩
  go_wp2_with fail
  refine (CO.out _ (ts_bel X1.out)).mono ?_
  rintro e w3 ⟨R', K, cr', E', K2, ce', e', rfl, hb, hc⟩
  have HC := Lib.hid hc
  have X3 := Lib.hid (ts_below X1.out hb)
  clear hb hc CO KR X0 LO
  clear q0 q1 q2 y0 y1 b0 b1
  obtain ⟨q0, q1, q2, y0, y1, _, b0, b1⟩ := ts_s X3.out
  go_upto_region 7 with fail
  go_cut [78] (fun sv wx => sv = .bool false ∧ TS w R rows.length cr C cols.length cc X x.length cx p q wx)
  case first =>
    by_cases z : e' = 0
    · have CC := Lib.hid (HC.out z _ (Below.refl _ _))
      have z1 : (e' == 0) = true := beq_iff_eq.2 z
      subst z
      go_wp2_with fail
      refine CC.out.mono ?_
      rintro e w4 ⟨rfl, hb4⟩
      have X4 := Lib.hid (ts_below X3.out hb4)
      clear hb4
      go_wp2_with fail
      go_meet
      exact ⟨rfl, X4.out⟩
    · have z1 : (e' == 0) = false := beq_eq_false_iff_ne.2 z
      have z2 : (e' != 0) = true := by simp [z]
      go_wp2_with fail
      go_meet
      exact ⟨rfl, X3.out⟩
  case rest =>
    obtain ⟨rfl, hst⟩ := hcut
    have X4 := Lib.hid hst
    clear hst HC X3 X1
    clear q0 q1 q2 y0 y1 b0 b1
    obtain ⟨q0, q1, q2, y0, y1, _, b0, b1⟩ := ts_s X4.out
    have MI4 := Lib.hid (MI.out _ (ts_bel X4.out))
    go_wp2_with fail
    refine MI4.out.mono ?_
    rintro e w5 ⟨rfl, hb⟩
    have X5 := Lib.hid (ts_below X4.out hb)
    clear hb
    clear q0 q1 q2 y0 y1 b0 b1
    obtain ⟨q0, q1, q2, y0, y1, _, b0, b1⟩ := ts_s X5.out
    have HB := Lib.hid (ts_bel X5.out)
    go_wp2_with fail
    go_ret
    exact ⟨rfl, HB.out⟩


end Go.Proofs.Ytllonfaogbdbnaa
