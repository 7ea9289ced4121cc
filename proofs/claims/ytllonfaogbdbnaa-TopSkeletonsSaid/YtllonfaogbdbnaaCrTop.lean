/-
  The walk of TopSkeletons.
-/
import Derived.Test.YtllonfaogbdbnaaCrTopB
import Derived.Test.YtllonfaogbdbnaaCrTopF
import Derived.Test.YtllonfaogbdbnaaCrTopT
namespace Go.Proofs.Ytllonfaogbdbnaa
open Go.ChangeShapes Go.WideShapes Go.RowKit
open Cr
set_option maxRecDepth 100000 in
set_option maxHeartbeats 16000000 in
theorem topsk_walk (A : Option Addr) (c : Nat) (M : List (List Int)) (R : Option Addr) (cr : Nat) (rows : List Int) (C : Option Addr) (cc : Nat) (cols : List Int) (X : Option Addr) (cx : Nat) (x : List Int) (p q : Int) (w : World) (lM : M.length ≤ c) (cM : c ≤ maxLen) (hM : ML w A M) (lR : rows.length ≤ cr) (cR : cr ≤ maxLen) (hR : IL w R rows) (lC : cols.length ≤ cc) (cC : cc ≤ maxLen) (hC : IL w C cols) (lX : x.length ≤ cx) (cX : cx ≤ maxLen) (hX : IL w X x) :
    Calls Try.prog 5 #[.slice A M.length c, .agg #[.slice R rows.length cr, .slice C cols.length cc, .slice X x.length cx], .agg #[.int .i64 p, .int .i64 q]] w fun e w' => e = .returned (.bool true) ∧ Below w.heap.size w w' := by
  have hm0 : M.length ≤ 9223372036854775807 := by unfold maxLen at cM; omega
  have hk0 : rows.length ≤ 9223372036854775807 := by unfold maxLen at cR; omega
  have hl0 : cols.length ≤ 9223372036854775807 := by unfold maxLen at cC; omega
  have hx0 : x.length ≤ 9223372036854775807 := by unfold maxLen at cX; omega
  have LO := Lib.hid (fun W (B : Below w.heap.size w W) => long_any6 A c M W (ml_in hM B) hm0)
  have X0 := Lib.hid (ts_new w R rows.length cr C cols.length cc X x.length cx p q)
  have KR := Lib.hid (fun W (a : Arg W (some ⟨w.heap.size + 4, 0, none⟩) [[2, 1], [1, 1]] (some ⟨w.heap.size + 5, 0, none⟩) (some ⟨w.heap.size + 6, 0, none⟩) [0, 1] [0, 1]) => minorP_any (some ⟨w.heap.size + 4, 0, none⟩) (some ⟨w.heap.size + 5, 0, none⟩) (some ⟨w.heap.size + 6, 0, none⟩) 2 2 2 [[2, 1], [1, 1]] [0, 1] [0, 1] W a)
  rw [kn_mnr, show ([[2, 1], [1, 1]] : List (List Int)).length = 2 from rfl, show ([0, 1] : List Int).length = 2 from rfl] at KR
  cases hlo : longB M with
  | true =>
    rw [hlo] at LO
    clear lM cM hM lR cR hR lC cC hC lX cX hX hlo
    go_enter Try.func5, Try.ntmps5
    go_wp2_with fail
    with_reducible refine (KR.out _ (kn_arg2 w _ _)).mono ?_
    rintro e w1 ⟨rfl, hb⟩
    have X1 := Lib.hid (ts_below X0.out (bstep (balloc (balloc (balloc (balloc (balloc (Below.refl _ _) _) _) _) _) _) hb))
    clear hb
    obtain ⟨q0, q1, q2, y0, y1, _, b0, b1⟩ := ts_s X1.out
    go_wp2_with fail
    with_reducible refine (LO.out _ (ts_bel X1.out)).mono ?_
    rintro e w2 ⟨rfl, rfl⟩
    have HB := Lib.hid (ts_bel X1.out)
    go_wp2_with fail
    go_ret
    exact ⟨rfl, HB.out⟩
  | false =>
    rw [hlo] at LO
    by_cases h1 : 40 < rows.length
    · have i1 : (40 : Int) < (rows.length : Int) := by omega
      clear lM cM hM lR cR hR lC cC hC lX cX hX hlo h1
      go_enter Try.func5, Try.ntmps5
      go_wp2_with fail
      with_reducible refine (KR.out _ (kn_arg2 w _ _)).mono ?_
      rintro e w1 ⟨rfl, hb⟩
      have X1 := Lib.hid (ts_below X0.out (bstep (balloc (balloc (balloc (balloc (balloc (Below.refl _ _) _) _) _) _) _) hb))
      clear hb
      obtain ⟨q0, q1, q2, y0, y1, _, b0, b1⟩ := ts_s X1.out
      go_wp2_with fail
      with_reducible refine (LO.out _ (ts_bel X1.out)).mono ?_
      rintro e w2 ⟨rfl, rfl⟩
      have HB := Lib.hid (ts_bel X1.out)
      go_wp2_with fail
      go_ret
      exact ⟨rfl, HB.out⟩
    have i1 : ¬ (40 : Int) < (rows.length : Int) := by omega
    by_cases h2 : 40 < cols.length
    · have i2 : (40 : Int) < (cols.length : Int) := by omega
      clear lM cM hM lR cR hR lC cC hC lX cX hX hlo h1 h2
      go_enter Try.func5, Try.ntmps5
      go_wp2_with fail
      with_reducible refine (KR.out _ (kn_arg2 w _ _)).mono ?_
      rintro e w1 ⟨rfl, hb⟩
      have X1 := Lib.hid (ts_below X0.out (bstep (balloc (balloc (balloc (balloc (balloc (Below.refl _ _) _) _) _) _) _) hb))
      clear hb
      obtain ⟨q0, q1, q2, y0, y1, _, b0, b1⟩ := ts_s X1.out
      go_wp2_with fail
      with_reducible refine (LO.out _ (ts_bel X1.out)).mono ?_
      rintro e w2 ⟨rfl, rfl⟩
      have HB := Lib.hid (ts_bel X1.out)
      go_wp2_with fail
      go_ret
      exact ⟨rfl, HB.out⟩
    have i2 : ¬ (40 : Int) < (cols.length : Int) := by omega
    by_cases h3 : 40 < x.length
    · have i3 : (40 : Int) < (x.length : Int) := by omega
      clear lM cM hM lR cR hR lC cC hC lX cX hX hlo h1 h2 h3
      go_enter Try.func5, Try.ntmps5
      go_wp2_with fail
      with_reducible refine (KR.out _ (kn_arg2 w _ _)).mono ?_
      rintro e w1 ⟨rfl, hb⟩
      have X1 := Lib.hid (ts_below X0.out (bstep (balloc (balloc (balloc (balloc (balloc (Below.refl _ _) _) _) _) _) _) hb))
      clear hb
      obtain ⟨q0, q1, q2, y0, y1, _, b0, b1⟩ := ts_s X1.out
      go_wp2_with fail
      with_reducible refine (LO.out _ (ts_bel X1.out)).mono ?_
      rintro e w2 ⟨rfl, rfl⟩
      have HB := Lib.hid (ts_bel X1.out)
      go_wp2_with fail
      go_ret
      exact ⟨rfl, HB.out⟩
    have i3 : ¬ (40 : Int) < (x.length : Int) := by omega
    have AG := Lib.hid (show ArX w A M R C X rows cols x from ⟨arg_of hM hR hC hlo h1 h2, hX, by omega⟩)
    by_cases kc : kcode M rows cols = 0
    · by_cases dz : detR M rows cols = 0
      · exact topsk_z A c M R cr rows C cc cols X cx x p q w lM cM hM hlo i1 i2 i3 AG kc dz
      · by_cases h6 : 6 ≤ rows.length
        · exact topsk_6 A c M R cr rows C cc cols X cx x p q w lM cM hM hlo i1 i2 i3 AG kc dz h6
        · cases hf : fitB M x with
          | false => exact topsk_F A c M R cr rows C cc cols X cx x p q w lM cM hM hlo i1 i2 i3 AG kc dz h6 hf
          | true => exact topsk_T A c M R cr rows C cc cols X cx x p q w lM cM hM hlo i1 i2 i3 AG kc dz h6 hf
    · exact topsk_k A c M R cr rows C cc cols X cx x p q w lM cM hM hlo i1 i2 i3 AG kc

end Go.Proofs.Ytllonfaogbdbnaa
