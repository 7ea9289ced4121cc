/-
  The contract of the document's corners: the triangle of a face.
-/
import Derived.Test.YtllonfaogbdbnaaPanel
namespace Go.Proofs.Ytllonfaogbdbnaa
open Go.ChangeShapes Go.WideShapes Go.RowKit
open Sh
set_option maxHeartbeats 1000000 in
theorem corners_nat (b off np c b' off' nf c' t i j k : Nat) (P F : Nat → P3) (w : World) (r : Row3 w b off np P) (r' : Row3 w b' off' nf F) (ht : t < nf) (hi : i < np) (hj : j < np) (hk : k < np) (hn : np ≤ 1000000) (hm : nf ≤ 1000000) (hF : F t = ((i : Int), (j : Int), (k : Int))) :
    Calls Try.prog 39 #[msv (some ⟨b, off, none⟩) np c (some ⟨b', off', none⟩) nf c', .int .i64 (t : Int)] w fun e w' => e = .returned (pnv (P i) (P j) (P k)) ∧ Below w.heap.size w w' := by
  have q : Row3 (((w.alloc (msc (some ⟨b, off, none⟩) np c (some ⟨b', off', none⟩) nf c' 25)).alloc (.cells #[.int .i64 0, .int .i64 0, .int .i64 0, .int .i64 0, .int .i64 0, .int .i64 0, .int .i64 0, .int .i64 0, .int .i64 0] 77)).alloc (.cells #[.int .i64 (i : Int), .int .i64 (j : Int), .int .i64 (k : Int)] 112)).drew b off np P := row3_drew (row3_alloc (row3_alloc (row3_alloc r _) _) _)
  obtain ⟨x1, x2, x3⟩ := q.2 i hi
  obtain ⟨y1, y2, y3⟩ := q.2 j hj
  obtain ⟨z1, z2, z3⟩ := q.2 k hk
  clear q
  obtain ⟨u1, u2, u3⟩ := r'.2 t ht
  rw [hF] at u1 u2 u3
  dsimp only at u1 u2 u3
  have hb' := r'.1
  clear hF r'
  have hn' : (np : Int) ≤ 1000000 := by omega
  have hm' : (nf : Int) ≤ 1000000 := by omega
  have t1 : (t : Int) < (nf : Int) := by omega
  have i1 : (i : Int) < (np : Int) := by omega
  have j1 : (j : Int) < (np : Int) := by omega
  have k1 : (k : Int) < (np : Int) := by omega
  have hb := r.1
  clear r
  generalize P i = p at *
  generalize P j = q at *
  generalize P k = s at *
  go_enter Try.func39, Try.ntmps39
  go_wp2
  go_region
  go_wp2
  refine bodyPost_ret (v := pnv p q s) (by rw [results_cell rfl]; go_simp) rfl ⟨rfl, ?_⟩
  (repeat' (first | exact Below.refl _ _ | refine Below.setCell ?_ (by simp <;> omega) _ | refine balloc ?_ _ | refine Below.drew ?_ | refine bdrewN ?_ _))

end Go.Proofs.Ytllonfaogbdbnaa
