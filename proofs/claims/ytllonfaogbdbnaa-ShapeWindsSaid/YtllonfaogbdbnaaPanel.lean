/-
  The contracts of panel and corners: the triangle of a face.
-/
import Derived.Test.YtllonfaogbdbnaaVPts
import Derived.RegionTactic
import Derived.ChangeAlike
import Derived.BigRegion
namespace Go.Proofs.Ytllonfaogbdbnaa
open Go.ChangeShapes Go.WideShapes Go.RowKit
open Sh
/-- a mesh as a value -/
abbrev msv (a : Option Addr) (n c : Nat) (a' : Option Addr) (n' c' : Nat) : Value := .agg #[.slice a n c, .slice a' n' c']
abbrev msc (a : Option Addr) (n c : Nat) (a' : Option Addr) (n' c' : Nat) (t : TypeId) : Obj := .cells #[.slice a n c, .slice a' n' c'] t
theorem row3_alloc {w : World} {b off n : Nat} {f : Nat → P3} (r : Row3 w b off n f) (o : Obj) : Row3 (w.alloc o) b off n f := row3_below r ((Below.refl _ _).alloc (Nat.le_refl _) _)
theorem row3_drew {w : World} {b off n : Nat} {f : Nat → P3} (r : Row3 w b off n f) : Row3 w.drew b off n f := r
set_option maxHeartbeats 1000000 in
theorem panel_nat (b off np c : Nat) (a' : Option Addr) (nf c' i j k : Nat) (P : Nat → P3) (w : World) (r : Row3 w b off np P) (hi : i < np) (hj : j < np) (hk : k < np) (hn : np ≤ 1000000) :
    Calls Try.prog 76 #[msv (some ⟨b, off, none⟩) np c a' nf c', .agg #[.int .i64 (i : Int), .int .i64 (j : Int), .int .i64 (k : Int)]] w fun e w' => e = .returned (pnv (P i) (P j) (P k)) ∧ Below w.heap.size w w' := by
  have q : Row3 (((w.alloc (msc (some ⟨b, off, none⟩) np c a' nf c' 25)).alloc (.cells #[.int .i64 (i : Int), .int .i64 (j : Int), .int .i64 (k : Int)] 112)).alloc (.cells #[.int .i64 0, .int .i64 0, .int .i64 0, .int .i64 0, .int .i64 0, .int .i64 0, .int .i64 0, .int .i64 0, .int .i64 0] 77)).drew b off np P := row3_drew (row3_alloc (row3_alloc (row3_alloc r _) _) _)
  obtain ⟨x1, x2, x3⟩ := q.2 i hi
  obtain ⟨y1, y2, y3⟩ := q.2 j hj
  obtain ⟨z1, z2, z3⟩ := q.2 k hk
  clear q
  have hn' : (np : Int) ≤ 1000000 := by omega
  have i1 : (i : Int) < (np : Int) := by omega
  have j1 : (j : Int) < (np : Int) := by omega
  have k1 : (k : Int) < (np : Int) := by omega
  have hb := r.1
  clear r
  generalize P i = p at *
  generalize P j = q at *
  generalize P k = s at *
  go_enter Try.func76, Try.ntmps76
  go_wp2
  go_region
  go_wp2
  refine bodyPost_ret (v := pnv p q s) (by rw [results_cell rfl]; go_simp) rfl ⟨rfl, ?_⟩
  (repeat' (first | exact Below.refl _ _ | refine Below.setCell ?_ (by simp <;> omega) _ | refine balloc ?_ _ | refine Below.drew ?_ | refine bdrewN ?_ _))

end Go.Proofs.Ytllonfaogbdbnaa
