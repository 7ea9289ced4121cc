/-
  What follows the regions of quarters.
-/
import Derived.Test.YtlegalibjkeccaaFiQd
namespace Go.Proofs.Ytlegalibjkeccaa
open Go.ChangeShapes Go.WideShapes Go.RowKit
open Sh
set_option maxRecDepth 100000 in
set_option maxHeartbeats 4000000 in
theorem qr_rest (a b c : P3) (x y z x' y' z' : Nat) (w W : World) (g : QH w a b c x y z W) (ox : Own W x' (add a b)) (oy : Own W y' (add b c)) (oz : Own W z' (add c a)) :
    Code.wp Try.prog (regR Try.f89.body) (bodyPost Try.prog Try.f89 fun e w' => e = .returned (.agg #[.int .i64 (tim 2 a).1, .int .i64 (tim 2 a).2.1, .int .i64 (tim 2 a).2.2, .int .i64 (add a b).1, .int .i64 (add a b).2.1, .int .i64 (add a b).2.2, .int .i64 (add c a).1, .int .i64 (add c a).2.1, .int .i64 (add c a).2.2, .int .i64 (add a b).1, .int .i64 (add a b).2.1, .int .i64 (add a b).2.2, .int .i64 (tim 2 b).1, .int .i64 (tim 2 b).2.1, .int .i64 (tim 2 b).2.2, .int .i64 (add b c).1, .int .i64 (add b c).2.1, .int .i64 (add b c).2.2, .int .i64 (add c a).1, .int .i64 (add c a).2.1, .int .i64 (add c a).2.2, .int .i64 (add b c).1, .int .i64 (add b c).2.1, .int .i64 (add b c).2.2, .int .i64 (tim 2 c).1, .int .i64 (tim 2 c).2.1, .int .i64 (tim 2 c).2.2, .int .i64 (add a b).1, .int .i64 (add a b).2.1, .int .i64 (add a b).2.2, .int .i64 (add b c).1, .int .i64 (add b c).2.1, .int .i64 (add b c).2.2, .int .i64 (add c a).1, .int .i64 (add c a).2.1, .int .i64 (add c a).2.2]) ∧ Below w.heap.size w w') { tmps := #[pnv a b c, .pointer (some ⟨w.heap.size, 0, none⟩), .pointer (some ⟨w.heap.size + 1, 0, none⟩), .pointer (some ⟨x, 0, none⟩), .pointer (some ⟨y, 0, none⟩), .pointer (some ⟨z, 0, none⟩), .pointer (some ⟨x', 0, none⟩), .pointer (some ⟨y', 0, none⟩), .pointer (some ⟨z', 0, none⟩), .pointer (some ⟨w.heap.size, 0, none⟩), ptv a, ptv (tim 2 a), .pointer (some ⟨w.heap.size, 3, none⟩), ptv b, ptv (tim 2 b), .pointer (some ⟨w.heap.size, 6, none⟩), ptv c, ptv (tim 2 c), .pointer (some ⟨w.heap.size, 0, none⟩), ptv a, .pointer (some ⟨w.heap.size, 3, none⟩), ptv b, ptv (add a b), .pointer (some ⟨w.heap.size, 3, none⟩), ptv b, .pointer (some ⟨w.heap.size, 6, none⟩), ptv c, ptv (add b c), .pointer (some ⟨w.heap.size, 6, none⟩), ptv c, .pointer (some ⟨w.heap.size, 0, none⟩), ptv a, ptv (add c a), undef, undef, undef, undef, undef, undef, undef, undef, undef, undef, undef, undef, undef, undef, undef, undef, undef], defers := [] } W := by
  have HB2 := Lib.hid g.1.2.2
  have Z := Lib.hid g.1.2.1
  obtain ⟨u0, u1, u2⟩ := own_cells g.2.1
  obtain ⟨v0, v1, v2⟩ := own_cells g.2.2.1
  obtain ⟨r0, r1, r2⟩ := own_cells g.2.2.2
  obtain ⟨u3, u4, u5⟩ := own_cells ox
  obtain ⟨v3, v4, v5⟩ := own_cells oy
  obtain ⟨r3, r4, r5⟩ := own_cells oz
  clear ox oy oz g
  obtain ⟨cd, hcd⟩ : ∃ cd, regR Try.f89.body = cd := ⟨_, rfl⟩
  rw [hcd]
  unfold regR at hcd
  simp only [Try.f89] at hcd
  subst hcd
  go_step
  go_step
  go_step
  dsimp only
  refine wpList_plain rfl (fun K hK => ?_); go_simp; refine hK _ _ ?_; clear hK K
  refine wpList_plain rfl (fun K hK => ?_); go_simp; refine hK _ _ ?_; clear hK K
  refine wpList_plain rfl (fun K hK => ?_); go_simp; refine hK _ _ ?_; clear hK K
  refine wpList_plain rfl (fun K hK => ?_); go_simp; refine hK _ _ ?_; clear hK K
  refine wpList_plain rfl (fun K hK => ?_); go_simp; refine hK _ _ ?_; clear hK K
  refine wpList_plain rfl (fun K hK => ?_); go_simp; refine hK _ _ ?_; clear hK K
  refine wpList_plain rfl (fun K hK => ?_); go_simp; refine hK _ _ ?_; clear hK K
  refine wpList_plain rfl (fun K hK => ?_); go_simp; refine hK _ _ ?_; clear hK K
  refine wpList_plain rfl (fun K hK => ?_); go_simp; refine hK _ _ ?_; clear hK K
  refine wpList_plain rfl (fun K hK => ?_); go_simp; refine hK _ _ ?_; clear hK K
  refine wpList_plain rfl (fun K hK => ?_); go_simp; refine hK _ _ ?_; clear hK K
  refine wpList_plain rfl (fun K hK => ?_); go_simp; refine hK _ _ ?_; clear hK K
  refine wpList_plain rfl (fun K hK => ?_); go_simp; refine hK _ _ ?_; clear hK K
  refine wpList_plain rfl (fun K hK => ?_); go_simp; refine hK _ _ ?_; clear hK K
  refine wpList_plain rfl (fun K hK => ?_); go_simp; refine hK _ _ ?_; clear hK K
  refine wpList_plain rfl (fun K hK => ?_); go_simp; refine hK _ _ ?_; clear hK K
  refine wpList_plain rfl (fun K hK => ?_); go_simp; refine hK _ _ ?_; clear hK K
  have ht : W.there (w.heap.size + 1) 0 36 := fun j hj => by rw [Nat.zero_add]; exact ⟨Z.out.1 j hj, Z.out.2.1 j hj⟩
  refine wpList_store_mid rfl 109 (.tmp 2) (.tmp 49) rfl (w.heap.size + 1) 0 #[.int .i64 (tim 2 a).1, .int .i64 (tim 2 a).2.1, .int .i64 (tim 2 a).2.2, .int .i64 (add a b).1, .int .i64 (add a b).2.1, .int .i64 (add a b).2.2, .int .i64 (add c a).1, .int .i64 (add c a).2.1, .int .i64 (add c a).2.2, .int .i64 (add a b).1, .int .i64 (add a b).2.1, .int .i64 (add a b).2.2, .int .i64 (tim 2 b).1, .int .i64 (tim 2 b).2.1, .int .i64 (tim 2 b).2.2, .int .i64 (add b c).1, .int .i64 (add b c).2.1, .int .i64 (add b c).2.2, .int .i64 (add c a).1, .int .i64 (add c a).2.1, .int .i64 (add c a).2.2, .int .i64 (add b c).1, .int .i64 (add b c).2.1, .int .i64 (add b c).2.2, .int .i64 (tim 2 c).1, .int .i64 (tim 2 c).2.1, .int .i64 (tim 2 c).2.2, .int .i64 (add a b).1, .int .i64 (add a b).2.1, .int .i64 (add a b).2.2, .int .i64 (add b c).1, .int .i64 (add b c).2.1, .int .i64 (add b c).2.2, .int .i64 (add c a).1, .int .i64 (add c a).2.1, .int .i64 (add c a).2.2] rfl rfl ht info89 (by simp [Value.oneCell']) ?_
  have L := run_loadVar_mid (P := Try.prog) _ (w.heap.size + 1) 0 109 _ _ (World.rangeAt_setCells_same W (w.heap.size + 1) 0 (#[.int .i64 (tim 2 a).1, .int .i64 (tim 2 a).2.1, .int .i64 (tim 2 a).2.2, .int .i64 (add a b).1, .int .i64 (add a b).2.1, .int .i64 (add a b).2.2, .int .i64 (add c a).1, .int .i64 (add c a).2.1, .int .i64 (add c a).2.2, .int .i64 (add a b).1, .int .i64 (add a b).2.1, .int .i64 (add a b).2.2, .int .i64 (tim 2 b).1, .int .i64 (tim 2 b).2.1, .int .i64 (tim 2 b).2.2, .int .i64 (add b c).1, .int .i64 (add b c).2.1, .int .i64 (add b c).2.2, .int .i64 (add c a).1, .int .i64 (add c a).2.1, .int .i64 (add c a).2.2, .int .i64 (add b c).1, .int .i64 (add b c).2.1, .int .i64 (add b c).2.2, .int .i64 (tim 2 c).1, .int .i64 (tim 2 c).2.1, .int .i64 (tim 2 c).2.2, .int .i64 (add a b).1, .int .i64 (add a b).2.1, .int .i64 (add a b).2.2, .int .i64 (add b c).1, .int .i64 (add b c).2.1, .int .i64 (add b c).2.2, .int .i64 (add c a).1, .int .i64 (add c a).2.1, .int .i64 (add c a).2.2] : Array Value).toList ht) Try.underlying109 rfl info89
  have B : Below w.heap.size w (W.setCells (w.heap.size + 1) 0 (#[.int .i64 (tim 2 a).1, .int .i64 (tim 2 a).2.1, .int .i64 (tim 2 a).2.2, .int .i64 (add a b).1, .int .i64 (add a b).2.1, .int .i64 (add a b).2.2, .int .i64 (add c a).1, .int .i64 (add c a).2.1, .int .i64 (add c a).2.2, .int .i64 (add a b).1, .int .i64 (add a b).2.1, .int .i64 (add a b).2.2, .int .i64 (tim 2 b).1, .int .i64 (tim 2 b).2.1, .int .i64 (tim 2 b).2.2, .int .i64 (add b c).1, .int .i64 (add b c).2.1, .int .i64 (add b c).2.2, .int .i64 (add c a).1, .int .i64 (add c a).2.1, .int .i64 (add c a).2.2, .int .i64 (add b c).1, .int .i64 (add b c).2.1, .int .i64 (add b c).2.2, .int .i64 (tim 2 c).1, .int .i64 (tim 2 c).2.1, .int .i64 (tim 2 c).2.2, .int .i64 (add a b).1, .int .i64 (add a b).2.1, .int .i64 (add a b).2.2, .int .i64 (add b c).1, .int .i64 (add b c).2.1, .int .i64 (add b c).2.2, .int .i64 (add c a).1, .int .i64 (add c a).2.1, .int .i64 (add c a).2.2] : Array Value).toList) := HB2.out.trans (below_cells _ _ _ _ (by omega))
  clear u0 u1 u2 v0 v1 v2 r0 r1 r2 u3 u4 u5 v3 v4 v5 r3 r4 r5
  generalize W.setCells (w.heap.size + 1) 0 (#[.int .i64 (tim 2 a).1, .int .i64 (tim 2 a).2.1, .int .i64 (tim 2 a).2.2, .int .i64 (add a b).1, .int .i64 (add a b).2.1, .int .i64 (add a b).2.2, .int .i64 (add c a).1, .int .i64 (add c a).2.1, .int .i64 (add c a).2.2, .int .i64 (add a b).1, .int .i64 (add a b).2.1, .int .i64 (add a b).2.2, .int .i64 (tim 2 b).1, .int .i64 (tim 2 b).2.1, .int .i64 (tim 2 b).2.2, .int .i64 (add b c).1, .int .i64 (add b c).2.1, .int .i64 (add b c).2.2, .int .i64 (add c a).1, .int .i64 (add c a).2.1, .int .i64 (add c a).2.2, .int .i64 (add b c).1, .int .i64 (add b c).2.1, .int .i64 (add b c).2.2, .int .i64 (tim 2 c).1, .int .i64 (tim 2 c).2.1, .int .i64 (tim 2 c).2.2, .int .i64 (add a b).1, .int .i64 (add a b).2.1, .int .i64 (add a b).2.2, .int .i64 (add b c).1, .int .i64 (add b c).2.1, .int .i64 (add b c).2.2, .int .i64 (add c a).1, .int .i64 (add c a).2.1, .int .i64 (add c a).2.2] : Array Value).toList = W9 at *
  go_wp2
  have e : (asAddr (.pointer (some ⟨w.heap.size + 1, 0, none⟩))).run Try.prog W9 = .ok ⟨w.heap.size + 1, 0, none⟩ W9 := by clear L; go_simp
  refine bodyPost_ret (v := .agg #[.int .i64 (tim 2 a).1, .int .i64 (tim 2 a).2.1, .int .i64 (tim 2 a).2.2, .int .i64 (add a b).1, .int .i64 (add a b).2.1, .int .i64 (add a b).2.2, .int .i64 (add c a).1, .int .i64 (add c a).2.1, .int .i64 (add c a).2.2, .int .i64 (add a b).1, .int .i64 (add a b).2.1, .int .i64 (add a b).2.2, .int .i64 (tim 2 b).1, .int .i64 (tim 2 b).2.1, .int .i64 (tim 2 b).2.2, .int .i64 (add b c).1, .int .i64 (add b c).2.1, .int .i64 (add b c).2.2, .int .i64 (add c a).1, .int .i64 (add c a).2.1, .int .i64 (add c a).2.2, .int .i64 (add b c).1, .int .i64 (add b c).2.1, .int .i64 (add b c).2.2, .int .i64 (tim 2 c).1, .int .i64 (tim 2 c).2.1, .int .i64 (tim 2 c).2.2, .int .i64 (add a b).1, .int .i64 (add a b).2.1, .int .i64 (add a b).2.2, .int .i64 (add b c).1, .int .i64 (add b c).2.1, .int .i64 (add b c).2.2, .int .i64 (add c a).1, .int .i64 (add c a).2.1, .int .i64 (add c a).2.2]) (by
    rw [results_cell rfl]
    refine (congrArg (fun r => Result.andThen r (fun a w₁ => (loadVar 109 a).run Try.prog w₁)) (show _ = Result.ok ⟨w.heap.size + 1, 0, none⟩ W9 from e)).trans ?_
    exact L) rfl ⟨rfl, B⟩

end Go.Proofs.Ytlegalibjkeccaa
