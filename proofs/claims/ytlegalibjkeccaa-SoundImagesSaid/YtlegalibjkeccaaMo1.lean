/-
  The contracts of the small words of moments: ranges, vectors, their sums and products.
-/
import Derived.Test.YtlegalibjkeccaaMo2
import Derived.Test.YtlegalibjkeccaaVPanel
import Derived.RegionTactic
import Derived.BigRegion
namespace Go.Proofs.Ytlegalibjkeccaa
open Go.ChangeShapes Go.WideShapes Go.RowKit
open Sh
theorem finr_any (n lo hi : Int) (w : World) :
    Calls Try.prog 65 #[.int .i64 n, .int .i64 lo, .int .i64 hi] w fun e w' => e = .returned (.bool (rngB n lo hi)) ∧ w = w' := by
  by_cases h : lo ≤ n
  · by_cases k : n ≤ hi
    · rw [rngB_iff.2 ⟨h, k⟩]
      go_enter Try.func65, Try.ntmps65
      go_wp2
      go_ret
      exact ⟨rfl, rfl⟩
    · rw [rngB_not.2 (fun x => k x.2)]
      have k' : decide (n ≤ hi) = false := decide_eq_false k
      clear k
      go_enter Try.func65, Try.ntmps65
      go_wp2
      go_ret
      exact ⟨rfl, rfl⟩
  · rw [rngB_not.2 (fun x => h x.1)]
    go_enter Try.func65, Try.ntmps65
    go_wp2
    go_ret
    exact ⟨rfl, rfl⟩
theorem inP_rng (a : P3) (L : Int) : inP L a = (rngB a.1 (-L) L && rngB a.2.1 (-L) L && rngB a.2.2 (-L) L) := by
  unfold inP rngB
  rw [Bool.eq_iff_iff]
  simp only [decide_eq_true_eq, Bool.and_eq_true]
  constructor
  · rintro ⟨h1, h2, h3, h4, h5, h6⟩; exact ⟨⟨⟨h1, h2⟩, ⟨h3, h4⟩⟩, ⟨h5, h6⟩⟩
  · rintro ⟨⟨⟨h1, h2⟩, ⟨h3, h4⟩⟩, ⟨h5, h6⟩⟩; exact ⟨h1, h2, h3, h4, h5, h6⟩
end Go.Proofs.Ytlegalibjkeccaa
