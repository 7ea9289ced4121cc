/-
  The law SpanWider: for every input it answers true.
-/
import Derived.Test.YthmlhpjhoolflaaWiderW
namespace Go.Proofs.Ythmlhpjhoolflaa
open Go.ChangeShapes Go.WideShapes Go.RowKit
theorem wider_walk (al ah bl bh Al Ah Bl Bh : Int) (w : World) :
    Calls Try.prog 13 #[spv al ah, spv bl bh, .agg #[.int .i64 Al, .int .i64 Ah, .int .i64 Bl, .int .i64 Bh]] w fun e w' => e = .returned (.bool true) ∧ Below w.heap.size w w' := by
  by_cases y : (Sp.hull al ah Al Ah).2 = 0
  · by_cases z : (Sp.hull bl bh Bl Bh).2 = 0
    · have h := hull_wid y
      have k := hull_wid z
      have c1 := fun W => hull_any al ah Al Ah W
      have c2 := fun W => hull_any bl bh Bl Bh W
      generalize (Sp.hull al ah Al Ah) = r1 at *
      generalize (Sp.hull bl bh Bl Bh) = r2 at *
      obtain ⟨⟨xl, xh⟩, e1⟩ := r1
      obtain ⟨⟨yl, yh⟩, e2⟩ := r2
      dsimp only at y z h k
      subst y z
      exact wider_ok al ah bl bh Al Ah Bl Bh xl xh yl yh w c1 c2
        (fun e W => encl_imp _ _ _ _ _ W (fun q => Sp.add_wide h k e q))
        (fun e W => encl_imp _ _ _ _ _ W (fun q => Sp.sub_wide h k e q))
        (fun e W => encl_imp _ _ _ _ _ W (fun q => Sp.mul_wide h k e q))
        (fun e W => encl_imp _ _ _ _ _ W (fun q => Sp.div_wide h k e q))
        (fun e W => encl_imp _ _ _ _ _ W (fun q => Sp.sq_wide h e q))
        (fun e W => encl_imp _ _ _ _ _ W (fun q => root_wide h e q))
    · exact wider_e2 _ _ _ _ _ _ _ _ _ y z
  · exact wider_e1 _ _ _ _ _ _ _ _ _ y

end Go.Proofs.Ythmlhpjhoolflaa
