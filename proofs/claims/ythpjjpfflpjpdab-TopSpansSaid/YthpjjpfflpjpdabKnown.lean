/-
  The contracts of Of, Pi, encloses and known.
-/
import Derived.Test.YthpjjpfflpjpdabQuo
namespace Go.Proofs.Ythpjjpfflpjpdab
open Go.ChangeShapes Go.WideShapes Go.RowKit

theorem quo13 : Sp.quo (-1) 3 = ((-349526, -349525), 0) := by decide +kernel
end Go.Proofs.Ythpjjpfflpjpdab
