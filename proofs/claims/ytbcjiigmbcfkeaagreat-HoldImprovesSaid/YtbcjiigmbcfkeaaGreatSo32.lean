import Derived.Test.YtbcjiigmbcfkeaaGreatFiM
import Derived.Test.YtbcjiigmbcfkeaaGreatMoM
namespace Go.Proofs.YtbcjiigmbcfkeaaGreat
open Go.ChangeShapes Go.WideShapes Go.RowKit
open Sh
end Go.Proofs.YtbcjiigmbcfkeaaGreat
