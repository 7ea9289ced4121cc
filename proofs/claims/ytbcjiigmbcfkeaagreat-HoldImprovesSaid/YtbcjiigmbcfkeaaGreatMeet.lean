import Derived.Test.YtbcjiigmbcfkeaaGreatBase
namespace Go.Proofs.YtbcjiigmbcfkeaaGreat
open Go.ChangeShapes Go.WideShapes Go.RowKit
attribute [local go_sem high] run_min_mn run_max_mx
end Go.Proofs.YtbcjiigmbcfkeaaGreat
