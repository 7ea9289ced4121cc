/-
  Plain arithmetic of products and quotients of spans: no program in sight.
-/
import Derived.Test.YtbcjiigmbcfkeaaGreatNum
namespace Go.Proofs.YtbcjiigmbcfkeaaGreat
namespace Sp
end Sp
end Go.Proofs.YtbcjiigmbcfkeaaGreat
