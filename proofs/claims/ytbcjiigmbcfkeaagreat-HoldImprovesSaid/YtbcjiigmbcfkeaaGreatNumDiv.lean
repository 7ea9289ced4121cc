import Derived.Test.YtbcjiigmbcfkeaaGreatNum
namespace Go.Proofs.YtbcjiigmbcfkeaaGreat
namespace Sp
end Sp
end Go.Proofs.YtbcjiigmbcfkeaaGreat
