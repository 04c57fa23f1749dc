/- Layer 10: whether a symbol may be, with what is behind it. -/
import Derived.Test.YtoclbodmibagpaaXA
namespace Go.Proofs.Ytoclbodmibagpaa
open Go.RowKit

end Go.Proofs.Ytoclbodmibagpaa
