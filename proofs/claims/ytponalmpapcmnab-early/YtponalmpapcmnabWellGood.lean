/- The reference's Well: a head that may be. -/
import Derived.Test.YtponalmpapcmnabWell
namespace Go.Proofs.Ytponalmpapcmnab
open Go.RowKit

end Go.Proofs.Ytponalmpapcmnab
