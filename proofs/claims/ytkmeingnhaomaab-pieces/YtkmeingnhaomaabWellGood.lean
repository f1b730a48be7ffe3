/- The reference's Well: a head that may be. -/
import Derived.Test.YtkmeingnhaomaabWell
namespace Go.Proofs.Ytkmeingnhaomaab
open Go.RowKit

end Go.Proofs.Ytkmeingnhaomaab
