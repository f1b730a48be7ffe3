/- The reference's Well: a head that may be. -/
import Derived.Test.YtpopjmkipddpgabWell
namespace Go.Proofs.Ytpopjmkipddpgab
open Go.RowKit

end Go.Proofs.Ytpopjmkipddpgab
