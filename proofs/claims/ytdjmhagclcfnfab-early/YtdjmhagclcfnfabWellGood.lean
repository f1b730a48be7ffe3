/- The reference's Well: a head that may be. -/
import Derived.Test.YtdjmhagclcfnfabWell
namespace Go.Proofs.Ytdjmhagclcfnfab
open Go.RowKit

end Go.Proofs.Ytdjmhagclcfnfab
