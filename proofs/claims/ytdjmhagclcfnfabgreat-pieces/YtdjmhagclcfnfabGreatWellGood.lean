/- The reference's Well: a head that may be. -/
import Derived.Test.YtdjmhagclcfnfabGreatWell
namespace Go.Proofs.YtdjmhagclcfnfabGreat
open Go.RowKit

end Go.Proofs.YtdjmhagclcfnfabGreat
