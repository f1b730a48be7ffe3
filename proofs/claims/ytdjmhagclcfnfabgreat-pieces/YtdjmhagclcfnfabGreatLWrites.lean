/- The law Writes. -/
import Derived.Test.YtdjmhagclcfnfabGreatPSer
import Derived.Deep.QuietTactic
import Derived.BigQuiet
namespace Go.Proofs.YtdjmhagclcfnfabGreat
open Go.RowKit Go.Shelf

end Go.Proofs.YtdjmhagclcfnfabGreat
