/- The law Writes. -/
import Derived.Test.YtdjmhagclcfnfabPSer
import Derived.Deep.QuietTactic
import Derived.BigQuiet
namespace Go.Proofs.Ytdjmhagclcfnfab
open Go.RowKit Go.Shelf

end Go.Proofs.Ytdjmhagclcfnfab
