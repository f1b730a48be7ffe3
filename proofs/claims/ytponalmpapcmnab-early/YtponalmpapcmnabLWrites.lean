/- The law Writes. -/
import Derived.Test.YtponalmpapcmnabPSer
import Derived.Deep.QuietTactic
import Derived.BigQuiet
namespace Go.Proofs.Ytponalmpapcmnab
open Go.RowKit Go.Shelf

end Go.Proofs.Ytponalmpapcmnab
