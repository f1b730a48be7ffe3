/- The law Writes. -/
import Derived.Test.YtkmeingnhaomaabPSer
import Derived.Deep.QuietTactic
import Derived.BigQuiet
namespace Go.Proofs.Ytkmeingnhaomaab
open Go.RowKit Go.Shelf

end Go.Proofs.Ytkmeingnhaomaab
