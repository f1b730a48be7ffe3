/- The law Writes. -/
import Derived.Test.YtpopjmkipddpgabPSer
import Derived.Deep.QuietTactic
import Derived.BigQuiet
namespace Go.Proofs.Ytpopjmkipddpgab
open Go.RowKit Go.Shelf

end Go.Proofs.Ytpopjmkipddpgab
