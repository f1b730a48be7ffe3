/- The statement on Exact. -/
import Derived.Test.YtkmeingnhaomaabLExact
import Derived.Test.YtkmeingnhaomaabLWrites3
import Derived.OpenShut
import Derived.ShutString
namespace Go.Proofs.Ytkmeingnhaomaab
open Go.ChangeShapes Go.WideShapes Go.ChangeAt Go.RowKit
open Go.ChangeMaps (open_string shut_string)

theorem below_of_grown {A B : World} (h : A.grownBy B none) : Below A.heap.size A B := ⟨h.os, h.tape, h.output, h.size, fun k hk => h.block k hk (by simp)⟩

end Go.Proofs.Ytkmeingnhaomaab
