/- The reference's bytes. -/
import Derived.Test.YtdjmhagclcfnfabMath
import Derived.Test.YtdjmhagclcfnfabRows
import Derived.WalkKit
import Derived.WalkSpells
import Derived.WalkLawsBesides
import Derived.Laws.BytesArg
namespace Go.Proofs.Ytdjmhagclcfnfab
open Go.RowKit

/-- 'string([]byte{x})': the new slice of one byte, as a string. -/
theorem conv_one (wr : World) (x : Int) :
    (convert 44 9 (.slice (some ⟨wr.heap.size, 0, none⟩) 1 1)).run Try.prog (wr.alloc (.cells #[.int .u8 x] 5)) = .ok (.string ⟨#[UInt8.ofNat x.toNat]⟩) (wr.alloc (.cells #[.int .u8 x] 5)) :=
  run_convert_bytes_arg (P := Try.prog) _ 44 5 Try.underlying44 Try.underlying5 wr.heap.size 0 1 1 [x] rfl
    (fun i hi => by
      have : i = 0 := by omega
      subst this
      simp [go_sem]) 9 Try.underlying9

end Go.Proofs.Ytdjmhagclcfnfab
