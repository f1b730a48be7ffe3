/- The reference's bytes. -/
import Derived.Test.YtdjmhagclcfnfabGreatMath
import Derived.Test.YtdjmhagclcfnfabGreatRows
import Derived.WalkKit
import Derived.WalkSpells
import Derived.WalkLawsBesides
import Derived.Laws.BytesArg
namespace Go.Proofs.YtdjmhagclcfnfabGreat
open Go.RowKit

/-- 'string([]byte{x})': the new slice of one byte, as a string. -/
theorem conv_one (wr : World) (x : Int) :
    (convert 63 9 (.slice (some ⟨wr.heap.size, 0, none⟩) 1 1)).run Tryz.prog (wr.alloc (.cells #[.int .u8 x] 5)) = .ok (.string ⟨#[UInt8.ofNat x.toNat]⟩) (wr.alloc (.cells #[.int .u8 x] 5)) :=
  run_convert_bytes_arg (P := Tryz.prog) _ 63 5 Tryz.underlying63 Tryz.underlying5 wr.heap.size 0 1 1 [x] rfl
    (fun i hi => by
      have : i = 0 := by omega
      subst this
      simp [go_sem]) 9 Tryz.underlying9

end Go.Proofs.YtdjmhagclcfnfabGreat
