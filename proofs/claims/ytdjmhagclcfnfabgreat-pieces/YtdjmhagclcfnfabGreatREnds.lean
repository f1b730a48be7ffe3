/- The reference's ends, and Parse. -/
import Derived.Test.YtdjmhagclcfnfabGreatRRecs
namespace Go.Proofs.YtdjmhagclcfnfabGreat
open Go.RowKit Go.Shelf

theorem four (q : List UInt8) (c : Nat) (h : 4 ≤ q.length) (hc : c < 2 ^ 32) : q.take 4 = lowB c 4 ↔ num (q.take 4) = c := by
  have hl : (q.take 4).length = 4 := by simp; omega
  constructor
  · intro e
    rw [e, num_lowB]
    omega
  · intro e
    have := lowB_num (q.take 4)
    rw [hl, e] at this
    exact this.symm

end Go.Proofs.YtdjmhagclcfnfabGreat
