/- The reference's number, opens. -/
import Derived.Test.YtdjmhagclcfnfabGreatKSame
namespace Go.Proofs.YtdjmhagclcfnfabGreat
open Go.RowKit Go.Shelf

theorem tail_data (l : List UInt8) (p : Nat) : ((⟨l.toArray⟩ : ByteArray).extract p l.length).data.toList = l.drop p := by
  rw [Lib.extract_data]
  simp only []
  exact List.take_of_length_le (by simp)

/-- **opens**, of any text. -/
def openG (M : List UInt8) (least most : Nat) (l : List UInt8) : Int ⊕ (Nat × Nat × Nat × Nat × Nat) :=
  if l.length < least then .inl 2 else if l.take 4 ≠ M then .inl 3 else
  if (wellHead (headR l).1 (headR l).2.1 (headR l).2.2.1 (headR l).2.2.2.1 && decide ((headR l).2.2.2.2 ≤ if most = 0 then (headR l).2.2.1 else most)) = true then .inr (headR l) else .inl 4

theorem openG_R (l : List UInt8) : openG [83, 84, 82, 68] 18 0 l = openR l := by
  unfold openG openR headOk
  simp only [if_true]
  simp

end Go.Proofs.YtdjmhagclcfnfabGreat
