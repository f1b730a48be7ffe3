/- The reference's record and head. -/
import Derived.Test.YtdjmhagclcfnfabGreatCheck
import Derived.Deep.RegionHeld3
namespace Go.Proofs.YtdjmhagclcfnfabGreat
open Go.RowKit

theorem bcell {W w1 : World} (hb : Below W.heap.size W w1) : (∀ b o, b < W.heap.size → w1.cell? ⟨b, o, none⟩ = W.cell? ⟨b, o, none⟩) ∧ (∀ b o, b < W.heap.size → w1.frozen? ⟨b, o, none⟩ = W.frozen? ⟨b, o, none⟩) :=
  ⟨fun b o h => hb.cell (p := ⟨b, o, none⟩) h, fun b o h => hb.frozen (p := ⟨b, o, none⟩) h⟩

/-- A cell that lay in W0, kept from W to w'. -/
theorem keep1 {W0 W w' : World} {b o : Nat} {v : Value} (hc : W.cell? ⟨b, o, none⟩ = some v) (hB : Below W0.heap.size W0 W) (hb : Below W.heap.size W w') (hp : b < W0.heap.size) :
    w'.cell? ⟨b, o, none⟩ = some v :=
  (hb.cell (p := ⟨b, o, none⟩) (Nat.lt_of_lt_of_le hp hB.size)).trans hc
theorem keepB {W0 W w' : World} (hB : Below W0.heap.size W0 W) (hb : Below W.heap.size W w') : Below W0.heap.size W0 w' := hB.trans (hb.mono hB.size)
theorem keepS1 {W0 W w' : World} {b o : Nat} {v : Value} (hS : W.cell? ⟨b, o, none⟩ = some v ∧ Below W0.heap.size W0 W) (hb : Below W.heap.size W w') (hp : b < W0.heap.size) :
    w'.cell? ⟨b, o, none⟩ = some v ∧ Below W0.heap.size W0 w' := ⟨keep1 hS.1 hS.2 hb hp, keepB hS.2 hb⟩
theorem keepS2 {W0 W w' : World} {b o o' : Nat} {v v' : Value} (hS : W.cell? ⟨b, o, none⟩ = some v ∧ W.cell? ⟨b, o', none⟩ = some v' ∧ Below W0.heap.size W0 W) (hb : Below W.heap.size W w') (hp : b < W0.heap.size) :
    w'.cell? ⟨b, o, none⟩ = some v ∧ w'.cell? ⟨b, o', none⟩ = some v' ∧ Below W0.heap.size W0 w' := ⟨keep1 hS.1 hS.2.2 hb hp, keep1 hS.2.1 hS.2.2 hb hp, keepB hS.2.2 hb⟩
theorem keepS4 {W0 W w' : World} {b : Nat} {v0 v1 v2 v3 : Value}
    (hS : W.cell? ⟨b, 0, none⟩ = some v0 ∧ W.cell? ⟨b, 1, none⟩ = some v1 ∧ W.cell? ⟨b, 2, none⟩ = some v2 ∧ W.cell? ⟨b, 3, none⟩ = some v3 ∧ Below W0.heap.size W0 W) (hb : Below W.heap.size W w') (hp : b < W0.heap.size) :
    w'.cell? ⟨b, 0, none⟩ = some v0 ∧ w'.cell? ⟨b, 1, none⟩ = some v1 ∧ w'.cell? ⟨b, 2, none⟩ = some v2 ∧ w'.cell? ⟨b, 3, none⟩ = some v3 ∧ Below W0.heap.size W0 w' :=
  have hB := hS.2.2.2.2
  ⟨keep1 hS.1 hB hb hp, keep1 hS.2.1 hB hb hp, keep1 hS.2.2.1 hB hb hp, keep1 hS.2.2.2.1 hB hb hp, keepB hB hb⟩

theorem ret_str {s : ByteArray} {l : List UInt8} (h : s.data.toList = l) : Ending.returned (.string s) = .returned (.string ⟨l.toArray⟩) := by
  have : s = ⟨l.toArray⟩ := by
    apply ByteArray.ext
    rw [← h]
  rw [this]

/-- The bytes of a head behind the first four. -/
def headB (f t b z n : Nat) : List UInt8 := lowB f 4 ++ lowB t 4 ++ lowB b 2 ++ lowB z 2 ++ lowB n 2

end Go.Proofs.YtdjmhagclcfnfabGreat
