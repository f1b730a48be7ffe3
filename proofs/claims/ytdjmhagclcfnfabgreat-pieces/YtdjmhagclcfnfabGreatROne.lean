/- The reference's one: a record at the front of a rest. -/
import Derived.Test.YtdjmhagclcfnfabGreatRParse
namespace Go.Proofs.YtdjmhagclcfnfabGreat
open Go.RowKit Go.Shelf

theorem tail_eq (q : List UInt8) (p : Nat) : (⟨q.toArray⟩ : ByteArray).extract p q.length = ⟨(q.drop p).toArray⟩ := by
  apply ByteArray.ext
  rw [← Array.toList_inj, tail_data]
theorem mid_eq (q : List UInt8) (p e : Nat) : (⟨q.toArray⟩ : ByteArray).extract p e = ⟨((q.drop p).take (e - p)).toArray⟩ := by
  apply ByteArray.ext
  rw [← Array.toList_inj, Lib.extract_data]

/-- What 'one' tells. -/
def OneErr (k : Int) : Ending := .returned (.tuple #[.agg #[.bool false, .int .i64 0, .string ⟨#[]⟩], .string ⟨#[]⟩, .int .i64 k])
def OneOk (r : Rc) (q : List UInt8) : Ending := .returned (.tuple #[.agg #[.bool r.free, .int .i64 r.block, .string r.data], .string ⟨q.toArray⟩, .int .i64 0])

def OneSaid (any : Bool) (b n : Nat) (last : Int) (r : Rc) (q : List UInt8) (w : World) (e : Ending) (w' : World) : Prop :=
  w.grownBy w' none ∧ ((((b : Int) ≤ n ∨ (any = false ∧ (n : Int) ≤ last)) ∧ e = OneErr 6) ∨ (((n : Int) < b ∧ (any = true ∨ last < n)) ∧ e = OneOk r q))

theorem isEmpty_false {q : List UInt8} (h : 0 < q.length) : q.isEmpty = false := by
  cases q with
  | nil => simp at h
  | cons => rfl
theorem first_byte (q : List UInt8) (h : 0 < q.length) : ((⟨q.toArray⟩ : ByteArray)[0]'h).toNat = num (q.take 1) := by
  cases q with
  | nil => simp at h
  | cons k q => simp [num]; rfl

end Go.Proofs.YtdjmhagclcfnfabGreat
